import PyProof.Rows.All
import Wide.All
import OpenK.AllK
import Wide.FinOn
import Lean
import PyProof.EqAt
import PyProof.EqKinds
import PyProof.TupleCall
import PySem.Challenge.RW_piecebounds_k35_papers_of_the_greatest_j
set_option Elab.async false
set_option linter.all false
set_option maxRecDepth 100000
/-! THE HAND LAYER, for ints, bools, texts, own classes, LISTS and tuples (index, slices, in, append, pop ..), calls, loops. Paste it whole ahead of your own text; what your proof does not reach may be deleted. -/
namespace L2
open PySem PySem.Spec PyProof.Rows

/-- a key: an int or a str -/
abbrev Key := Sum Int Str
def keyIs : Key → Value → Bool
  | .inl k, v => Value.isInt k v
  | .inr x, v => Value.isStrOf x v
def keyH (w : World) : Key → Int
  | .inl k => hashInt k
  | .inr x => hashStr w x
theorem keyIs_shape : ∀ {k : Key} {v : Value}, keyIs k v = true → (∃ i t, k = Sum.inl i ∧ v = Value.int i t) ∨ (∃ x t, k = Sum.inr x ∧ v = Value.str x t)
  | .inl i, v, h => by
    obtain ⟨t, e⟩ := Value.isInt_shape (k := i) (v := v) h
    exact .inl ⟨i, t, rfl, e⟩
  | .inr x, v, h => by
    obtain ⟨t, e⟩ := Value.isStrOf_shape (x := x) (v := v) h
    exact .inr ⟨x, t, rfl, e⟩
theorem keyIs_int (i : Int) (t : Tok) : keyIs (.inl i) (.int i t) = true := by simp [keyIs, Value.isInt]
theorem keyIs_str (x : Str) (t : Tok) : keyIs (.inr x) (.str x t) = true := by simp [keyIs, Value.isStrOf]
theorem key_ll (a b : Int) : decide ((Sum.inl a : Key) = Sum.inl b) = (a == b) := by
  by_cases e : a = b
  · subst e; simp
  · have h : ¬ (Sum.inl a : Key) = Sum.inl b := fun q => e (Sum.inl.inj q)
    rw [decide_eq_false h]
    exact (beq_eq_false_iff_ne.mpr e).symm
theorem key_rr (a b : Str) : decide ((Sum.inr a : Key) = Sum.inr b) = decide (a = b) := by
  by_cases e : a = b
  · subst e; simp
  · have h : ¬ (Sum.inr a : Key) = Sum.inr b := fun q => e (Sum.inr.inj q)
    rw [decide_eq_false h, decide_eq_false e]
theorem key_lr (a : Int) (b : Str) : decide ((Sum.inl a : Key) = Sum.inr b) = false := decide_eq_false (fun q => nomatch q)
theorem key_rl (a : Str) (b : Int) : decide ((Sum.inr a : Key) = Sum.inl b) = false := decide_eq_false (fun q => nomatch q)

def mixKind (prog : Program) (w : World) : PySem.KeyKind prog w Key where
  is := keyIs
  hash := keyH w
  inj := fun v a b ha hb => by
    rcases keyIs_shape ha with ⟨i, t, rfl, rfl⟩ | ⟨x, t, rfl, rfl⟩
    · rcases keyIs_shape hb with ⟨j, u, rfl, e⟩ | ⟨y, u, rfl, e⟩
      · injection e with e1 _; rw [e1]
      · exact nomatch e
    · rcases keyIs_shape hb with ⟨j, u, rfl, e⟩ | ⟨y, u, rfl, e⟩
      · exact nomatch e
      · injection e with e1 _; rw [e1]
  byValue := fun k v h => by
    rcases keyIs_shape h with ⟨i, t, rfl, rfl⟩ | ⟨x, t, rfl, rfl⟩ <;> rfl
  pyHash := fun hv h => by
    rcases keyIs_shape hv with ⟨i, t, rfl, rfl⟩ | ⟨x, t, rfl, rfl⟩
    · exact wpAny_pyHash_int h
    · exact wpAny_pyHash_str h
  eqBool := fun hu hv h => by
    rcases keyIs_shape hu with ⟨i, t, rfl, rfl⟩ | ⟨x, t, rfl, rfl⟩
    · rcases keyIs_shape hv with ⟨j, u, rfl, rfl⟩ | ⟨y, u, rfl, rfl⟩
      · rw [key_ll] at h; exact wpAny_eqBool_int h
      · rw [key_lr] at h; exact SeqAt.EqAt.int_str i t y u _ _ _ _ h
    · rcases keyIs_shape hv with ⟨j, u, rfl, rfl⟩ | ⟨y, u, rfl, rfl⟩
      · rw [key_rl] at h; exact SeqAt.EqAt.str_int x t j u _ _ _ _ h
      · rw [key_rr] at h; exact wpAny_eqBool_str h
  «strs» := fun k x t v h => by
    rcases keyIs_shape h with ⟨i, u, rfl, e⟩ | ⟨y, u, rfl, e⟩
    · exact nomatch e
    · injection e with e1 _
      subst e1
      cases v <;> rfl

theorem mixKind_int (prog : Program) (w : World) (i : Int) (t : Tok) : (mixKind prog w).is (.inl i) (.int i t) = true := keyIs_int i t
theorem mixKind_str (prog : Program) (w : World) (x : Str) (t : Tok) : (mixKind prog w).is (.inr x) (.str x t) = true := keyIs_str x t
end L2

namespace L2
open PySem PySem.Spec PyProof.Rows

/-- a value, without the heap -/
inductive V where
  | non | bl (b : Bool) | int (i : Int) | str (x : Str) | byt (b : Array UInt8) | flt (b : UInt64) | ref (a : Addr) | ty (n : String)
  deriving DecidableEq

def RelV : V → Value → Prop
  | .non, u => u = Value.none
  | .bl b, u => u = Value.bool b
  | .int i, u => ∃ t, u = Value.int i t
  | .str x, u => ∃ t, u = Value.str x t
  | .byt b, u => ∃ t, u = Value.bytes b t
  | .flt b, u => ∃ t, u = Value.float b t
  | .ref a, u => u = Value.ref a
  | .ty n, u => u = Value.type n

abbrev Vals : List V → List Value → Prop := Paired RelV
theorem Vals.length {xs : List V} {us : List Value} (r : Vals xs us) : xs.length = us.length := Paired.length r
theorem Vals.get : ∀ {xs : List V} {us : List Value} {i : Nat} {x : V}, Vals xs us → xs[i]? = some x → ∃ u, us[i]? = some u ∧ RelV x u
  | _, _, _, _, .nil, e => by simp at e
  | _, _, 0, _, .cons r _, e => by simp at e; subst e; exact ⟨_, rfl, r⟩
  | _, _, i + 1, x, .cons _ t, e => by
    obtain ⟨u, h1, h2⟩ := Vals.get (i := i) (x := x) t (by simpa using e)
    exact ⟨u, by simpa using h1, h2⟩
theorem Vals.set {x : V} {u : Value} (r : RelV x u) : ∀ {xs : List V} {us : List Value} (i : Nat), Vals xs us → Vals (xs.set i x) (us.set i u)
  | _, _, _, .nil => .nil
  | _, _, 0, .cons _ t => .cons r t
  | _, _, i + 1, .cons q t => .cons q (Vals.set r i t)
theorem Vals.append : ∀ {xs ys : List V} {us ws : List Value}, Vals xs us → Vals ys ws → Vals (xs ++ ys) (us ++ ws)
  | _, _, _, _, .nil, s => s
  | _, _, _, _, .cons r t, s => .cons r (Vals.append t s)
theorem Vals.take : ∀ {xs : List V} {us : List Value} (n : Nat), Vals xs us → Vals (xs.take n) (us.take n)
  | _, _, 0, _ => .nil
  | _, _, _ + 1, .nil => .nil
  | _, _, n + 1, .cons r t => .cons r (Vals.take n t)
theorem Vals.drop : ∀ {xs : List V} {us : List Value} (n : Nat), Vals xs us → Vals (xs.drop n) (us.drop n)
  | _, _, 0, r => r
  | _, _, _ + 1, .nil => .nil
  | _, _, n + 1, .cons _ t => Vals.drop n t
def RelO : Option V → Option Value → Prop
  | some v, some u => RelV v u
  | none, none => True
  | _, _ => False
def KV {κ : Type} : List (κ × V) → List (κ × Value) → Prop := Paired fun (p : κ × V) (q : κ × Value) => p.1 = q.1 ∧ RelV p.2 q.2

/-- a key of a dict (00_mix): an int or a text -/
def kV : Key → V
  | .inl i => .int i
  | .inr x => .str x

/-- what stands at a tracked address -/
inductive HO where
  /-- a list -/
  | lst (xs : List V)
  /-- a tuple (never changes) -/
  | tup (xs : List V)
  /-- a dict whose keys are ints and texts; one whose keys are tuples of ints and texts (the empty one is both) -/
  | dK (kvs : List (Key × V)) | dT (kvs : List (List Key × V))
  /-- a set of ints: its members, its size -/
  | set (S : Int → Bool) (n : Nat)
  /-- an instance of the class at C, its dict at dx, its attributes -/
  | ins (C dx : Addr) (fs : List (Str × V))
  /-- the dict of the instance at x -/
  | own (x : Addr)
  /-- the dict of an exception -/
  | xd (fs : List (Str × V))
  /-- a bound method, f of x -/
  | met (f x : Addr)
  /-- a range object lo, lo + 1, .. below hi -/
  | rng (lo hi : Int)
  /-- a thing that is known to the object (the script; a dict while a loop walks it): read, never written while it is so -/
  | frz (o : Obj) (u : HO)
  /-- a code object's table -/
  | tbl (ps : Array Value)
  /-- any other thing, by what is true of its one object (a def of one's own: SetO a S n := HO.ext fun h => ..) -/
  | ext (φ : Heap → Prop)

abbrev Hp := Addr → Option HO
def upd (H : Hp) (a : Addr) (o : HO) : Hp := fun b => if b = a then some o else H b
theorem upd_same {H : Hp} {a : Addr} {o : HO} : upd H a o a = some o := by unfold upd; rw [if_pos rfl]
theorem upd_ne {H : Hp} {a b : Addr} {o : HO} (h : b ≠ a) : upd H a o b = H b := by unfold upd; rw [if_neg h]
theorem upd_upd {H : Hp} {a : Addr} {o u : HO} : upd (upd H a o) a u = upd H a u := by
  funext b; unfold upd; split <;> rfl
theorem ne_of_none {H : Hp} {a b : Addr} {o : HO} (h : H a = some o) (h' : H b = none) : a ≠ b := by
  intro e; subst e; rw [h] at h'; cases h'

section
variable (P : Program) (w : World)
def ObjOk (H : Hp) (h : Heap) (a : Addr) : HO → Prop
  | .lst xs => xs.length ≤ sizeLine ∧ ∃ (its : List Value) (n : Nat), Vals xs its ∧ h.get? a = some { cls := .type "list", data := .seq its.toArray n }
  | .tup xs => xs.length ≤ sizeLine ∧ ∃ its : List Value, Vals xs its ∧ IsTup h a its.toArray
  | .dK kvs => kvs.length ≤ sizeLine ∧ (a == sysModules) = false ∧ ∃ vs, KV kvs vs ∧ h.DictOf (mixKind P w) a vs
  | .dT kvs => kvs.length ≤ sizeLine ∧ (a == sysModules) = false ∧ ∃ xs : List (List Key × Addr × Value),
      Paired (fun (p : List Key × V) (q : List Key × Addr × Value) => p.1 = q.1 ∧ H q.2.1 = some (.tup (p.1.map kV)) ∧ RelV p.2 q.2.2) kvs xs ∧
      ∃ o es ep, h.get? a = some o ∧ o.ExactDict ∧ o.data = .dict es ep ∧ es.toList = xs.map (entryOfKey (tupleKind (mixKind P w))) ∧ (xs.map (·.1)).Nodup
  | .set S n => h.SetOf (intKind P w) a S n
  | .ins C dx fs => H dx = some (.own a) ∧ fs.length ≤ 1000 ∧ dx ≠ a ∧ h.get? a = some (PySem.W.instObj C dx) ∧
      ∃ mA, h.Ns1 dx mA ∧ (∀ f, RelO (fs.lookup f) (mA f)) ∧ PySem.Within mA (fs.map (·.1))
  | .own _ => ∃ o, h.get? a = some o
  | .xd fs => ∃ mA, h.Ns1 a mA ∧ ∀ f, RelO (fs.lookup f) (mA f)
  | .rng lo hi => ∃ t u v, h.get? a = some { cls := .type "range", data := .fields #[.int lo t, .int hi u, .int 1 v] }
  | .frz o u => h.get? a = some o ∧ ObjOk H h a u
  | .tbl ps => h.get? a = some { cls := .none, data := .fields ps }
  | .met f x => h.get? a = some (PySem.W.methodObj (.ref f) (.ref x))
  | .ext φ => φ h ∧ (∃ o, h.get? a = some o) ∧ ∀ h1 h2 : Heap, φ h1 → (∀ o, h1.get? a = some o → h2.get? a = some o) → φ h2
/-- the abstract heap is held -/
def HOk (H : Hp) (h : Heap) : Prop := ∀ a o, H a = some o → ObjOk P w H h a o
end

section
variable {P : Program} {w : World} {H H' : Hp} {h h' : Heap} {a : Addr} {o : HO}
theorem ObjOk.lt (x : ObjOk P w H h a o) : a < h.objs.size := by
  cases o with
  | lst xs => obtain ⟨_, _, _, _, e⟩ := x; exact Heap.lt_size e
  | tup xs => obtain ⟨_, _, _, p⟩ := x; exact p.lt
  | dK kvs => obtain ⟨_, _, _, _, o, _, _, e, _⟩ := x; exact Heap.lt_size e
  | dT kvs => obtain ⟨_, _, _, _, o, _, _, e, _⟩ := x; exact Heap.lt_size e
  | set S n => obtain ⟨o, _, _, _, e, _⟩ := x; exact Heap.lt_size e
  | ins C dx fs => obtain ⟨_, _, _, e, _⟩ := x; exact Heap.lt_size e
  | own y => obtain ⟨_, e⟩ := x; exact Heap.lt_size e
  | xd fs => obtain ⟨_, ⟨_, _, _, e, _⟩, _⟩ := x; exact Heap.lt_size e
  | rng lo hi => obtain ⟨_, _, _, e⟩ := x; exact Heap.lt_size e
  | frz ob u => obtain ⟨e, _⟩ := x; exact Heap.lt_size e
  | tbl ps => exact Heap.lt_size (show h.get? a = some _ from x)
  | met f y => exact Heap.lt_size (show h.get? a = some _ from x)
  | ext φ => obtain ⟨_, ⟨_, e⟩, _⟩ := x; exact Heap.lt_size e
theorem Paired.mapP {α β : Type} {F G : α → β → Prop} : ∀ {l₁ : List α} {l₂ : List β}, Paired F l₁ l₂ → (∀ a b, F a b → G a b) → Paired G l₁ l₂
  | _, _, .nil, _ => .nil
  | _, _, .cons r t, f => .cons (f _ _ r) (Paired.mapP t f)
theorem Paired.imp' {α β : Type} {F G : α → β → Prop} (f : ∀ a b, F a b → G a b) {l₁ : List α} {l₂ : List β} (r : Paired F l₁ l₂) : Paired G l₁ l₂ := Paired.mapP r f
/-- what an object's description leans on: its own object, its own dict, the tuples -/
theorem ObjOk.stay (x : ObjOk P w H h a o) (k : ∀ b u, (b = a ∨ H b = some (.own a)) → h.get? b = some u → h'.get? b = some u)
    (ho : ∀ b, H b = some (.own a) → H' b = some (.own a)) (ht : ∀ b xs, H b = some (.tup xs) → H' b = some (.tup xs)) : ObjOk P w H' h' a o := by
  induction o with
  | lst xs => obtain ⟨z, its, n, r, e⟩ := x; exact ⟨z, its, n, r, k _ _ (.inl rfl) e⟩
  | tup xs => obtain ⟨z, its, r, ob, e, c⟩ := x; exact ⟨z, its, r, ob, k _ _ (.inl rfl) e, c⟩
  | dK kvs => obtain ⟨z, y, vs, r, ob, es, ep, e, c⟩ := x; exact ⟨z, y, vs, r, ob, es, ep, k _ _ (.inl rfl) e, c⟩
  | dT kvs =>
    obtain ⟨z, y, xs, r, ob, es, ep, e, c⟩ := x
    exact ⟨z, y, xs, Paired.mapP r fun p q z => ⟨z.1, ht _ _ z.2.1, z.2.2⟩, ob, es, ep, k _ _ (.inl rfl) e, c⟩
  | set S n => obtain ⟨ob, es, ep, t, e, c⟩ := x; exact ⟨ob, es, ep, t, k _ _ (.inl rfl) e, c⟩
  | ins C dx fs =>
    obtain ⟨d, z, ne, e, mA, ⟨od, es, ep, e2, c⟩, r⟩ := x
    exact ⟨ho _ d, z, ne, k _ _ (.inl rfl) e, mA, ⟨od, es, ep, k _ _ (.inr d) e2, c⟩, r⟩
  | own y => obtain ⟨ob, e⟩ := x; exact ⟨ob, k _ _ (.inl rfl) e⟩
  | xd fs => obtain ⟨mA, ⟨od, es, ep, e, c⟩, r⟩ := x; exact ⟨mA, ⟨od, es, ep, k _ _ (.inl rfl) e, c⟩, r⟩
  | rng lo hi => obtain ⟨t, u, v, e⟩ := x; exact ⟨t, u, v, k _ _ (.inl rfl) e⟩
  | frz ob u ih => obtain ⟨e, q⟩ := x; exact ⟨k _ _ (.inl rfl) e, ih q⟩
  | tbl ps =>
    have e : h.get? a = some { cls := .none, data := .fields ps } := x
    show h'.get? a = some { cls := .none, data := .fields ps }
    exact k a _ (.inl rfl) e
  | met f y =>
    have e : h.get? a = some (PySem.W.methodObj (.ref f) (.ref y)) := x
    show h'.get? a = some (PySem.W.methodObj (.ref f) (.ref y))
    exact k a _ (.inl rfl) e
  | ext φ => obtain ⟨p, ⟨o, e⟩, st⟩ := x; exact ⟨st _ _ p fun o q => k _ _ (.inl rfl) q, ⟨o, k _ _ (.inl rfl) e⟩, st⟩
theorem HOk.lt (x : HOk P w H h) (e : H a = some o) : a < h.objs.size := (x a o e).lt
theorem HOk.fresh (x : HOk P w H h) (e : h.objs.size ≤ a) : H a = none := by
  cases q : H a with
  | none => rfl
  | some u => exact absurd (Nat.lt_of_lt_of_le (x.lt q) e) (Nat.lt_irrefl _)
/-- every object of the heap is kept -/
theorem HOk.kept (x : HOk P w H h) (k : ∀ b u, h.get? b = some u → h'.get? b = some u) : HOk P w H h' := fun a o e =>
  (x a o e).stay (fun b u _ q => k b u q) (fun _ q => q) fun _ _ q => q
/-- a new object is laid and tracked -/
theorem HOk.laid (x : HOk P w H h) (k : ∀ b u, h.get? b = some u → h'.get? b = some u) (hp : h.objs.size ≤ a) (new : ObjOk P w (upd H a o) h' a o) : HOk P w (upd H a o) h' := fun b u e => by
  have hn := x.fresh hp
  by_cases hb : b = a
  · subst hb; rw [upd_same] at e; cases e; exact new
  · rw [upd_ne hb] at e
    exact (x b u e).stay (fun c v _ q => k c v q) (fun c q => by rw [upd_ne (ne_of_none q hn)]; exact q) fun c xs q => by rw [upd_ne (ne_of_none q hn)]; exact q
end

/-- what may be read as u: it is u, or a known u -/
def Rd (H : Hp) (a : Addr) (u : HO) : Prop := H a = some u ∨ ∃ o, H a = some (.frz o u)
theorem Rd.ok {P : Program} {w : World} {H : Hp} {h : Heap} {a : Addr} {u : HO} (r : Rd H a u) (x : HOk P w H h) : ObjOk P w H h a u := by
  rcases r with r | ⟨o, r⟩
  · exact x a u r
  · obtain ⟨_, q⟩ := x a _ r
    exact q
/-- what may be written -/
def Mut : Option HO → Prop
  | some (.lst _) => True
  | some (.dK _) => True
  | some (.dT _) => True
  | some (.set _ _) => True
  | some (.ins _ _ _) => True
  | some (.ext _) => True
  | _ => False
section
variable {P : Program} {w : World} {H : Hp} {h h' : Heap} {x e : Addr} {o' : HO}
/-- the object at e is changed: x itself, or the dict of the instance x -/
theorem HOk.write (ok : HOk P w H h) (mu : Mut (H x)) (he : e = x ∨ H e = some (.own x)) (k : ∀ b u, b ≠ e → h.get? b = some u → h'.get? b = some u) (heo : ∃ u, h'.get? e = some u)
    (new : ObjOk P w (upd H x o') h' x o') : HOk P w (upd H x o') h' := fun b u q => by
  have nown : ∀ c y, H c = some (.own y) → c ≠ x := fun c y r z => by subst z; rw [r] at mu; exact mu
  have ntup : ∀ c xs, H c = some (.tup xs) → c ≠ x := fun c xs r z => by subst z; rw [r] at mu; exact mu
  by_cases hb : b = x
  · subst hb; rw [upd_same] at q; cases q; exact new
  · rw [upd_ne hb] at q
    by_cases hbe : b = e
    · have q' : H b = some (.own x) := by
        rcases he with z | z
        · exact absurd (hbe.trans z) hb
        · rw [hbe]; exact z
      rw [q] at q'; cases q'
      obtain ⟨v, hv⟩ := heo
      exact ⟨v, by rw [hbe]; exact hv⟩
    · refine (ok b u q).stay (fun c v hc r => k c v ?_ r) (fun c r => by rw [upd_ne (nown c b r)]; exact r) fun c xs r => by rw [upd_ne (ntup c xs r)]; exact r
      rcases hc with rfl | hc
      · exact hbe
      · rintro rfl
        rcases he with z | z
        · exact nown c b hc z
        · rw [hc] at z; cases z; exact hb rfl
end

/-! ### kept unless tracked; of the frames at fs (the callers') the slots may change (an exception that passes writes there); of the records at ex (iterators) nothing is said -/
structure Un (fs ex : List Addr) (H H' : Hp) (h h' : Heap) : Prop where
  keep : ∀ b o, h.get? b = some o → H b = none → b ∉ fs → b ∉ ex → h'.get? b = some o
  slot : ∀ b o, h.get? b = some o → H b = none → b ∈ fs → b ∉ ex → ∃ sl, h'.get? b = some { o with slots := sl }
  free : ∀ b o, h.get? b = some o → H b = none → b ∉ ex → H' b = none
  there : ∀ b o, h.get? b = some o → b ∉ ex → ∃ o', h'.get? b = some o'
  tups : ∀ b xs, H b = some (.tup xs) → H' b = some (.tup xs)
  frzs : ∀ b o u, H b = some (.frz o u) → H' b = some (.frz o u)
  tbls : ∀ b ps, H b = some (.tbl ps) → ∃ more, H' b = some (.tbl (ps ++ more))
section
variable {fs fs' ex ex' : List Addr} {H H1 H2 : Hp} {h h1 h2 h' : Heap} {a x e : Addr} {o : HO}
theorem Un.any (u : Un fs ex H H1 h h1) {b : Addr} {ob : Obj} (q : h.get? b = some ob) (n : H b = none) (hx : b ∉ ex) : ∃ sl, h1.get? b = some { ob with slots := sl } := by
  by_cases hb : b ∈ fs
  · exact u.slot b ob q n hb hx
  · exact ⟨ob.slots, u.keep b ob q n hb hx⟩
theorem Un.trans (a : Un fs ex H H1 h h1) (b : Un fs ex H1 H2 h1 h2) : Un fs ex H H2 h h2 where
  keep := fun c ob q n hc hx => b.keep c ob (a.keep c ob q n hc hx) (a.free c ob q n hx) hc hx
  slot := fun c ob q n hc hx => by
    obtain ⟨sl, e1⟩ := a.slot c ob q n hc hx
    obtain ⟨sl', e2⟩ := b.slot c _ e1 (a.free c ob q n hx) hc hx
    exact ⟨sl', e2⟩
  free := fun c ob q n hx => by
    obtain ⟨o', e1⟩ := a.there c ob q hx
    exact b.free c o' e1 (a.free c ob q n hx) hx
  there := fun c ob q hx => by
    obtain ⟨o', e1⟩ := a.there c ob q hx
    exact b.there c o' e1 hx
  tups := fun c xs q => b.tups c xs (a.tups c xs q)
  frzs := fun c ob xs q => b.frzs c ob xs (a.frzs c ob xs q)
  tbls := fun c ps q => by
    obtain ⟨m1, e1⟩ := a.tbls c ps q
    obtain ⟨m2, e2⟩ := b.tbls c _ e1
    exact ⟨m1 ++ m2, by rw [e2, Array.append_assoc]⟩
theorem Un.kept (k : ∀ b u, h.get? b = some u → h'.get? b = some u) : Un fs ex H H h h' :=
  ⟨fun b ob q _ _ _ => k b ob q, fun b ob q _ _ _ => ⟨ob.slots, k b ob q⟩, fun _ _ _ n _ => n, fun b ob q _ => ⟨ob, k b ob q⟩, fun _ _ q => q, fun _ _ _ q => q, fun _ ps q => ⟨#[], by rw [q]; simp⟩⟩
theorem Un.refl : Un fs ex H H h h := Un.kept fun _ _ q => q
theorem Un.laid (k : ∀ b u, h.get? b = some u → h'.get? b = some u) (hp : h.objs.size ≤ a) (hn : H a = none) : Un fs ex H (upd H a o) h h' where
  keep := fun b u q _ _ _ => k b u q
  slot := fun b u q _ _ _ => ⟨u.slots, k b u q⟩
  free := fun b u q n _ => by rw [upd_ne (Nat.ne_of_lt (Nat.lt_of_lt_of_le (Heap.lt_size q) hp))]; exact n
  there := fun b u q _ => ⟨u, k b u q⟩
  tups := fun b xs q => by rw [upd_ne (ne_of_none q hn)]; exact q
  frzs := fun b u xs q => by rw [upd_ne (ne_of_none q hn)]; exact q
  tbls := fun b ps q => ⟨#[], by rw [upd_ne (ne_of_none q hn), q]; simp⟩
theorem Un.write (mu : Mut (H x)) (he : e = x ∨ H e = some (.own x)) (k : ∀ b u, b ≠ e → h.get? b = some u → h'.get? b = some u) (heo : ∃ u, h'.get? e = some u) : Un fs ex H (upd H x o) h h' := by
  have hx : ∀ b, H b = none → b ≠ x := fun b n z => by subst z; rw [n] at mu; exact mu
  have hb : ∀ b, H b = none → b ≠ e := fun b n z => by
    subst z
    rcases he with r | r
    · exact hx b n r
    · rw [n] at r; cases r
  have hm : ∀ b u, H b = some u → ¬ Mut (some u) → b ≠ x := fun b u q nm z => by subst z; rw [q] at mu; exact nm mu
  refine ⟨fun b u q n _ _ => k b u (hb b n) q, fun b u q n _ _ => ⟨u.slots, k b u (hb b n) q⟩, fun b u q n _ => by rw [upd_ne (hx b n)]; exact n, fun b u q _ => ?_,
    fun b xs q => by rw [upd_ne (hm b _ q fun z => z)]; exact q, fun b u xs q => by rw [upd_ne (hm b _ q fun z => z)]; exact q, fun b ps q => ⟨#[], by rw [upd_ne (hm b _ q fun z => z), q]; simp⟩⟩
  by_cases hbe : b = e
  · subst hbe; exact heo
  · exact ⟨u, k b u hbe q⟩
end

/-! ### the heap without what is tracked -/
def trk (h : Heap) (H : Hp) : List Addr := (List.range h.objs.size).filter fun a => (H a).isSome
def hidT (h : Heap) (H : Hp) : Heap := PySem.W.hideAll h (trk h H)
theorem hidT_size (h : Heap) (H : Hp) : (hidT h H).objs.size = h.objs.size := PySem.W.hideAll_size _ _
theorem hidT_get {h : Heap} {H : Hp} {b : Addr} {o : Obj} (e : h.get? b = some o) (n : H b = none) : (hidT h H).get? b = some o :=
  PySem.W.hideAll_get _ e fun hm => by
    have q : (H b).isSome = true := (List.mem_filter.mp hm).2
    rw [n] at q; simp at q
theorem of_hidT {h : Heap} {H : Hp} {b : Addr} {o : Obj} (e : (hidT h H).get? b = some o) : h.get? b = some o ∧ H b = none := by
  have e' : h.get? b = some o := PySem.W.of_hideAll (trk h H) e
  refine ⟨e', ?_⟩
  cases q : H b with
  | none => rfl
  | some x =>
    have hm : b ∈ trk h H := List.mem_filter.mpr ⟨List.mem_range.mpr (Heap.lt_size e'), by simp [q]⟩
    have z : (hidT h H).get? b = none := PySem.W.hideAll_none (trk h H) hm
    rw [z] at e; cases e

/-! ### OpenK's ledger, filled with every new object but one -/
end L2

namespace L2
open PySem PySem.Spec PyProof.Rows

/-- the module's facts, over the base: the heap at the law's entry without what is tracked there -/
structure Mod (K : PySem.W.Frag) (mg : Str → Option Value) (base : Heap) : Prop where
  kin : K.In base
  glob : base.Ns mainGlobals mg
  blt : ∃ mb, base.Ns builtinsNs mb ∧ ∀ x : Str, x ≠ "__name__" → mb x = bootBuiltins x
  nolimit : base.NoLimit

/-- the context: a def's body (or a comprehension's block) running. base: fixed through the whole law; s₀, H₀: the entry; outer: the frames whose slots others may change (a def's callers); stack: all frames that run;
   ex: iterators that were made ahead of the entry and are walked here (a comprehension's); fn: the names whose cells were made at the entry (a def: all; a comprehension's block: its own); calm: not within an except suite; pn: pins that every state bears; xe: what is wanted of an exception that leaves the code -/
structure Cx where
  prog : Program
  w : World
  K : PySem.W.Frag
  mg : Str → Option Value
  base : Heap
  A : Around
  N : List Str
  s₀ : Shared
  H₀ : Hp
  env : Env
  outer : List Env
  stack : List Env
  ex : List Addr
  fn : Str → Bool
  calm : Bool
  pn : List (Addr × Obj)
  xe : Value → Shared → Prop
/-- the callers' frames -/
def frs (l : List Env) : List Addr := l.filterMap (·.frame)
abbrev Cx.fs (X : Cx) : List Addr := frs X.outer

def Vis (sc : Scope) (x : Str) : Prop := sc.names.lookup x = some .local ∨ sc.names.lookup x = some .cell ∨ sc.names.lookup x = some .free
def Loc (sc : Scope) (x : Str) : Prop := sc.names.lookup x = some .local ∨ sc.names.lookup x = some .cell
def Look (env : Env) (h : Heap) (m : Str → Option Value) (x : Str) (u : Value) : Prop :=
  (env.kindOf x = some .local ∧ m x = some u) ∨ ((env.kindOf x = some .cell ∨ env.kindOf x = some .free) ∧ ∃ c, env.cells.lookup x = some c ∧ h.IsCell c (some u))

structure Cx.Ok (X : Cx) : Prop where
  mod : Mod X.K X.mg X.base
  kind : X.env.scope.kind = .function
  glob : X.env.globals = mainGlobals
  blt : X.env.builtins = builtinsNs
  above : X.s₀.heap.objs.size ≤ X.env.locals
  inj : ∀ x y c, X.env.cells.lookup x = some c → X.env.cells.lookup y = some c → x = y
  has : ∀ x, (X.env.kindOf x = some .cell ∨ X.env.kindOf x = some .free) → ∃ c, X.env.cells.lookup x = some c
  cab : ∀ x c, X.fn x = true → X.env.cells.lookup x = some c → X.s₀.heap.objs.size ≤ c
  hd : X.calm = true → X.A.handled = none
  frames : X.A.frames = some X.stack
  stk : X.stack = X.outer ∨ (X.stack = X.env :: X.outer ∧ X.env.frame = some X.env.locals)
  exf : ∀ b ∈ X.ex, b ≠ X.env.locals ∧ ∀ x c, X.env.cells.lookup x = some c → c ≠ b
  bs : ∀ b o, X.base.get? b = some o → X.s₀.heap.get? b = some o ∧ X.H₀ b = none
  bsz : X.base.objs.size ≤ X.s₀.heap.objs.size
  noex : ∀ b o, X.base.get? b = some o → b ∉ X.ex
  exfs : ∀ b ∈ X.ex, b ∉ X.fs
  funs : X.s₀.heap.FunFrames X.base X.outer
  frf : ∀ b ∈ X.fs, X.H₀ b = none

structure Inv (X : Cx) (pins : List (Addr × Obj)) (σ : List (Option V)) (H : Hp) (s : Shared) : Prop where
  ok : X.Ok
  os : s.os = X.s₀.os
  bare : AllBare s.gens
  base : Un X.fs X.ex X.H₀ H X.s₀.heap s.heap
  loc : ∃ m, s.heap.Ns X.env.locals m ∧ ∀ (i : Nat) (x : Str) (v : V), X.N[i]? = some x → σ[i]? = some (some v) → Vis X.env.scope x → ∃ u, RelV v u ∧ Look X.env s.heap m x u
  cell : ∀ x c, X.env.cells.lookup x = some c → ∃ v, s.heap.IsCell c v
  free : H X.env.locals = none
  freeC : ∀ x c, X.env.cells.lookup x = some c → H c = none
  pin : ∀ p ∈ X.pn ++ pins, s.heap.get? p.1 = some p.2 ∧ H p.1 = none ∧ p.1 ≠ X.env.locals ∧ p.1 ∉ X.fs ∧ ∀ v, p.2.data ≠ .cell v
  hok : HOk X.prog X.w H s.heap
  len : σ.length = X.N.length

section
variable {X : Cx} {pins : List (Addr × Obj)} {σ : List (Option V)} {H H' : Hp} {s : Shared} {h' : Heap}

theorem Cx.Ok.nofr (ok : X.Ok) {b : Addr} {o : Obj} (e : X.base.get? b = some o) : b ∉ X.fs := fun hb => by
  have := (ok.funs.mem hb).1
  rw [e] at this; cases this
theorem Inv.bs (I : Inv X pins σ H s) : ∀ b o, X.base.get? b = some o → s.heap.get? b = some o ∧ H b = none := fun b o e =>
  ⟨I.base.keep b o (I.ok.bs b o e).1 (I.ok.bs b o e).2 (I.ok.nofr e) (I.ok.noex b o e), I.base.free b o (I.ok.bs b o e).1 (I.ok.bs b o e).2 (I.ok.noex b o e)⟩
theorem Inv.bk (I : Inv X pins σ H s) : ∀ b o, X.base.get? b = some o → s.heap.get? b = some o := fun b o e => (I.bs b o e).1
theorem Inv.mod (I : Inv X pins σ H s) : Mod X.K X.mg X.base := I.ok.mod
theorem Inv.kIn (I : Inv X pins σ H s) : X.K.In s.heap := I.ok.mod.kin.keeps I.bk
theorem Inv.lt (I : Inv X pins σ H s) : X.env.locals < s.heap.objs.size := let ⟨_, hn, _⟩ := I.loc; hn.lt
theorem Inv.sz (I : Inv X pins σ H s) : X.s₀.heap.objs.size ≤ s.heap.objs.size := Nat.le_trans I.ok.above (Nat.le_of_lt I.lt)
theorem Inv.nofs (I : Inv X pins σ H s) {a : Addr} (h : s.heap.objs.size ≤ a) : a ∉ X.fs := fun hb => by
  obtain ⟨_, o, ho, _⟩ := I.ok.funs.mem hb
  exact absurd (Nat.lt_of_lt_of_le (Heap.lt_size ho) (Nat.le_trans I.sz h)) (Nat.lt_irrefl _)
theorem Inv.cne (I : Inv X pins σ H s) : ∀ x c, X.env.cells.lookup x = some c → c ≠ X.env.locals := fun x c e z => by
  obtain ⟨v, o, ho, hd⟩ := I.cell x c e
  obtain ⟨m, ⟨o', es, ep, ho', hd', _⟩, _⟩ := I.loc
  rw [z, ho'] at ho; cases ho; rw [hd'] at hd; cases hd
theorem Inv.funs (I : Inv X pins σ H s) : s.heap.FunFrames X.base X.outer := by
  have all : ∀ (l : List Env), (∀ b ∈ frs l, b ∈ X.fs) → X.s₀.heap.FunFrames X.base l → s.heap.FunFrames X.base l := by
    intro l
    induction l with
    | nil => intro _ _; trivial
    | cons env r ih =>
      intro hs hl
      obtain ⟨hk, ⟨L, o, hf, hn, ho, hd⟩, hr⟩ := hl
      have hL : L ∈ X.fs := hs L (by unfold frs; rw [List.filterMap_cons, hf]; exact List.mem_cons_self)
      obtain ⟨sl, e⟩ := I.base.slot L o ho (I.ok.frf L hL) hL fun z => I.ok.exfs L z hL
      exact ⟨hk, ⟨L, _, hf, hn, e, hd⟩, ih (fun b hb => hs b (by unfold frs; rw [List.filterMap_cons, hf]; exact List.mem_cons_of_mem _ hb)) hr⟩
  exact all X.outer (fun _ hb => hb) I.ok.funs

/-- the frames that run, for a call -/
theorem Inv.stack (I : Inv X pins σ H s) : s.heap.FunFrames X.base X.stack := by
  rcases I.ok.stk with e | ⟨e, hf⟩
  · rw [e]; exact I.funs
  · rw [e]
    obtain ⟨m, hn, _⟩ := I.loc
    refine .cons (by rw [I.ok.kind]; decide) hf hn ?_ I.funs
    exact Heap.get?_none_of_le (Nat.le_trans I.ok.bsz I.ok.above)
theorem Inv.stkSub (I : Inv X pins σ H s) : ∀ b ∈ frs X.stack, b ∈ X.env.locals :: X.fs := fun b hb => by
  rcases I.ok.stk with e | ⟨e, hf⟩
  · rw [e] at hb; exact List.mem_cons_of_mem _ hb
  · rw [e] at hb
    unfold frs at hb
    rw [List.filterMap_cons, hf] at hb
    exact hb
theorem Inv.stkFree (I : Inv X pins σ H s) : ∀ b ∈ frs X.stack, H b = none := fun b hb => by
  rcases List.mem_cons.mp (I.stkSub b hb) with e | hb
  · rw [e]; exact I.free
  · obtain ⟨_, o, ho, _⟩ := I.ok.funs.mem hb
    exact I.base.free b o ho (I.ok.frf b hb) fun z => I.ok.exfs b z hb

/-- THE STEP: the untracked objects but the frame and the records at ch are kept (the callers' frames up to slots), the frame's map is kept, the new abstract heap is held -/
theorem Inv.step {g' : Array GenState} {t' : Nat} {d' : Drawn} {ch : List Addr} (I : Inv X pins σ H s)
    (hch : ∀ b ∈ ch, (b ∈ X.ex ∨ X.s₀.heap.objs.size ≤ b) ∧ b ≠ X.env.locals ∧ (∀ x c, X.env.cells.lookup x = some c → c ≠ b) ∧ ∀ p ∈ X.pn ++ pins, p.1 ≠ b)
    (keep : ∀ b o, b ≠ X.env.locals → b ∉ X.fs → b ∉ ch → s.heap.get? b = some o → H b = none → h'.get? b = some o)
    (slot : ∀ b o, b ≠ X.env.locals → b ∈ X.fs → b ∉ ch → s.heap.get? b = some o → H b = none → ∃ sl, h'.get? b = some { o with slots := sl }) (free : ∀ b o, b ∉ ch → s.heap.get? b = some o → H b = none → H' b = none)
    (there : ∀ b o, b ∉ ch → s.heap.get? b = some o → ∃ o', h'.get? b = some o')
    (tups : ∀ b xs, H b = some (.tup xs) → H' b = some (.tup xs)) (frzs : ∀ b o u, H b = some (.frz o u) → H' b = some (.frz o u)) (tbls : ∀ b ps, H b = some (.tbl ps) → ∃ more, H' b = some (.tbl (ps ++ more)))
    (ns : ∀ m, s.heap.Ns X.env.locals m → h'.Ns X.env.locals m) (hok : HOk X.prog X.w H' h') (hg : AllBare g') :
    Inv X pins σ H' { s with heap := h', gens := g', drawn := d', toks := t' } := by
  have neL : ∀ b o, X.s₀.heap.get? b = some o → b ≠ X.env.locals := fun b o e => Nat.ne_of_lt (Nat.lt_of_lt_of_le (Heap.lt_size e) I.ok.above)
  have neC : ∀ b o, X.s₀.heap.get? b = some o → b ∉ X.ex → b ∉ ch := fun b o e hx hb => by
    rcases (hch b hb).1 with z | z
    · exact hx z
    · exact absurd (Nat.lt_of_lt_of_le (Heap.lt_size e) z) (Nat.lt_irrefl _)
  have cellK : ∀ x c, X.env.cells.lookup x = some c → ∀ v, s.heap.IsCell c v → h'.IsCell c v := fun x c e v ⟨o, ho, hd⟩ => by
    have nch : c ∉ ch := fun z => (hch c z).2.2.1 x c e rfl
    by_cases hc : c ∈ X.fs
    · obtain ⟨sl, q⟩ := slot c o (I.cne x c e) hc nch ho (I.freeC x c e)
      exact ⟨_, q, hd⟩
    · exact ⟨o, keep c o (I.cne x c e) hc nch ho (I.freeC x c e), hd⟩
  refine ⟨I.ok, I.os, hg, ⟨fun b o e n hb hx => ?_, fun b o e n hb hx => ?_, fun b o e n hx => ?_, fun b o e hx => ?_, fun b xs e => tups b xs (I.base.tups b xs e), fun b o xs e => frzs b o xs (I.base.frzs b o xs e), fun b ps e => ?_⟩, ?_, fun x c e => ?_, ?_, fun x c e => ?_, fun p hp => ?_, hok, I.len⟩
  · exact keep b o (neL b o e) hb (neC b o e hx) (I.base.keep b o e n hb hx) (I.base.free b o e n hx)
  · obtain ⟨sl, e1⟩ := I.base.slot b o e n hb hx
    obtain ⟨sl', e2⟩ := slot b _ (neL b o e) hb (neC b o e hx) e1 (I.base.free b o e n hx)
    exact ⟨sl', e2⟩
  · obtain ⟨o', e1⟩ := I.base.there b o e hx
    exact free b o' (neC b o e hx) e1 (I.base.free b o e n hx)
  · obtain ⟨o', e1⟩ := I.base.there b o e hx
    exact there b o' (neC b o e hx) e1
  · obtain ⟨m1, e1⟩ := I.base.tbls b ps e
    obtain ⟨m2, e2⟩ := tbls b _ e1
    exact ⟨m1 ++ m2, by rw [e2, Array.append_assoc]⟩
  · obtain ⟨m, hn, hl⟩ := I.loc
    refine ⟨m, ns m hn, fun i x v e1 e2 e3 => ?_⟩
    obtain ⟨u, r, l⟩ := hl i x v e1 e2 e3
    refine ⟨u, r, ?_⟩
    rcases l with l | ⟨k, c, e, z⟩
    · exact .inl l
    · exact .inr ⟨k, c, e, cellK x c e _ z⟩
  · obtain ⟨v, z⟩ := I.cell x c e
    exact ⟨v, cellK x c e v z⟩
  · obtain ⟨m, ⟨o, _, _, ho, _⟩, _⟩ := I.loc
    exact free _ o (fun z => (hch _ z).2.1 rfl) ho I.free
  · obtain ⟨v, o, ho, hd⟩ := I.cell x c e
    exact free c o (fun z => (hch c z).2.2.1 x c e rfl) ho (I.freeC x c e)
  · obtain ⟨e, n, ne, nf, d⟩ := I.pin p hp
    have nch : p.1 ∉ ch := fun z => (hch p.1 z).2.2.2 p hp rfl
    exact ⟨keep p.1 p.2 ne nf nch e n, free p.1 p.2 nch e n, ne, nf, d⟩
/-- .. where the frame's own object is kept too -/
theorem Inv.un {t' : Nat} (I : Inv X pins σ H s) (u : Un X.fs [] H H' s.heap h') (hok : HOk X.prog X.w H' h') : Inv X pins σ H' { s with heap := h', toks := t' } := by
  obtain ⟨m, ⟨o, es, ep, ho, r⟩, _⟩ := id I.loc
  obtain ⟨sl, hL⟩ := u.any ho I.free (by simp)
  exact I.step (g' := s.gens) (d' := s.drawn) (ch := []) (fun _ z => nomatch z) (fun b o _ hb _ e n => u.keep b o e n hb (by simp)) (fun b o _ hb _ e n => u.slot b o e n hb (by simp)) (fun b o _ e n => u.free b o e n (by simp)) (fun b o _ e => u.there b o e (by simp)) u.tups u.frzs u.tbls (fun m' hm => by
    obtain ⟨o', es', ep', ho', r'⟩ := hm
    rw [ho] at ho'; cases ho'
    exact ⟨_, es', ep', hL, r'⟩) hok I.bare
/-- behind a call (or a comprehension's block): the slots of this frame may have changed too, the records at ch may have turned -/
theorem Inv.call {g' : Array GenState} {t' : Nat} {d' : Drawn} {ch : List Addr} (I : Inv X pins σ H s) (u : Un (frs X.stack) ch H H' s.heap h') (hok : HOk X.prog X.w H' h') (hg : AllBare g')
    (hch : ∀ b ∈ ch, (b ∈ X.ex ∨ X.s₀.heap.objs.size ≤ b) ∧ b ≠ X.env.locals ∧ (∀ x c, X.env.cells.lookup x = some c → c ≠ b) ∧ ∀ p ∈ X.pn ++ pins, p.1 ≠ b) :
    Inv X pins σ H' { s with heap := h', gens := g', drawn := d', toks := t' } := by
  obtain ⟨m, ⟨o, es, ep, ho, r⟩, _⟩ := id I.loc
  obtain ⟨sl, hL⟩ := u.any ho I.free fun z => (hch _ z).2.1 rfl
  exact I.step (ch := ch) hch (fun b o hL hb hc e n => u.keep b o e n (fun z => (List.mem_cons.mp (I.stkSub b z)).elim hL hb) hc) (fun b o _ _ hc e n => u.any e n hc) (fun b o hc e n => u.free b o e n hc) (fun b o hc e => u.there b o e hc) u.tups u.frzs u.tbls (fun m' hm => by
    obtain ⟨o', es', ep', ho', r'⟩ := hm
    rw [ho] at ho'; cases ho'
    exact ⟨_, es', ep', hL, r'⟩) hok hg
/-- an untracked record of ours (an iterator) has turned -/
theorem Inv.turned {t' : Nat} {it : Addr} (I : Inv X pins σ H s) (k : ∀ b o, b ≠ it → s.heap.get? b = some o → h'.get? b = some o) (hn : H it = none) (hL : it ≠ X.env.locals)
    (h1 : it ∈ X.ex ∨ X.s₀.heap.objs.size ≤ it) (h2 : ∀ x c, X.env.cells.lookup x = some c → c ≠ it) (h3 : ∀ p ∈ X.pn ++ pins, p.1 ≠ it) : Inv X pins σ H { s with heap := h', toks := t' } := by
  have nit : ∀ b u, H b = some u → b ≠ it := fun b u e z => by rw [z, hn] at e; cases e
  refine I.step (g' := s.gens) (d' := s.drawn) (ch := [it]) (fun b hb => ?_) (fun b o _ _ hc e _ => k b o (fun z => hc (by simp [z])) e) (fun b o _ _ hc e _ => ⟨o.slots, k b o (fun z => hc (by simp [z])) e⟩) (fun _ _ _ _ n => n)
    (fun b o hc e => ⟨o, k b o (fun z => hc (by simp [z])) e⟩) (fun _ _ e => e) (fun _ _ _ e => e) (fun b ps e => ⟨#[], by rw [e]; simp⟩) (fun m hm => ?_) (fun b u e => ?_) I.bare
  · have e : b = it := by simpa using hb
    subst e
    exact ⟨h1, hL, h2, h3⟩
  · obtain ⟨o, es, ep, ho, r⟩ := hm
    exact ⟨o, es, ep, k _ o (Ne.symm hL) ho, r⟩
  · refine (I.hok b u e).stay (fun c v hc q => k c v ?_ q) (fun _ q => q) fun _ _ q => q
    rcases hc with z | z
    · rw [z]; exact nit b u e
    · exact nit c _ z
theorem Inv.tok (I : Inv X pins σ H s) (t : Nat) : Inv X pins σ H { s with toks := t } := I.un (h' := s.heap) (t' := t) Un.refl I.hok
/-- all objects kept -/
theorem Inv.kept {t' : Nat} (I : Inv X pins σ H s) (k : ∀ b u, s.heap.get? b = some u → h'.get? b = some u) : Inv X pins σ H { s with heap := h', toks := t' } := I.un (Un.kept k) (I.hok.kept k)
/-- a new object laid and tracked -/
theorem Inv.laid {a : Addr} {o : HO} {t' : Nat} (I : Inv X pins σ H s) (k : ∀ b u, s.heap.get? b = some u → h'.get? b = some u) (hp : s.heap.objs.size ≤ a) (new : ObjOk X.prog X.w (upd H a o) h' a o) :
    Inv X pins σ (upd H a o) { s with heap := h', toks := t' } := I.un (Un.laid k hp (I.hok.fresh hp)) (I.hok.laid k hp new)
/-- an object written -/
theorem Inv.write {x e : Addr} {o : HO} {t' : Nat} (I : Inv X pins σ H s) (mu : Mut (H x)) (he : e = x ∨ H e = some (.own x)) (k : ∀ b u, b ≠ e → s.heap.get? b = some u → h'.get? b = some u) (heo : ∃ u, h'.get? e = some u)
    (new : ObjOk X.prog X.w (upd H x o) h' x o) : Inv X pins σ (upd H x o) { s with heap := h', toks := t' } := I.un (Un.write mu he k heo) (I.hok.write mu he k heo new)
theorem Inv.pins_of {pins' : List (Addr × Obj)} (I : Inv X pins σ H s) (h : ∀ p ∈ pins', s.heap.get? p.1 = some p.2 ∧ H p.1 = none ∧ p.1 ≠ X.env.locals ∧ p.1 ∉ X.fs ∧ ∀ v, p.2.data ≠ .cell v) : Inv X pins' σ H s :=
  ⟨I.ok, I.os, I.bare, I.base, I.loc, I.cell, I.free, I.freeC, fun p hp => (List.mem_append.mp hp).elim (fun z => I.pin p (List.mem_append_left _ z)) (h p), I.hok, I.len⟩

theorem nodup_ix {N : List Str} (hN : N.Nodup) {i j : Nat} {x : Str} (a : N[i]? = some x) (b : N[j]? = some x) : i = j := by
  obtain ⟨h1, e1⟩ := List.getElem?_eq_some_iff.mp a
  obtain ⟨h2, e2⟩ := List.getElem?_eq_some_iff.mp b
  exact (List.getElem_inj hN).mp (e1.trans e2.symm)

/-- a name is stored; what changed -/
theorem store_ok2 {M : Model} {A : Around} {E : Value → Shared → Prop} {i : Nat} {x : Str} {v : V} {u : Value} {Q : Unit → Shared → Prop} (I : Inv X pins σ H s) (hN : X.N.Nodup) (hi : X.N[i]? = some x) (hx : Loc X.env.scope x) (r : RelV v u)
    (h : ∀ s', Inv X pins (σ.set i (some v)) H s' → (∃ a, Heap.SameBut a s.heap s'.heap ∧ (a = X.env.locals ∨ X.env.cells.lookup x = some a)) → Q () s') (hf : X.fn x = true ∨ X.env.scope.names.lookup x = some .local := by first | exact .inl rfl | exact .inr rfl | assumption) : wpAny M A (storeName X.env x u) Q E s := by
  obtain ⟨m, hn, hl⟩ := id I.loc
  have hcls : (X.env.scope.kind == .class || (X.env.scope.kind == .module && X.env.locals != X.env.globals)) = false := by rw [I.ok.kind]; rfl
  have hiσ : i < σ.length := by rw [I.len]; exact (List.getElem?_eq_some_iff.mp hi).1
  have cne := I.cne
  have tracked : ∀ {a : Addr} {h' : Heap}, (∃ o, s.heap.get? a = some o ∧ H a = none) → Heap.SameBut a s.heap h' → HOk X.prog X.w H h' := fun {a h'} ha hs b ob e => by
    obtain ⟨_, _, hfree⟩ := ha
    refine (I.hok b ob e).stay (fun c w' hc q => (hs.2 c ?_).trans q) (fun _ q => q) fun _ _ q => q
    rintro rfl
    rcases hc with rfl | hc
    · rw [hfree] at e; cases e
    · rw [hfree] at hc; cases hc
  rcases hx with hk | hk
  · refine wpAny_storeName_local hk hn (fun h' hn' hs => ?_) hcls
    obtain ⟨oL, _, _, hoL, _⟩ := id hn
    refine h _ ⟨I.ok, I.os, I.bare, ⟨fun b o e n hb hx => ?_, fun b o e n hb hx => ?_, I.base.free, fun b o e hx => ?_, I.base.tups, I.base.frzs, I.base.tbls⟩, ⟨_, hn', fun j y v' e1 e2 e3 => ?_⟩, fun y c e => ?_, I.free, I.freeC, fun p hp => ?_, tracked ⟨oL, hoL, I.free⟩ hs, by simpa using I.len⟩ ⟨_, hs, .inl rfl⟩
    · exact (hs.2 b (Nat.ne_of_lt (Nat.lt_of_lt_of_le (Heap.lt_size e) I.ok.above))).trans (I.base.keep b o e n hb hx)
    · obtain ⟨sl, e1⟩ := I.base.slot b o e n hb hx
      exact ⟨sl, (hs.2 b (Nat.ne_of_lt (Nat.lt_of_lt_of_le (Heap.lt_size e) I.ok.above))).trans e1⟩
    · obtain ⟨o', e1⟩ := I.base.there b o e hx
      exact ⟨o', (hs.2 b (Nat.ne_of_lt (Nat.lt_of_lt_of_le (Heap.lt_size e) I.ok.above))).trans e1⟩
    · by_cases hj : j = i
      · subst hj
        rw [hi] at e1; cases e1
        rw [List.getElem?_set_self hiσ] at e2
        cases e2
        exact ⟨u, r, .inl ⟨hk, by simp⟩⟩
      · rw [List.getElem?_set_ne (Ne.symm hj)] at e2
        obtain ⟨u', r', q⟩ := hl j y v' e1 e2 e3
        refine ⟨u', r', ?_⟩
        rcases q with ⟨k, e⟩ | ⟨k, c, e, z⟩
        · refine .inl ⟨k, ?_⟩
          have : y ≠ x := fun e => hj (nodup_ix hN e1 (e ▸ hi))
          simp [this, e]
        · exact .inr ⟨k, c, e, z.sameBut hs (cne y c e)⟩
    · obtain ⟨w', z⟩ := I.cell y c e
      exact ⟨w', z.sameBut hs (cne y c e)⟩
    · obtain ⟨e, n, ne, nf, d⟩ := I.pin p hp
      exact ⟨(hs.2 p.1 ne).trans e, n, ne, nf, d⟩
  · have hfn : X.fn x = true := by
      rcases hf with z | z
      · exact z
      · rw [z] at hk; cases hk
    obtain ⟨c, hc⟩ := I.ok.has x (.inl hk)
    obtain ⟨w', z⟩ := I.cell x c hc
    refine wpAny_storeName_cell I.ok.kind hk hc z (fun h' hc' hs => ?_)
    obtain ⟨oc, hoc, hocd⟩ := id z
    refine h { s with heap := h' } ⟨I.ok, I.os, I.bare, ⟨fun b o e n hb hx => ?_, fun b o e n hb hx => ?_, I.base.free, fun b o e hx => ?_, I.base.tups, I.base.frzs, I.base.tbls⟩, ⟨m, hn.sameBut hs (Ne.symm (cne x c hc)), fun j y v' e1 e2 e3 => ?_⟩, fun y c' e => ?_, I.free, I.freeC, fun p hp => ?_, tracked ⟨oc, hoc, I.freeC x c hc⟩ hs, by simpa using I.len⟩ ⟨c, hs, .inr hc⟩
    · exact (hs.2 b (Nat.ne_of_lt (Nat.lt_of_lt_of_le (Heap.lt_size e) (I.ok.cab x c hfn hc)))).trans (I.base.keep b o e n hb hx)
    · obtain ⟨sl, e1⟩ := I.base.slot b o e n hb hx
      exact ⟨sl, (hs.2 b (Nat.ne_of_lt (Nat.lt_of_lt_of_le (Heap.lt_size e) (I.ok.cab x c hfn hc)))).trans e1⟩
    · obtain ⟨o', e1⟩ := I.base.there b o e hx
      exact ⟨o', (hs.2 b (Nat.ne_of_lt (Nat.lt_of_lt_of_le (Heap.lt_size e) (I.ok.cab x c hfn hc)))).trans e1⟩
    · by_cases hj : j = i
      · subst hj
        rw [hi] at e1; cases e1
        rw [List.getElem?_set_self hiσ] at e2
        cases e2
        exact ⟨u, r, .inr ⟨.inl hk, c, hc, hc'⟩⟩
      · rw [List.getElem?_set_ne (Ne.symm hj)] at e2
        obtain ⟨u', r', q⟩ := hl j y v' e1 e2 e3
        refine ⟨u', r', ?_⟩
        rcases q with q | ⟨k, c', e, z'⟩
        · exact .inl q
        · refine .inr ⟨k, c', e, z'.sameBut hs ?_⟩
          rintro rfl
          exact hj (nodup_ix hN e1 (I.ok.inj _ _ _ e hc ▸ hi))
    · by_cases hcc : c' = c
      · subst hcc; exact ⟨_, hc'⟩
      · obtain ⟨w2, z2⟩ := I.cell y c' e
        exact ⟨w2, z2.sameBut hs hcc⟩
    · obtain ⟨e, n, ne, nf, d⟩ := I.pin p hp
      refine ⟨(hs.2 p.1 ?_).trans e, n, ne, nf, d⟩
      intro q
      rw [q, hoc] at e
      have q' : oc = p.2 := Option.some.inj e
      exact d w' (by rw [← q']; exact hocd)
theorem store_ok {M : Model} {A : Around} {E : Value → Shared → Prop} {i : Nat} {x : Str} {v : V} {u : Value} {Q : Unit → Shared → Prop} (I : Inv X pins σ H s) (hN : X.N.Nodup) (hi : X.N[i]? = some x) (hx : Loc X.env.scope x) (r : RelV v u)
    (h : ∀ s', Inv X pins (σ.set i (some v)) H s' → Q () s') (hf : X.fn x = true ∨ X.env.scope.names.lookup x = some .local := by first | exact .inl rfl | exact .inr rfl | assumption) : wpAny M A (storeName X.env x u) Q E s :=
  store_ok2 I hN hi hx r (fun s' I' _ => h s' I') hf
/-- behind a call or a block, the state as it is -/
theorem Inv.call' {s' : Shared} {ch : List Addr} (I : Inv X pins σ H s) (ho : s'.os = s.os) (u : Un (frs X.stack) ch H H' s.heap s'.heap) (hok : HOk X.prog X.w H' s'.heap) (hg : AllBare s'.gens)
    (hch : ∀ b ∈ ch, (b ∈ X.ex ∨ X.s₀.heap.objs.size ≤ b) ∧ b ≠ X.env.locals ∧ (∀ x c, X.env.cells.lookup x = some c → c ≠ b) ∧ ∀ p ∈ X.pn ++ pins, p.1 ≠ b) : Inv X pins σ H' s' := by
  obtain ⟨h', g', d', t', o'⟩ := s'
  have e : o' = s.os := ho
  subst e
  exact I.call (g' := g') (t' := t') (d' := d') u hok hg hch
end

/-! ### the judgements -/
/-- an exception: its class, its own dict's address (where it has one), the abstract heap behind it -/
abbrev XK := Value → Option Addr → Hp → Prop
abbrev St := List (Option V)
abbrev VK := V → Hp → Prop
/-- an expression's reading; a test's; an argument list's -/
abbrev TE := St → Hp → VK → Prop
abbrev TT := St → Hp → (Bool → Hp → Prop) → Prop
abbrev TA := St → Hp → (List V → Hp → Prop) → Prop
/-- what is wanted behind a statement -/
structure Ends where
  nx : St → Hp → Prop
  rt : VK
  bk : St → Hp → Prop := fun _ _ => False
  ct : St → Hp → Prop := fun _ _ => False
abbrev TS := Ends → St → Hp → Prop

def EP (X : Cx) (pins : List (Addr × Obj)) (σ : St) (Q : VK) (u : Value) (s' : Shared) : Prop := ∃ v H', Inv X pins σ H' s' ∧ RelV v u ∧ Q v H'
def TP (X : Cx) (pins : List (Addr × Obj)) (σ : St) (Q : Bool → Hp → Prop) (b : Bool) (s' : Shared) : Prop := ∃ H', Inv X pins σ H' s' ∧ Q b H'
def AP (X : Cx) (pins : List (Addr × Obj)) (σ : St) (Q : List V → Hp → Prop) (us : List Value) (s' : Shared) : Prop := ∃ vs H', Inv X pins σ H' s' ∧ Vals vs us ∧ Q vs H'
def SP (X : Cx) (pins : List (Addr × Obj)) (D : Ends) (f : Flow) (s' : Shared) : Prop :=
  match f with
  | .next => ∃ σ' H', Inv X pins σ' H' s' ∧ D.nx σ' H'
  | .brk => ∃ σ' H', Inv X pins σ' H' s' ∧ D.bk σ' H'
  | .cont => ∃ σ' H', Inv X pins σ' H' s' ∧ D.ct σ' H'
  | .ret u => ∃ v σ' H', Inv X pins σ' H' s' ∧ RelV v u ∧ D.rt v H'

def PE (X : Cx) (e : Expr) (t : TE) : Prop :=
  ∀ (pins : List (Addr × Obj)) (s : Shared) (σ : St) (H : Hp) (Q : VK), Inv X pins σ H s → t σ H Q → wpAny (model X.prog X.w) X.A (eval e X.env) (EP X pins σ Q) X.xe s
def PT (X : Cx) (e : Expr) (t : TT) : Prop :=
  ∀ (pins : List (Addr × Obj)) (s : Shared) (σ : St) (H : Hp) (Q : Bool → Hp → Prop), Inv X pins σ H s → t σ H Q → wpAny (model X.prog X.w) X.A (isTrue e X.env (eval e X.env)) (TP X pins σ Q) X.xe s
/-- a test whatever its 'whole' is (and, or) -/
def PW (X : Cx) (e : Expr) (t : TT) : Prop :=
  ∀ (whole : Sem Value) (pins : List (Addr × Obj)) (s : Shared) (σ : St) (H : Hp) (Q : Bool → Hp → Prop), Inv X pins σ H s → t σ H Q → wpAny (model X.prog X.w) X.A (isTrue e X.env whole) (TP X pins σ Q) X.xe s
theorem PW.pt {X : Cx} {e : Expr} {t : TT} (h : PW X e t) : PT X e t := h _
/-- an argument list (no star), from the left -/
def PA (X : Cx) (es : List Expr) (t : TA) : Prop :=
  ∀ (pos : Pos) (pins : List (Addr × Obj)) (s : Shared) (σ : St) (H : Hp) (Q : List V → Hp → Prop), Inv X pins σ H s → t σ H Q → wpAny (model X.prog X.w) X.A (spliced (backTo pos (starEach es X.env))) (AP X pins σ Q) X.xe s
def PS (X : Cx) (st : Stmt) (t : TS) : Prop :=
  ∀ (pins : List (Addr × Obj)) (s : Shared) (σ : St) (H : Hp) (D : Ends), Inv X pins σ H s → t D σ H → wpAny (model X.prog X.w) X.A (exec st X.env) (SP X pins D) X.xe s
def PSs (X : Cx) (st : List Stmt) (t : TS) : Prop :=
  ∀ (pins : List (Addr × Obj)) (s : Shared) (σ : St) (H : Hp) (D : Ends), Inv X pins σ H s → t D σ H → wpAny (model X.prog X.w) X.A (execs st X.env) (SP X pins D) X.xe s
/-- weaken the end -/
theorem thn {α : Type} {t : Sem α} {Q Q' : α → Shared → Prop} {M : Model} {A : Around} {E : Value → Shared → Prop} {s : Shared} (h : wpAny M A t Q E s) (hQ : ∀ a s, Q a s → Q' a s) : wpAny M A t Q' E s := wpAny_mono h hQ fun _ _ x => x
end L2

namespace L2
open PySem PySem.Spec PyProof.Rows
section
variable {X : Cx}

/-- two expressions in a row -/
theorem bin {a b : Expr} {ta tb : TE} (ha : PE X a ta) (hb : PE X b tb) {pins : List (Addr × Obj)} {s : Shared} {σ : St} {H : Hp} {R : V → V → Hp → Prop} (I : Inv X pins σ H s) (h : ta σ H fun x H1 => tb σ H1 fun y H2 => R x y H2)
    {α : Type} {Q : α → Shared → Prop} {f : Value → Value → Sem α}
    (hf : ∀ v u s2 x y H2, Inv X pins σ H2 s2 → RelV x v → RelV y u → R x y H2 → wpAny (model X.prog X.w) X.A (f v u) Q X.xe s2) :
    wpAny (model X.prog X.w) X.A (eval a X.env) (fun v s₁ => wpAny (model X.prog X.w) X.A (eval b X.env) (fun u s₂ => wpAny (model X.prog X.w) X.A (f v u) Q X.xe s₂) X.xe s₁) X.xe s := by
  refine thn (ha pins s σ H _ I h) fun v s1 ⟨x, H1, I1, r1, q1⟩ => ?_
  refine thn (hb pins s1 σ H1 _ I1 q1) fun u s2 ⟨y, H2, I2, r2, q2⟩ => ?_
  exact hf v u s2 x y H2 I2 r1 r2 q2

/-! ### names and constants -/
def tVar (i : Nat) : TE := fun σ H Q => ∃ v, σ[i]? = some (some v) ∧ Q v H
def tC (v : V) : TE := fun _ H Q => Q v H
theorem pe_var {i : Nat} {x : Str} {pos : Pos} (hN : X.N[i]? = some x) (hv : Vis X.env.scope x) (hd : (x == ("__debug__" : Str)) = false := by decide) (hcd : (x == ("__classdict__" : Str)) = false := by decide) : PE X (.Name x pos) (tVar i) := by
  intro pins s σ H Q I h
  obtain ⟨v, e, h⟩ := h
  obtain ⟨m, hn, hl⟩ := I.loc
  obtain ⟨u, r, l⟩ := hl i x v hN e hv
  have fin : EP X pins σ Q u s := ⟨v, H, I, r, h⟩
  rcases l with ⟨hk, hm⟩ | ⟨hk, c, hc, hcell⟩
  · exact wpAny_Name (wpAny_loadName_local I.ok.kind hk hn hm fin) hd
  · rcases hk with hk | hk
    · exact wpAny_Name (wpAny_loadName_cell I.ok.kind hk hc hcell fin) hd
    · exact wpAny_Name (wpAny_loadName_free I.ok.kind hk hc hcell fin hcd) hd
theorem pe_int {i j pos} : PE X (.Constant (.int i) j pos) (tC (.int i)) := fun _ _ _ H _ I h => wpAny_Constant_int ⟨.int i, H, I.tok _, ⟨_, rfl⟩, h⟩
theorem pe_bl {b j pos} : PE X (.Constant (.bool b) j pos) (tC (.bl b)) := fun _ _ _ H _ I h => Constant_bool ⟨.bl b, H, I, rfl, h⟩
theorem pe_non {j pos} : PE X (.Constant .none j pos) (tC .non) := fun _ _ _ H _ I h => Constant_none ⟨.non, H, I, rfl, h⟩
theorem pe_str {x j pos} : PE X (.Constant (.str x) j pos) (tC (.str x)) := fun _ _ _ H _ I h => Calls.Constant_str ⟨.str x, H, I.tok _, ⟨_, rfl⟩, h⟩

/-- a global name of the def -/
def Gl (X : Cx) (x : Str) : Prop := X.env.kindOf x = some .globalImplicit
theorem ld_glob {E : Value → Shared → Prop} {pins : List (Addr × Obj)} {s : Shared} {σ : St} {H : Hp} {x : Str} {u : Value} {pos : Pos} {Q : Value → Shared → Prop} (I : Inv X pins σ H s) (hg : Gl X x) (hm : X.mg x = some u) (h : Q u s)
    (hd : (x == ("__debug__" : Str)) = false := by decide) : wpAny (model X.prog X.w) X.A (eval (.Name x pos) X.env) Q E s :=
  Calls.Name_function_global I.ok.kind hg (Calls.loadGlobal_global (by rw [I.ok.glob]; exact I.mod.glob.keeps I.bk) hm h) hd
theorem ld_blt {E : Value → Shared → Prop} {pins : List (Addr × Obj)} {s : Shared} {σ : St} {H : Hp} {x : Str} {u : Value} {pos : Pos} {Q : Value → Shared → Prop} (I : Inv X pins σ H s) (hg : Gl X x) (hm : X.mg x = none) (hv : bootBuiltins x = some u) (h : Q u s)
    (hn : x ≠ "__name__" := by decide) (hd : (x == ("__debug__" : Str)) = false := by decide) : wpAny (model X.prog X.w) X.A (eval (.Name x pos) X.env) Q E s := by
  obtain ⟨mb, h1, h2⟩ := I.mod.blt
  exact Calls.Name_function_global I.ok.kind hg (Calls.loadGlobal_builtin (by rw [I.ok.glob]; exact I.mod.glob.keeps I.bk) hm (by rw [I.ok.blt]; exact h1.keeps I.bk) ((h2 x hn).trans hv) h) hd
theorem pe_bltn {x : Str} {v : V} {u : Value} {pos : Pos} (hg : Gl X x) (hm : X.mg x = none) (hv : bootBuiltins x = some u) (r : RelV v u) (hn : x ≠ "__name__" := by decide) (hd : (x == ("__debug__" : Str)) = false := by decide) : PE X (.Name x pos) (tC v) :=
  fun _ _ _ H _ I h => ld_blt I hg hm hv ⟨v, H, I, r, h⟩ hn hd

/-! ### arithmetic -/
/-- two ints -/
def t2I (ta tb : TE) (k : Int → Int → Hp → Prop) : St → Hp → Prop := fun σ H => ta σ H fun x H1 => tb σ H1 fun y H2 => ∃ i j, x = .int i ∧ y = .int j ∧ k i j H2
variable {a b : Expr} {ta tb : TE} {pos : Pos}
/-! ### comparisons -/
def tCmp (p : Int → Int → Bool) (ta tb : TE) : TE := fun σ H Q => t2I ta tb (fun i j H2 => Q (.bl (p i j)) H2) σ H
abbrev tLt : TE → TE → TE := tCmp fun i j => decide (i < j)
abbrev tLe : TE → TE → TE := tCmp fun i j => decide (i ≤ j)
abbrev tGt : TE → TE → TE := tCmp fun i j => decide (j < i)
abbrev tGe : TE → TE → TE := tCmp fun i j => decide (j ≤ i)
abbrev tEqI : TE → TE → TE := tCmp fun i j => decide (i = j)
abbrev tNeI : TE → TE → TE := tCmp fun i j => !decide (i = j)
/-! ### and, or, not -/
variable {tA tB' : TT} {rest : List Expr}
def tNot (t : TT) : TT := fun σ H Q => t σ H fun c H1 => Q (!c) H1
theorem pw_and1 (ha : PT X a tA) : PW X (.BoolOp .And [a] pos) tA := by
  intro wh pins s σ H Q I h
  refine isTrue_and (thn (ha pins s σ H Q I h) fun c s1 e => ?_)
  cases c with
  | true => exact isTrue_and_nil e
  | false => exact e
theorem pw_or1 (ha : PT X a tA) : PW X (.BoolOp .Or [a] pos) tA := by
  intro wh pins s σ H Q I h
  refine isTrue_or (thn (ha pins s σ H Q I h) fun c s1 e => ?_)
  cases c with
  | false => exact isTrue_or_nil e
  | true => exact e
theorem pt_not (ha : PT X a tA) : PT X (.UnaryOp .Not a pos) (tNot tA) := by
  intro pins s σ H Q I h
  exact isTrue_not (ha pins s σ H (fun c H1 => Q (!c) H1) I h)
theorem pe_one {op} {t : TE} (h : PE X a t) : PE X (.BoolOp op [a] pos) t := fun pins s σ H Q I hw => BoolOp_one (h pins s σ H Q I hw)
end
end L2

namespace L2
open PySem PySem.Spec PyProof.Rows

/-! ### a list, a tuple that is read: tracked, frozen, or an object of the module -/
def SqL (K : PySem.W.Frag) (H : Hp) (a : Addr) (xs : List V) : Prop :=
  Rd H a (.lst xs) ∨
    ∃ (o : Obj) (its : Array Value) (n : Nat), K.lookup a = some o ∧ o.cls = .type "list" ∧ o.dict = none ∧ o.data = .seq its n ∧ its.size ≤ sizeLine ∧ Vals xs its.toList
def SqT (K : PySem.W.Frag) (H : Hp) (a : Addr) (xs : List V) : Prop :=
  Rd H a (.tup xs) ∨
    ∃ (o : Obj) (its : Array Value) (n : Nat), K.lookup a = some o ∧ o.cls = .type "tuple" ∧ o.data = .seq its n ∧ its.size ≤ sizeLine ∧ Vals xs its.toList
def absV : Value → Option V
  | .none => some .non
  | .bool b => some (.bl b)
  | .int i _ => some (.int i)
  | .str x _ => some (.str x)
  | .bytes b _ => some (.byt b)
  | .float b _ => some (.flt b)
  | .ref a => some (.ref a)
  | .type n => some (.ty n)
  | _ => none
theorem RelV.abs {x : V} {u : Value} (r : RelV x u) : absV u = some x := by
  cases x with
  | non => cases r; rfl
  | bl _ => cases r; rfl
  | int _ => obtain ⟨t, rfl⟩ := r; rfl
  | str _ => obtain ⟨t, rfl⟩ := r; rfl
  | byt _ => obtain ⟨t, rfl⟩ := r; rfl
  | flt _ => obtain ⟨t, rfl⟩ := r; rfl
  | ref _ => cases r; rfl
  | ty _ => cases r; rfl
theorem RelV.inj {x y : V} {u : Value} (r : RelV x u) (q : RelV y u) : x = y := Option.some.inj (r.abs.symm.trans q.abs)
theorem Vals.inj : ∀ {xs ys : List V} {us : List Value}, Vals xs us → Vals ys us → xs = ys
  | _, _, _, .nil, .nil => rfl
  | _, _, _, .cons r t, .cons r' t' => by rw [r.inj r', Vals.inj t t']
section
variable {X : Cx} {pins : List (Addr × Obj)} {σ : St} {H : Hp} {s : Shared} {a : Addr} {xs ys : List V}
theorem SqL.of {K : PySem.W.Frag} (h : H a = some (.lst xs)) : SqL K H a xs := .inl (.inl h)
theorem SqT.of {K : PySem.W.Frag} (h : H a = some (.tup xs)) : SqT K H a xs := .inl (.inl h)
theorem Inv.list (I : Inv X pins σ H s) (h : SqL X.K H a xs) : ∃ its : List Value, Vals xs its ∧ PlainL s.heap a its.toArray ∧ xs.length ≤ sizeLine := by
  rcases h with h | ⟨o, its, n, hk, hc, hd, hs, hz, r⟩
  · obtain ⟨z, its, n, r, e⟩ := h.ok I.hok
    exact ⟨its, r, ⟨_, n, e, rfl, rfl, rfl⟩, z⟩
  · refine ⟨its.toList, r, ⟨o, n, I.kIn a o hk, hc, hd, by simpa using hs⟩, ?_⟩
    have e := r.length
    simp only [Array.length_toList] at e
    omega
theorem Inv.tuple (I : Inv X pins σ H s) (h : SqT X.K H a xs) : ∃ its : List Value, Vals xs its ∧ IsTup s.heap a its.toArray ∧ xs.length ≤ sizeLine := by
  rcases h with h | ⟨o, its, n, hk, hc, hs, hz, r⟩
  · obtain ⟨z, its, r, p⟩ := h.ok I.hok
    exact ⟨its, r, p, z⟩
  · refine ⟨its.toList, r, ⟨o, I.kIn a o hk, hc, n, by simpa using hs⟩, ?_⟩
    have e := r.length
    simp only [Array.length_toList] at e
    omega
theorem Inv.list_inj (I : Inv X pins σ H s) (h : SqL X.K H a xs) (h' : SqL X.K H a ys) : xs = ys := by
  obtain ⟨its, r, ⟨o, n, e, _, _, d⟩, _⟩ := I.list h
  obtain ⟨its', r', ⟨o', n', e', _, _, d'⟩, _⟩ := I.list h'
  rw [e] at e'; cases e'
  rw [d] at d'
  injection d' with d1 _
  have : its = its' := by simpa using congrArg Array.toList d1
  subst this
  exact r.inj r'
end

/-! ### another wish about exceptions -/
abbrev Cx.wish (X : Cx) (E : Value → Shared → Prop) : Cx := { X with xe := E }
/-- no exception leaves -/
abbrev Cx.nox (X : Cx) : Cx := X.wish fun _ _ => False
theorem Cx.Ok.wish {X : Cx} (ok : X.Ok) (E : Value → Shared → Prop) : (X.wish E).Ok :=
  ⟨ok.mod, ok.kind, ok.glob, ok.blt, ok.above, ok.inj, ok.has, ok.cab, ok.hd, ok.frames, ok.stk, ok.exf, ok.bs, ok.bsz, ok.noex, ok.exfs, ok.funs, ok.frf⟩
theorem Cx.Ok.unwish {X : Cx} {E : Value → Shared → Prop} (ok : (X.wish E).Ok) : X.Ok :=
  ⟨ok.mod, ok.kind, ok.glob, ok.blt, ok.above, ok.inj, ok.has, ok.cab, ok.hd, ok.frames, ok.stk, ok.exf, ok.bs, ok.bsz, ok.noex, ok.exfs, ok.funs, ok.frf⟩
section
variable {X : Cx} {pins : List (Addr × Obj)} {σ : St} {H : Hp} {s : Shared} {E : Value → Shared → Prop}
theorem Inv.wish (I : Inv X pins σ H s) (E : Value → Shared → Prop) : Inv (X.wish E) pins σ H s := ⟨I.ok.wish E, I.os, I.bare, I.base, I.loc, I.cell, I.free, I.freeC, I.pin, I.hok, I.len⟩
theorem Inv.unwish (I : Inv (X.wish E) pins σ H s) : Inv X pins σ H s := ⟨I.ok.unwish, I.os, I.bare, I.base, I.loc, I.cell, I.free, I.freeC, I.pin, I.hok, I.len⟩
theorem SP.unwish {D : Ends} {f : Flow} {s' : Shared} (h : SP (X.wish E) pins D f s') : SP X pins D f s' := by
  cases f with
  | next => obtain ⟨σ', H', I, q⟩ := h; exact ⟨σ', H', I.unwish, q⟩
  | brk => obtain ⟨σ', H', I, q⟩ := h; exact ⟨σ', H', I.unwish, q⟩
  | cont => obtain ⟨σ', H', I, q⟩ := h; exact ⟨σ', H', I.unwish, q⟩
  | ret u => obtain ⟨v, σ', H', I, r, q⟩ := h; exact ⟨v, σ', H', I.unwish, r, q⟩
theorem PSs.nox {st : List Stmt} {t : TS} (h : PSs X.nox st t) : PSs X st t := fun pins s σ H D I hw =>
  wpAny_mono (h pins s σ H D (I.wish _) hw) (fun _ _ q => q.unwish) fun _ _ z => False.elim z
end

/-! ### blocks and small statements -/
section
variable {X : Cx} {st : Stmt} {rest : List Stmt} {t u : TS} {e : Expr} {te : TE} {pos : Pos}
def tNext : TS := fun D σ H => D.nx σ H
def tSeq (t u : TS) : TS := fun D σ H => t { D with nx := u D } σ H
theorem pss_nil : PSs X [] tNext := fun _ _ σ H _ I h => wpAny_execs_nil ⟨σ, H, I, h⟩
theorem pss_cons (h1 : PS X st t) (h2 : PSs X rest u) : PSs X (st :: rest) (tSeq t u) := by
  intro pins s σ H D I h
  refine wpAny_execs_cons (thn (h1 pins s σ H { D with nx := u D } I h) fun f s1 q => ?_)
  cases f with
  | next =>
    obtain ⟨σ', H', I', q⟩ := q
    exact h2 pins s1 σ' H' D I' q
  | ret v => exact q
  | brk => exact q
  | cont => exact q
theorem pss_one (h1 : PS X st t) : PSs X [st] t := by
  intro pins s σ H D I h
  refine wpAny_execs_cons (thn (h1 pins s σ H D I h) fun f s1 q => ?_)
  cases f with
  | next => exact wpAny_execs_nil q
  | ret v => exact q
  | brk => exact q
  | cont => exact q
/-- in a def's body nothing is shown -/
theorem Inv.quiet {pins : List (Addr × Obj)} {σ : St} {H : Hp} {s : Shared} (I : Inv X pins σ H s) : interactive X.env = false := by simp [interactive, I.ok.kind]
/-- an expression whose value is dropped -/
def tDrop (te : TE) : TS := fun D σ H => te σ H fun _ H1 => D.nx σ H1
theorem ps_expr (he : PE X e te) (hs : swapsWith e none pos.line X.env = pure false := by rfl) : PS X (.Expr e pos) (tDrop te) := by
  intro pins s σ H D I h
  exact wpAny_Expr_any (thn (he pins s σ H _ I h) fun v s1 ⟨x, H1, I1, r1, q1⟩ => ⟨σ, H1, I1, q1⟩) I.quiet hs
def tRet (te : TE) : TS := fun D σ H => te σ H D.rt
theorem ps_ret (he : PE X e te) : PS X (.Return (some e) pos) (tRet te) := by
  intro pins s σ H D I h
  exact wpAny_Return_some (thn (he pins s σ H _ I h) fun v s1 ⟨x, H1, I1, r1, q1⟩ => ⟨x, σ, H1, I1, r1, q1⟩)
/-- code that the proof never comes to -/
def tNever : TS := fun _ _ _ => False
theorem ps_never : PS X st tNever := fun _ _ _ _ _ _ h => h.elim
end

/-! ### targets -/
abbrev TG := V → St → Hp → (St → Hp → Prop) → Prop
abbrev TGs := List V → St → Hp → (St → Hp → Prop) → Prop
def PG (X : Cx) (target : Expr) (t : TG) : Prop :=
  ∀ (pins : List (Addr × Obj)) (s : Shared) (σ : St) (H : Hp) (v : V) (u : Value) (Q : St → Hp → Prop), Inv X pins σ H s → RelV v u → t v σ H Q →
    wpAny (model X.prog X.w) X.A (assign target X.env u) (fun _ s' => ∃ σ' H', Inv X pins σ' H' s' ∧ Q σ' H') X.xe s
/-- several targets, one after another -/
def PGs (X : Cx) (ts : List Expr) (t : TGs) : Prop :=
  ∀ (pins : List (Addr × Obj)) (s : Shared) (σ : St) (H : Hp) (vs : List V) (us : List Value) (Q : St → Hp → Prop), Inv X pins σ H s → Vals vs us → t vs σ H Q →
    wpAny (model X.prog X.w) X.A (assignInOrder ((assignEach ts X.env).map (·.2)) us) (fun _ s' => ∃ σ' H', Inv X pins σ' H' s' ∧ Q σ' H') X.xe s
/-- o[i] = v, by values -/
abbrev TSet := V → V → V → Hp → (Hp → Prop) → Prop
/-- a op= b, by values -/
abbrev TIp := V → V → Hp → VK → Prop
section
variable {X : Cx} {pos : Pos}
def gName (i : Nat) : TG := fun v σ H Q => Q (σ.set i (some v)) H
theorem pg_name {i : Nat} {x : Str} (hN : X.N.Nodup) (hi : X.N[i]? = some x) (hx : Loc X.env.scope x) (hf : X.fn x = true ∨ X.env.scope.names.lookup x = some .local := by first | exact .inl rfl | exact .inr rfl | assumption) : PG X (.Name x pos) (gName i) := by
  intro pins s σ H v u Q I r h
  exact wpAny_assign_Name (store_ok I hN hi hx r (fun s' I' => ⟨_, H, I', h⟩) hf)
def gNil : TGs := fun vs σ H Q => vs = [] ∧ Q σ H
def gCons (t : TG) (u : TGs) : TGs := fun vs σ H Q => ∃ v r, vs = v :: r ∧ t v σ H fun σ' H' => u r σ' H' Q
theorem pgs_nil : PGs X [] gNil := by
  intro pins s σ H vs us Q I r h
  obtain ⟨e, h⟩ := h
  subst e
  cases r
  exact assignInOrder_nil ⟨σ, H, I, h⟩
theorem pgs_cons {e : Expr} {es : List Expr} {t : TG} {u : TGs} (h1 : PG X e t) (h2 : PGs X es u)
    (hs : (assignEach (e :: es) X.env).map (·.2) = assign e X.env :: (assignEach es X.env).map (·.2) := by rfl) : PGs X (e :: es) (gCons t u) := by
  intro pins s σ H vs us Q I r h
  obtain ⟨v, vr, e1, h⟩ := h
  subst e1
  cases r with
  | cons r rr =>
    rw [hs]
    refine assignInOrder_cons (thn (h1 pins s σ H _ _ _ I r h) fun _ s1 ⟨σ1, H1, I1, q1⟩ => ?_)
    exact h2 pins s1 σ1 H1 _ _ Q I1 rr q1
/-- (a, b, ..) = a tuple of that length -/
def gTup (K : PySem.W.Frag) (n : Nat) (t : TGs) : TG := fun v σ H Q => ∃ a xs, v = .ref a ∧ SqT K H a xs ∧ xs.length = n ∧ t xs σ H Q
theorem pg_tup {es : List Expr} {k : Nat} {t : TGs} {n : Nat} (hc : X.calm = true) (h : PGs X es t)
    (hn : (assignEach es X.env).length = n := by rfl) (hst : (assignEach es X.env).findIdx? (·.1) = none := by rfl) : PG X (.Tuple es k pos) (gTup X.K n t) := by
  intro pins s σ H v u Q I r hw
  obtain ⟨a, xs, e1, hq, hl, hw⟩ := hw
  subst e1
  cases r
  obtain ⟨its, rv, ht, hz⟩ := I.tuple hq
  refine assign_Tuple_tuple (I.ok.hd hc) ht (by simp [hn, ← hl, rv.length]) hst fun h' hx => ?_
  have I1 : Inv X pins σ H { s with heap := h' } := I.kept (t' := s.toks) fun b o e => hx b o (Nat.ne_of_lt (Heap.lt_size e)) e
  exact h pins _ σ H xs _ Q I1 (by simpa using rv) hw
/-- target = value -/
def tAsg (te : TE) (g : TG) : TS := fun D σ H => te σ H fun x H1 => g x σ H1 D.nx
theorem ps_asg {tg e : Expr} {te : TE} {g : TG} (he : PE X e te) (hg : PG X tg g) (hs : swapsWithSole [tg] e pos.line X.env = pure false := by rfl) (hw : swappedStores [tg] e X.env = pure none := by rfl)
    (h1 : (assignEach [tg] X.env).map (·.2) = [assign tg X.env] := by rfl) : PS X (.Assign [tg] e pos) (tAsg te g) := by
  intro pins s σ H D I h
  refine wpAny_Assign_stores (thn (he pins s σ H _ I h) fun v s1 ⟨x, H1, I1, r1, q1⟩ => ?_) hs hw
  rw [h1]
  exact thn (hg pins s1 σ H1 x v _ I1 r1 q1) fun _ s2 q => q
/-- name = value -/
theorem ps_set {i : Nat} {x : Str} {e : Expr} {te : TE} {pos' : Pos} (hN : X.N.Nodup) (hi : X.N[i]? = some x) (hx : Loc X.env.scope x) (he : PE X e te) (hs : swapsWith e (some (.Name x pos')) pos.line X.env = pure false := by rfl) (hf : X.fn x = true ∨ X.env.scope.names.lookup x = some .local := by first | exact .inl rfl | exact .inr rfl | assumption) :
    PS X (.Assign [.Name x pos'] e pos) (tAsg te (gName i)) := by
  intro pins s σ H D I h
  refine wpAny_Assign_Name (thn (he pins s σ H _ I h) fun v s1 ⟨y, H1, I1, r1, q1⟩ => ?_) hs
  exact store_ok I1 hN hi hx r1 (fun s2 I2 => ⟨_, H1, I2, q1⟩) hf
end

/-! ### while -/
section
variable {X : Cx} {pos : Pos}
end

/-! ### what a loop or a comprehension walks -/
/-- at turn i: it yields x (the heap may grow), or it stops -/
structure It where
  go : Nat → Hp → Prop
  yld : Nat → Hp → V → Hp → Prop
  stop : Nat → Hp → Prop
/-- the iterator's own objects may turn: they are not the frame's, not pinned, younger than the entry (or a comprehension's own) -/
def FpOk (X : Cx) (pins : List (Addr × Obj)) (H : Hp) (b : Addr) : Prop :=
  H b = none ∧ b ≠ X.env.locals ∧ b ∉ X.fs ∧ (b ∈ X.ex ∨ X.s₀.heap.objs.size ≤ b) ∧ (∀ x c, X.env.cells.lookup x = some c → c ≠ b) ∧ ∀ p ∈ X.pn ++ pins, p.1 ≠ b
theorem Inv.fpOk {X : Cx} {pins : List (Addr × Obj)} {σ : St} {H H' : Hp} {s : Shared} {b : Addr} (I : Inv X pins σ H s) (hb : s.heap.objs.size ≤ b) (hn : H' b = none) : FpOk X pins H' b := by
  refine ⟨hn, Nat.ne_of_gt (Nat.lt_of_lt_of_le I.lt hb), I.nofs hb, .inr (Nat.le_trans I.sz hb), fun x c e z => ?_, fun p hp z => ?_⟩
  · obtain ⟨v, q⟩ := I.cell x c e
    exact absurd (Nat.lt_of_lt_of_le q.lt (by rw [z]; exact hb)) (Nat.lt_irrefl _)
  · exact absurd (Nat.lt_of_lt_of_le (Heap.lt_size (I.pin p hp).1) (by rw [z]; exact hb)) (Nat.lt_irrefl _)
structure Turn (P : Program) (w : World) (K : PySem.W.Frag) (tg : Expr) (J : It) (fp : List Addr) (it : Addr) (tn : Nat → Heap → Prop) : Prop where
  mem : it ∈ fp
  obj : ∀ i h, tn i h → ∀ b ∈ fp, ∃ o, h.get? b = some o ∧ ∀ v, o.data ≠ .cell v
  keep : ∀ i h h', tn i h → (∀ b ∈ fp, ∀ o, h.get? b = some o → h'.get? b = some o) → tn i h'
  item : ∀ (X : Cx), X.prog = P → X.w = w → X.K = K → X.calm = true → ∀ (i : Nat) (pins : List (Addr × Obj)) (s : Shared) (σ : St) (H : Hp) (E : Value → Shared → Prop), Inv X pins σ H s → (∀ b ∈ fp, FpOk X pins H b) → tn i s.heap → J.go i H →
    wpAny (model P w) X.A (pyNext (.ref it)) (fun r s1 => ∃ u, r = some u ∧
      wpAny (model P w) X.A (letOwnedTupleGo tg (.ref it) u) (fun _ s2 => ∃ x H', Inv X pins σ H' s2 ∧ RelV x u ∧ J.yld i H x H' ∧ tn (i + 1) s2.heap ∧ ∀ b ∈ fp, H' b = none) E s1) E s
  done : ∀ (X : Cx), X.prog = P → X.w = w → X.K = K → X.calm = true → ∀ (i : Nat) (pins : List (Addr × Obj)) (s : Shared) (σ : St) (H : Hp) (E : Value → Shared → Prop), Inv X pins σ H s → (∀ b ∈ fp, FpOk X pins H b) → tn i s.heap → J.stop i H →
    wpAny (model P w) X.A (pyNext (.ref it)) (fun r s1 => r = none ∧ Inv X pins σ H s1) E s
  self : ∀ (A : Around) (i : Nat) (s : Shared) (Q : Value → Shared → Prop) (E : Value → Shared → Prop), tn i s.heap → Q (.ref it) s → wpAny (model P w) A (pyIter (.ref it)) Q E s
abbrev TI := St → Hp → (It → Hp → Prop) → Prop
/-- an iterator has come -/
def PIE (X : Cx) (pins : List (Addr × Obj)) (σ : St) (tg : Expr) (R : It → Hp → Prop) (itv : Value) (s2 : Shared) : Prop :=
  ∃ (it : Addr) (fp : List Addr) (tn : Nat → Heap → Prop) (J : It) (H' : Hp), itv = .ref it ∧ Inv X pins σ H' s2 ∧ Turn X.prog X.w X.K tg J fp it tn ∧ tn 0 s2.heap ∧ (∀ b ∈ fp, FpOk X pins H' b) ∧ R J H'
def PI (X : Cx) (tg iter : Expr) (wi : TI) : Prop :=
  ∀ (pins : List (Addr × Obj)) (s : Shared) (σ : St) (H : Hp) (R : It → Hp → Prop), Inv X pins σ H s → wi σ H R →
    wpAny (model X.prog X.w) X.A (eval iter X.env) (fun v s1 => wpAny (model X.prog X.w) X.A (pyIter v) (PIE X pins σ tg R) X.xe s1) X.xe s

/-- the step ahead of the store is nothing for an iterator that keeps no tuple -/
theorem go_of {M : Model} {A : Around} {E : Value → Shared → Prop} {s : Shared} {tg : Expr} {it : Addr} {u : Value} {o : Obj} {n : String} {vs : Array Value} {Q : Unit → Shared → Prop} (ho : s.heap.get? it = some o) (hc : o.cls = .type n) (hd : o.data = .fields vs)
    (hn : ["enumerate", "zip", "dict_itemiterator", "dict_reverseitemiterator", "odict_iterator", "itertools.zip_longest", "itertools.pairwise"].contains n = false) (hQ : Q () s) : wpAny M A (letOwnedTupleGo tg (.ref it) u) Q E s := by
  unfold letOwnedTupleGo
  cases tg <;> first
    | exact wpAny_pure hQ
    | (cases u <;> first
        | exact wpAny_pure hQ
        | (refine wpAny_bind (wpAny_load ho ?_)
           rw [hc, hd]
           show wpAny M A (if (["enumerate", "zip", "dict_itemiterator", "dict_reverseitemiterator", "odict_iterator", "itertools.zip_longest", "itertools.pairwise"].contains n && vs[0]? == some (rawInt _)) = true then _ else _) Q E s
           rw [if_neg (by intro h; rw [hn, Bool.false_and] at h; cases h)]
           exact wpAny_pure hQ))

/-- the list at a, as it stands at each turn (a loop may append to it) -/
def Itl (K : PySem.W.Frag) (a : Addr) : It :=
  ⟨fun i H => ∃ xs x, SqL K H a xs ∧ xs[i]? = some x, fun i H x H' => H' = H ∧ ∀ xs, SqL K H a xs → xs[i]? = some x, fun i H => ∃ xs, SqL K H a xs ∧ xs.length ≤ i⟩
/-- lo, lo + 1, .. (n of them) -/
def Itr (lo : Int) (n : Nat) : It := ⟨fun i _ => i < n, fun i H x H' => H' = H ∧ x = .int (lo + i), fun i _ => n ≤ i⟩
theorem turn_list {P : Program} {w : World} {K : PySem.W.Frag} {tg : Expr} (a it : Addr) : Turn P w K tg (Itl K a) [it] it (fun i h => h.IsListIter it a i) where
  mem := by simp
  obj := fun i h st b hb => by
    have e : b = it := by simpa using hb
    subst e
    obtain ⟨o, e, c, d⟩ := st
    exact ⟨o, e, fun v z => by rw [d] at z; cases z⟩
  keep := fun i h h' st k => st.at fun o e => k it (by simp) o e
  item := by
    intro X hP hw hK hc i pins s σ H E I hf st hg
    subst hP hw hK
    obtain ⟨xs, x, hq, hx⟩ := hg
    obtain ⟨its, rv, p, hz⟩ := I.list hq
    obtain ⟨u, hu, ru⟩ := rv.get hx
    obtain ⟨f0, f1, f2, f3, f4, f5⟩ := hf it (by simp)
    refine wpAny_pyNext_list_item st p.isList (x := u) (by simpa using hu) fun h' st' sb => ?_
    have I1 : Inv X pins σ H { s with heap := h' } := I.turned (t' := s.toks) (fun b o hb e => (sb.2 b hb).trans e) f0 f1 f3 f4 f5
    obtain ⟨o, e, c, d⟩ := id st'
    exact ⟨u, rfl, go_of (s := { s with heap := h' }) e c d (by decide) ⟨x, H, I1, ru, ⟨rfl, fun ys hy => by rw [I.list_inj hy hq]; exact hx⟩, st', fun b hb => (hf b hb).1⟩⟩
  done := by
    intro X hP hw hK hc i pins s σ H E I hf st hg
    subst hP hw hK
    obtain ⟨xs, hq, hx⟩ := hg
    obtain ⟨its, rv, p, hz⟩ := I.list hq
    obtain ⟨f0, f1, f2, f3, f4, f5⟩ := hf it (by simp)
    have hl := rv.length
    exact wpAny_pyNext_list_end (I.ok.hd hc) st p.isList (by simp; omega) fun h' eb => ⟨rfl, I.turned (t' := s.toks) (fun b o hb e => eb b o hb e) f0 f1 f3 f4 f5⟩
  self := fun _ _ _ _ _ st h => wpAny_pyIter_listiter st h
theorem turn_range {P : Program} {w : World} {K : PySem.W.Frag} {tg : Expr} (it : Addr) (lo : Int) (n : Nat) : Turn P w K tg (Itr lo n) [it] it (fun i h => IsRangeIter h it (lo + (i : Nat) * 1) ((n : Int) - (i : Nat)) 1) where
  mem := by simp
  obj := fun i h st b hb => by
    have e : b = it := by simpa using hb
    subst e
    exact ⟨_, st, fun v z => by
      have z' : Data.fields _ = Data.cell v := z
      cases z'⟩
  keep := fun i h h' st k => k it (by simp) _ st
  item := by
    intro X hP hw hK hc i pins s σ H E I hf st hg
    subst hP hw hK
    obtain ⟨f0, f1, f2, f3, f4, f5⟩ := hf it (by simp)
    have W := Walks.range (prog := X.prog) (w := X.w) (I.ok.hd hc) it lo 1 n
    refine W.item i s _ _ hg st fun v h' tk hv st' kk => ?_
    obtain ⟨t, rfl⟩ := hv
    have I1 : Inv X pins σ H { s with heap := h', toks := tk } := I.turned (fun b o hb e => kk b o (by simpa using hb) e) f0 f1 f3 f4 f5
    refine ⟨_, rfl, go_of (s := { s with heap := h', toks := tk }) (n := "range_iterator") st' rfl rfl (by decide) ⟨.int (lo + i), H, I1, ⟨t, ?_⟩, ⟨rfl, rfl⟩, st', fun b hb => (hf b hb).1⟩⟩
    rw [Int.mul_one]
  done := by
    intro X hP hw hK hc i pins s σ H E I hf st hg
    subst hP hw hK
    obtain ⟨f0, f1, f2, f3, f4, f5⟩ := hf it (by simp)
    exact wpAny_pyNext_range_end (I.ok.hd hc) st (by have : n ≤ i := hg; omega) fun h' eb => ⟨rfl, I.turned (t' := s.toks) (fun b o hb e => eb b o hb e) f0 f1 f3 f4 f5⟩
  self := fun _ _ _ _ _ st h => wpAny_pyIter_rangeiter st h
end L2

namespace L2
open PySem PySem.Spec PyProof.Rows
section
variable {X : Cx} {tg : Expr}
/-- a range object just made, walked -/
theorem range_it {pins : List (Addr × Obj)} {σ : St} {H : Hp} {s : Shared} {R : It → Hp → Prop} {E : Value → Shared → Prop} {lo hi : Int} {t u v : Tok} {tk : Nat} (I : Inv X pins σ H s) (h1 : -(2 ^ 62) ≤ lo) (h2 : lo < 2 ^ 62) (h3 : -(2 ^ 62) ≤ hi) (h4 : hi < 2 ^ 62)
    (q : R (Itr lo (hi - lo).toNat) H) : wpAny (model X.prog X.w) X.A (pyIter (.ref s.heap.objs.size)) (PIE X pins σ tg R) E { s with heap := s.heap.push { cls := .type "range", data := .fields #[.int lo t, .int hi u, .int 1 v] }, toks := tk } := by
  refine wpAny_pyIter_range (IsRange.new ..) (small_one h1 h2 h3 h4) ?_
  have I1 : Inv X pins σ H { s with heap := s.heap.push { cls := .type "range", data := .fields #[.int lo t, .int hi u, .int 1 v] }, toks := tk } := I.kept fun b o e => Heap.get?_push_of_some _ e
  refine ⟨(s.heap.push { cls := .type "range", data := .fields #[.int lo t, .int hi u, .int 1 v] }).objs.size, [(s.heap.push { cls := .type "range", data := .fields #[.int lo t, .int hi u, .int 1 v] }).objs.size], _, _, H, rfl,
    I1.kept (t' := tk) fun b o e => Heap.get?_push_of_some _ e, turn_range _ lo (hi - lo).toNat, ?_, fun b hb => ?_, q⟩
  · have e1 : lo + ((0 : Nat) : Int) * 1 = lo := by simp
    have e2 : (((hi - lo).toNat : Nat) : Int) - ((0 : Nat) : Int) = Builtin.Range.rangeSize lo hi 1 := by rw [rangeSize_one]; split <;> omega
    show IsRangeIter _ _ (lo + ((0 : Nat) : Int) * 1) ((((hi - lo).toNat : Nat) : Int) - ((0 : Nat) : Int)) 1
    rw [e1, e2]
    exact Heap.get?_push_size _ rfl
  · have e : b = (s.heap.push { cls := .type "range", data := .fields #[.int lo t, .int hi u, .int 1 v] }).objs.size := by simpa using hb
    subst e
    exact I1.fpOk (Nat.le_refl _) (I1.hok.fresh (Nat.le_refl _))
def iRng1 (ta : TA) : TI := fun σ H R => ta σ H fun vs H1 => ∃ j : Int, vs = [.int j] ∧ -(2 ^ 62) ≤ j ∧ j < 2 ^ 62 ∧ R (Itr 0 j.toNat) H1
theorem pi_range1 {a : Expr} {ta : TA} {p pos : Pos} (hg : Gl X "range") (hm : X.mg "range" = none) (ha : PA X [a] ta) (hs : starEach [a] X.env = [(false, eval a X.env)] := by rfl) : PI X tg (.Call (.Name "range" p) [a] [] pos) (iRng1 ta) := by
  intro pins s σ H R I h
  refine Call_ (ld_blt I hg hm boot_range (PyProof.Rows.callWith_type1 (thn (ha pos pins s σ H _ I h) fun us s1 ⟨vs, H1, I1, r1, q1⟩ => ?_) hs rfl))
  obtain ⟨j, e, q1, q2, q⟩ := q1
  subst e
  cases r1 with
  | cons r rr =>
    cases rr
    obtain ⟨t, rfl⟩ := r
    exact call_range_1 (range_it I1 (by omega) (by omega) q1 q2 (by simpa using q))
/-! ### for -/
/-- W: the invariant by the turn and a measure; N: what the body is to reach -/
def tFor (wi : TI) (g : TG) (tb : TS) : TS := fun D σ H => wi σ H fun J H1 => ∃ W : Nat → Nat → St → Hp → Prop, (∃ m, W 0 m σ H1) ∧ ∀ i m σ H, W i m σ H →
  (J.stop i H ∧ D.nx σ H) ∨ (J.go i H ∧ ∃ N : St → Hp → Prop, (∀ σ' H', N σ' H' → ∃ m', m' < m ∧ W (i + 1) m' σ' H') ∧ ∀ x H', J.yld i H x H' → g x σ H' fun σ2 H2 => tb { D with nx := N, ct := N, bk := D.nx } σ2 H2)
/-- the records at fp as they stand -/
def pinsAt (fp : List Addr) (h : Heap) : List (Addr × Obj) := fp.filterMap fun b => (h.get? b).map fun o => (b, o)
theorem mem_pinsAt {fp : List Addr} {h : Heap} {b : Addr} {o : Obj} (hb : b ∈ fp) (e : h.get? b = some o) : (b, o) ∈ pinsAt fp h := List.mem_filterMap.mpr ⟨b, hb, by rw [e]; rfl⟩
theorem of_pinsAt {fp : List Addr} {h : Heap} {p : Addr × Obj} (hp : p ∈ pinsAt fp h) : p.1 ∈ fp ∧ h.get? p.1 = some p.2 := by
  obtain ⟨b, hb, e⟩ := List.mem_filterMap.mp hp
  cases q : h.get? b with
  | none => rw [q] at e; cases e
  | some o =>
    rw [q] at e
    have e' : (b, o) = p := Option.some.inj e
    subst e'
    exact ⟨hb, q⟩
theorem Inv.pinned {pins : List (Addr × Obj)} {σ : St} {H : Hp} {s : Shared} {fp : List Addr} (I : Inv X pins σ H s) (hf : ∀ b ∈ fp, FpOk X pins H b) (ho : ∀ b ∈ fp, ∃ o, s.heap.get? b = some o ∧ ∀ v, o.data ≠ .cell v) : Inv X (pins ++ pinsAt fp s.heap) σ H s :=
  I.pins_of fun p hp => (List.mem_append.mp hp).elim (fun z => I.pin p (List.mem_append_right _ z)) fun z => by
    obtain ⟨hb, e⟩ := of_pinsAt z
    obtain ⟨f0, f1, f2, _⟩ := hf p.1 hb
    obtain ⟨o, e', d⟩ := ho p.1 hb
    rw [e] at e'; cases e'
    exact ⟨e, f0, f1, f2, d⟩
theorem Inv.unpinned {pins pl : List (Addr × Obj)} {σ : St} {H : Hp} {s : Shared} (I : Inv X (pins ++ pl) σ H s) : Inv X pins σ H s := I.pins_of fun p hp => I.pin p (List.mem_append_right _ (List.mem_append_left _ hp))
theorem ps_for {iter : Expr} {body : List Stmt} {wi : TI} {g : TG} {tb : TS} {pos : Pos} (hp : PassesOwn (model X.prog X.w) X.A X.env X.xe) (hc : X.calm = true) (hi : PI X tg iter wi) (hg : PG X tg g) (hb : PSs X body tb)
    (hs : ∀ x, foldedSetIterable iter X.env x = pure x := by intro _; rfl) : PS X (.For tg iter body [] pos) (tFor wi g tb) := by
  intro pins s σ H D I h
  refine wpAny_For (thn (hi pins s σ H _ I h) fun v s1 h1 => thn h1 fun itv s2 h2 => ?_) hs
  obtain ⟨it, fp, tn, J, H2, e, I2, T, st2, f2, W, ⟨m0, w0⟩, turn⟩ := h2
  subst e
  -- what stays true of the iterator's objects through the loop
  have stat : ∀ {H' : Hp}, (∀ b ∈ fp, H' b = none) → ∀ b ∈ fp, FpOk X pins H' b := fun hn b hb => ⟨hn b hb, (f2 b hb).2⟩
  refine codeAny_forLoop_any (fun n s' => ∃ i σ' H', Inv X pins σ' H' s' ∧ tn i s'.heap ∧ (∀ b ∈ fp, H' b = none) ∧ W i n σ' H') ?_ m0 ⟨0, σ, H2, I2, st2, fun b hb => (f2 b hb).1, w0⟩
  rintro n s3 ⟨i, σ3, H3, I3, st3, fr3, w3⟩
  rcases turn i n σ3 H3 w3 with ⟨stop, qn⟩ | ⟨go, N, hN, step⟩
  · refine wpAny_passesOwn hp (thn (T.done X rfl rfl rfl hc i pins s3 σ3 H3 X.xe I3 (stat fr3) st3 stop) fun r s4 ⟨hr, I4⟩ => ?_)
    subst hr
    exact wpAny_execs_nil ⟨σ3, H3, I4, qn⟩
  · refine wpAny_passesOwn hp (thn (T.item X rfl rfl rfl hc i pins s3 σ3 H3 X.xe I3 (stat fr3) st3 go) fun r s4 ⟨u, hr, h4⟩ => ?_)
    subst hr
    refine wpAny_passesOwn hp (thn h4 fun _ s5 ⟨x, H5, I5, r5, y5, st5, fr5⟩ => ?_)
    have I5' := I5.pinned (stat fr5) (T.obj _ _ st5)
    refine wpAny_passesOwn hp (thn (hg _ s5 σ3 H5 x u _ I5' r5 (step x H5 y5)) fun _ s6 ⟨σ6, H6, I6, q6⟩ => ?_)
    refine wpAny_passesOwn hp (thn (hb _ s6 σ6 H6 _ I6 q6) fun f s7 q7 => ?_)
    have again : ∀ {σ7 : St} {H7 : Hp}, Inv X (pins ++ pinsAt fp s5.heap) σ7 H7 s7 → N σ7 H7 → ∃ m, m < n ∧ ∃ i σ' H', Inv X pins σ' H' s7 ∧ tn i s7.heap ∧ (∀ b ∈ fp, H' b = none) ∧ W i m σ' H' := fun {σ7 H7} I7 n7 => by
      obtain ⟨m', hm, w7⟩ := hN σ7 H7 n7
      refine ⟨m', hm, i + 1, σ7, H7, I7.unpinned, T.keep _ _ _ st5 fun b hb o e => (I7.pin (b, o) (List.mem_append_right _ (List.mem_append_right _ (mem_pinsAt hb e)))).1, fun b hb => ?_, w7⟩
      obtain ⟨o, e, d⟩ := T.obj _ _ st5 b hb
      exact (I7.pin (b, o) (List.mem_append_right _ (List.mem_append_right _ (mem_pinsAt hb e)))).2.1
    cases f with
    | next => obtain ⟨σ7, H7, I7, n7⟩ := q7; exact again I7 n7
    | cont => obtain ⟨σ7, H7, I7, n7⟩ := q7; exact again I7 n7
    | brk => obtain ⟨σ7, H7, I7, q7⟩ := q7; exact ⟨σ7, H7, I7.unpinned, q7⟩
    | ret v => obtain ⟨x7, σ7, H7, I7, r7, q7⟩ := q7; exact ⟨x7, σ7, H7, I7.unpinned, r7, q7⟩
end

/-! ### the forms one uses -/
/-- over a list that the body leaves as it is -/
theorem for_list {K : PySem.W.Frag} {a : Addr} {xs : List V} {g : TG} {tb : TS} {D : Ends} {σ : St} {H : Hp} (Pv : Nat → St → Hp → Prop) (h0 : Pv 0 σ H) (hl : ∀ i σ H, i ≤ xs.length → Pv i σ H → SqL K H a xs)
    (hs : ∀ i x σ H, xs[i]? = some x → Pv i σ H → g x σ H fun σ2 H2 => tb { D with nx := Pv (i + 1), ct := Pv (i + 1), bk := D.nx } σ2 H2) (hd : ∀ σ H, Pv xs.length σ H → D.nx σ H) :
    ∃ W : Nat → Nat → St → Hp → Prop, (∃ m, W 0 m σ H) ∧ ∀ i m σ H, W i m σ H →
      ((Itl K a).stop i H ∧ D.nx σ H) ∨ ((Itl K a).go i H ∧ ∃ N : St → Hp → Prop, (∀ σ' H', N σ' H' → ∃ m', m' < m ∧ W (i + 1) m' σ' H') ∧ ∀ x H', (Itl K a).yld i H x H' → g x σ H' fun σ2 H2 => tb { D with nx := N, ct := N, bk := D.nx } σ2 H2) := by
  refine ⟨fun i m σ H => m = xs.length - i ∧ i ≤ xs.length ∧ Pv i σ H, ⟨xs.length, by simp, Nat.zero_le _, h0⟩, ?_⟩
  rintro i m σ H ⟨rfl, hi, p⟩
  have q := hl i σ H hi p
  by_cases hlt : i < xs.length
  · refine .inr ⟨⟨xs, xs[i], q, by simp [hlt]⟩, Pv (i + 1), fun σ' H' p' => ⟨xs.length - (i + 1), by omega, rfl, hlt, p'⟩, fun x H' y => ?_⟩
    obtain ⟨e, y⟩ := y
    subst e
    exact hs i x σ _ (y xs q) p
  · have e : i = xs.length := by omega
    subst e
    exact .inl ⟨⟨xs, q, Nat.le_refl _⟩, hd σ H p⟩
theorem for_range {lo : Int} {n : Nat} {g : TG} {tb : TS} {D : Ends} {σ : St} {H : Hp} (Pv : Nat → St → Hp → Prop) (h0 : Pv 0 σ H)
    (hs : ∀ i σ H, i < n → Pv i σ H → g (.int (lo + i)) σ H fun σ2 H2 => tb { D with nx := Pv (i + 1), ct := Pv (i + 1), bk := D.nx } σ2 H2) (hd : ∀ σ H, Pv n σ H → D.nx σ H) :
    ∃ W : Nat → Nat → St → Hp → Prop, (∃ m, W 0 m σ H) ∧ ∀ i m σ H, W i m σ H →
      ((Itr lo n).stop i H ∧ D.nx σ H) ∨ ((Itr lo n).go i H ∧ ∃ N : St → Hp → Prop, (∀ σ' H', N σ' H' → ∃ m', m' < m ∧ W (i + 1) m' σ' H') ∧ ∀ x H', (Itr lo n).yld i H x H' → g x σ H' fun σ2 H2 => tb { D with nx := N, ct := N, bk := D.nx } σ2 H2) := by
  refine ⟨fun i m σ H => m = n - i ∧ i ≤ n ∧ Pv i σ H, ⟨n, by simp, Nat.zero_le _, h0⟩, ?_⟩
  rintro i m σ H ⟨rfl, hi, p⟩
  by_cases hlt : i < n
  · refine .inr ⟨hlt, Pv (i + 1), fun σ' H' p' => ⟨n - (i + 1), by omega, rfl, hlt, p'⟩, fun x H' y => ?_⟩
    obtain ⟨e, y⟩ := y
    subst e y
    exact hs i σ _ hlt p
  · have e : i = n := by omega
    subst e
    exact .inl ⟨Nat.le_refl _, hd σ H p⟩
end L2

namespace L2
open PySem PySem.Spec PyProof.Rows

abbrev R2 := V → V → Hp → VK → Prop
/-- a two-place operation on values: f is binaryOp op, inplaceOp op or compareOp op -/
def OpR (X : Cx) (f : Value → Value → Sem Value) (r : R2) : Prop :=
  ∀ (pins : List (Addr × Obj)) (s : Shared) (σ : St) (H : Hp) (x y : V) (v u : Value) (Q : VK), Inv X pins σ H s → RelV x v → RelV y u → r x y H Q →
    wpAny (model X.prog X.w) X.A (f v u) (EP X pins σ Q) X.xe s
/-- a one-place operation -/
def UnR (X : Cx) (f : Value → Sem Value) (r : V → Hp → VK → Prop) : Prop :=
  ∀ (pins : List (Addr × Obj)) (s : Shared) (σ : St) (H : Hp) (x : V) (v : Value) (Q : VK), Inv X pins σ H s → RelV x v → r x H Q →
    wpAny (model X.prog X.w) X.A (f v) (EP X pins σ Q) X.xe s
/-- a call of a value that is known (a builtin, a type) with values -/
def CallR (X : Cx) (f : Value) (r : List V → Hp → VK → Prop) : Prop :=
  ∀ (pins : List (Addr × Obj)) (s : Shared) (σ : St) (H : Hp) (xs : List V) (us : List Value) (Q : VK), Inv X pins σ H s → Vals xs us → r xs H Q →
    wpAny (model X.prog X.w) X.A (call f us) (EP X pins σ Q) X.xe s
/-- a value's truth -/
def TruR (X : Cx) (r : V → Hp → (Bool → Hp → Prop) → Prop) : Prop :=
  ∀ (pins : List (Addr × Obj)) (s : Shared) (σ : St) (H : Hp) (x : V) (v : Value) (Q : Bool → Hp → Prop), Inv X pins σ H s → RelV x v → r x H Q →
    wpAny (model X.prog X.w) X.A (truthy v) (TP X pins σ Q) X.xe s

def tOp (r : R2) (ta tb : TE) : TE := fun σ H Q => ta σ H fun x H1 => tb σ H1 fun y H2 => r x y H2 Q
def tUn (r : V → Hp → VK → Prop) (ta : TE) : TE := fun σ H Q => ta σ H fun x H1 => r x H1 Q
/-- ints in, under C, and a value out -/
def rI (C : Int → Int → Prop) (g : Int → Int → V) : R2 := fun x y H Q => ∃ i j, x = .int i ∧ y = .int j ∧ C i j ∧ Q (g i j) H
def rI0 (g : Int → Int → V) : R2 := fun x y H Q => ∃ i j, x = .int i ∧ y = .int j ∧ Q (g i j) H
def rU (g : Int → V) : V → Hp → VK → Prop := fun x H Q => ∃ i, x = .int i ∧ Q (g i) H

section
variable {X : Cx} {a b c : Expr} {ta tb tc : TE} {pos : Pos}

theorem binT (ha : PE X a ta) (hb : PE X b tb) {pins : List (Addr × Obj)} {s : Shared} {σ : St} {H : Hp} {R : V → V → Hp → Prop} (I : Inv X pins σ H s)
    (h : ta σ H fun x H1 => tb σ H1 fun y H2 => R x y H2) {Q : Value → Shared → Prop} {f : Value → Value → Sem Value}
    (hf : ∀ v u s2 x y H2, Inv X pins σ H2 s2 → RelV x v → RelV y u → R x y H2 → wpAny (model X.prog X.w) X.A (f v u) Q X.xe s2) :
    wpAny (model X.prog X.w) X.A (eval a X.env) (fun v s₁ => wpAny (model X.prog X.w) X.A (eval b X.env) (fun u s₂ => wpAny (model X.prog X.w) X.A (f v u) Q X.xe s₂) X.xe s₁) X.xe s := by
  refine thn (ha pins s σ H _ I h) fun v s1 ⟨x, H1, I1, r1, q1⟩ => ?_
  refine thn (hb pins s1 σ H1 _ I1 q1) fun u s2 ⟨y, H2, I2, r2, q2⟩ => ?_
  exact hf v u s2 x y H2 I2 r1 r2 q2

theorem pe_op {op : Operator} {r : R2} (ho : OpR X (binaryOp op) r) (ha : PE X a ta) (hb : PE X b tb) : PE X (.BinOp a op b pos) (tOp r ta tb) := by
  intro pins s σ H Q I h
  exact wpAny_BinOp (binT ha hb I h fun v u s2 x y H2 I2 rx ry q => ho pins s2 σ H2 x y v u Q I2 rx ry q)
theorem pe_un {op : UnaryOp} {r : V → Hp → VK → Prop} (ho : UnR X (unaryOp op) r) (ha : PE X a ta) : PE X (.UnaryOp op a pos) (tUn r ta) := by
  intro pins s σ H Q I h
  exact UnaryOp_ (thn (ha pins s σ H _ I h) fun v s1 ⟨x, H1, I1, r1, q1⟩ => ho pins s1 σ H1 x v Q I1 r1 q1)
/-! ### ints -/
theorem opI {f : Value → Value → Sem Value} {C : Int → Int → Prop} {g : Int → Int → Int}
    (rule : ∀ (i j : Int) (t u : Tok) (s : Shared) (Q : Value → Shared → Prop) (E : Value → Shared → Prop), C i j → Q (.int (g i j) s.toks) { s with toks := s.toks + 1 } → wpAny (model X.prog X.w) X.A (f (.int i t) (.int j u)) Q E s) :
    OpR X f (rI C fun i j => .int (g i j)) := by
  intro pins s σ H x y v u Q I rx ry h
  obtain ⟨i, j, rfl, rfl, hc, q⟩ := h
  obtain ⟨t, rfl⟩ := rx
  obtain ⟨t', rfl⟩ := ry
  exact rule i j t t' s _ _ hc ⟨.int (g i j), H, I.tok _, ⟨_, rfl⟩, q⟩
theorem opI0 {f : Value → Value → Sem Value} {g : Int → Int → Int}
    (rule : ∀ (i j : Int) (t u : Tok) (s : Shared) (Q : Value → Shared → Prop) (E : Value → Shared → Prop), Q (.int (g i j) s.toks) { s with toks := s.toks + 1 } → wpAny (model X.prog X.w) X.A (f (.int i t) (.int j u)) Q E s) :
    OpR X f (rI0 fun i j => .int (g i j)) := by
  intro pins s σ H x y v u Q I rx ry h
  obtain ⟨i, j, rfl, rfl, q⟩ := h
  obtain ⟨t, rfl⟩ := rx
  obtain ⟨t', rfl⟩ := ry
  exact rule i j t t' s _ _ ⟨.int (g i j), H, I.tok _, ⟨_, rfl⟩, q⟩
theorem opB0 {f : Value → Value → Sem Value} {g : Int → Int → Bool}
    (rule : ∀ (i j : Int) (t u : Tok) (s : Shared) (Q : Value → Shared → Prop) (E : Value → Shared → Prop), Q (.bool (g i j)) s → wpAny (model X.prog X.w) X.A (f (.int i t) (.int j u)) Q E s) :
    OpR X f (rI0 fun i j => .bl (g i j)) := by
  intro pins s σ H x y v u Q I rx ry h
  obtain ⟨i, j, rfl, rfl, q⟩ := h
  obtain ⟨t, rfl⟩ := rx
  obtain ⟨t', rfl⟩ := ry
  exact rule i j t t' s _ _ ⟨.bl (g i j), H, I, rfl, q⟩

def CPow (i j : Int) : Prop := 0 ≤ j ∧ j ≤ 1000000 ∧ i.natAbs < 2 ^ 64
def CMul (i j : Int) : Prop := (-(2 ^ 64) < i ∧ i < 2 ^ 64) ∨ (-(2 ^ 64) < j ∧ j < 2 ^ 64)
theorem CMul.ok {i j : Int} (h : CMul i j) : IntMulOk i j := by
  rcases h with ⟨h1, h2⟩ | ⟨h1, h2⟩
  · exact .of_left (intBits_le_64 h1 h2)
  · exact .of_right (intBits_le_64 h1 h2)
theorem op_add : OpR X (binaryOp .Add) (rI0 fun i j => .int (i + j)) := opI0 fun _ _ _ _ _ _ _ q => add_int q
theorem op_sub : OpR X (binaryOp .Sub) (rI0 fun i j => .int (i - j)) := opI0 fun _ _ _ _ _ _ _ q => sub_int q
theorem op_mul : OpR X (binaryOp .Mult) (rI CMul fun i j => .int (i * j)) := opI fun _ _ _ _ _ _ _ hc q => mul_int q hc.ok
/-- % by a positive divisor of any size -/
theorem op_mod : OpR X (binaryOp .Mod) (rI (fun _ j => 0 < j) fun i j => .int (i % j)) := opI fun i j _ _ _ _ _ hc q => by
  have h1 : (0 : Int) < j := hc
  exact mod_int' (by omega) (by rw [Int.fmod_eq_emod_of_nonneg i (by omega)]; exact q)
theorem op_pow : OpR X (binaryOp .Pow) (rI CPow fun i j => .int (i ^ j.toNat)) := opI fun _ _ _ _ _ _ _ hc q => pow_int_small hc.1 hc.2.1 hc.2.2 q
theorem unI {f : Value → Sem Value} {g : Int → Int}
    (rule : ∀ (i : Int) (t : Tok) (s : Shared) (Q : Value → Shared → Prop) (E : Value → Shared → Prop), Q (.int (g i) s.toks) { s with toks := s.toks + 1 } → wpAny (model X.prog X.w) X.A (f (.int i t)) Q E s) :
    UnR X f (rU fun i => .int (g i)) := by
  intro pins s σ H x v Q I rx h
  obtain ⟨i, rfl, q⟩ := h
  obtain ⟨t, rfl⟩ := rx
  exact rule i t s _ _ ⟨.int (g i), H, I.tok _, ⟨_, rfl⟩, q⟩
theorem un_neg : UnR X (unaryOp .USub) (rU fun i => .int (-i)) := unI fun _ _ _ _ _ q => neg_int q
/-! ### bools among ints: n += (a < b) -/
end

/-! ### comparisons -/
/-- the scalars that == tells apart as data does -/
def scal : V → V → Bool
  | .non, .non => true | .non, .int _ => true | .int _, .non => true | .non, .bl _ => true | .bl _, .non => true | .non, .str _ => true | .str _, .non => true
  | .int _, .int _ => true | .bl _, .bl _ => true | .str _, .str _ => true | .byt _, .byt _ => true
  | .int _, .str _ => true | .str _, .int _ => true | .bl _, .str _ => true | .str _, .bl _ => true
  | _, _ => false
def rEq : R2 := fun x y H Q => scal x y = true ∧ Q (.bl (decide (x = y))) H
def rNe : R2 := fun x y H Q => scal x y = true ∧ Q (.bl (!decide (x = y))) H

theorem dec_int {i j : Int} : decide (V.int i = V.int j) = (i == j) := by
  rw [Bool.eq_iff_iff]
  simp
theorem dec_bl {i j : Bool} : decide (V.bl i = V.bl j) = (i == j) := by
  rw [Bool.eq_iff_iff]
  simp
theorem dec_str {i j : Str} : decide (V.str i = V.str j) = (i == j) := by
  rw [Bool.eq_iff_iff]
  simp
theorem dec_byt {i j : Array UInt8} : decide (V.byt i = V.byt j) = (i.toList == j.toList) := by
  rw [Bool.eq_iff_iff]
  cases i
  cases j
  simp

section
variable {X : Cx} {a b c : Expr} {ta tb tc : TE} {pos : Pos}
theorem fin_bl {pins : List (Addr × Obj)} {σ : St} {H : Hp} {s : Shared} {Q : VK} {k k' : Bool} (I : Inv X pins σ H s) (q : Q (.bl k) H) (e : k = k') : EP X pins σ Q (.bool k') s := by
  subst e
  exact ⟨.bl k, H, I, rfl, q⟩
theorem op_eq : OpR X (compareOp .Eq) rEq := by
  intro pins s σ H x y v u Q I rx ry h
  obtain ⟨hs, q⟩ := h
  cases x with
  | non =>
    cases rx
    cases y with
    | non => cases ry; exact PySem.EqNone.eq_none_none (fin_bl I q (by simp))
    | bl j => cases ry; exact PySem.EqNone.eq_none_bool (fin_bl I q (by simp))
    | int j => obtain ⟨t', rfl⟩ := ry; exact PySem.EqNone.eq_none_int (fin_bl I q (by simp))
    | str j => obtain ⟨t', rfl⟩ := ry; exact PySem.EqNone.eq_none_str (fin_bl I q (by simp))
    | _ => exact absurd (show false = true from hs) Bool.false_ne_true
  | bl i =>
    cases rx
    cases y with
    | non => cases ry; exact PySem.EqNone.eq_bool_none (fin_bl I q (by simp))
    | bl j => cases ry; exact eq_bool (fin_bl I q dec_bl)
    | str j => obtain ⟨t', rfl⟩ := ry; exact PySem.EqMixed.eq_bool_str (fin_bl I q (by simp))
    | _ => exact absurd (show false = true from hs) Bool.false_ne_true
  | int i =>
    obtain ⟨t, rfl⟩ := rx
    cases y with
    | non => cases ry; exact PySem.EqNone.eq_int_none (fin_bl I q (by simp))
    | int j => obtain ⟨t', rfl⟩ := ry; exact eq_int (fin_bl I q dec_int)
    | str j => obtain ⟨t', rfl⟩ := ry; exact PySem.EqMixed.eq_int_str (fin_bl I q (by simp))
    | _ => exact absurd (show false = true from hs) Bool.false_ne_true
  | str i =>
    obtain ⟨t, rfl⟩ := rx
    cases y with
    | non => cases ry; exact PySem.EqNone.eq_str_none (fin_bl I q (by simp))
    | bl j => cases ry; exact PySem.EqMixed.eq_str_bool (fin_bl I q (by simp))
    | int j => obtain ⟨t', rfl⟩ := ry; exact PySem.EqMixed.eq_str_int (fin_bl I q (by simp))
    | str j => obtain ⟨t', rfl⟩ := ry; exact eq_str (fin_bl I q dec_str)
    | _ => exact absurd (show false = true from hs) Bool.false_ne_true
  | byt i =>
    obtain ⟨t, rfl⟩ := rx
    cases y with
    | byt j => obtain ⟨t', rfl⟩ := ry; exact PySem.W.eq_bytes (fin_bl I q dec_byt)
    | _ => exact absurd (show false = true from hs) Bool.false_ne_true
  | _ => cases y <;> exact absurd (show false = true from hs) Bool.false_ne_true
theorem op_ne : OpR X (compareOp .NotEq) rNe := by
  intro pins s σ H x y v u Q I rx ry h
  obtain ⟨hs, q⟩ := h
  cases x with
  | non =>
    cases rx
    cases y with
    | non => cases ry; exact PySem.EqNone.ne_none_none (fin_bl I q (by simp))
    | bl j => cases ry; exact PySem.EqNone.ne_none_bool (fin_bl I q (by simp))
    | int j => obtain ⟨t', rfl⟩ := ry; exact PySem.EqNone.ne_none_int (fin_bl I q (by simp))
    | str j => obtain ⟨t', rfl⟩ := ry; exact PySem.EqNone.ne_none_str (fin_bl I q (by simp))
    | _ => exact absurd (show false = true from hs) Bool.false_ne_true
  | bl i =>
    cases rx
    cases y with
    | non => cases ry; exact PySem.EqNone.ne_bool_none (fin_bl I q (by simp))
    | bl j => cases ry; exact ne_bool (fin_bl I q (congrArg not dec_bl))
    | str j => obtain ⟨t', rfl⟩ := ry; exact PySem.EqMixed.ne_bool_str (fin_bl I q (by simp))
    | _ => exact absurd (show false = true from hs) Bool.false_ne_true
  | int i =>
    obtain ⟨t, rfl⟩ := rx
    cases y with
    | non => cases ry; exact PySem.EqNone.ne_int_none (fin_bl I q (by simp))
    | int j => obtain ⟨t', rfl⟩ := ry; exact ne_int (fin_bl I q (congrArg not dec_int))
    | str j => obtain ⟨t', rfl⟩ := ry; exact PySem.EqMixed.ne_int_str (fin_bl I q (by simp))
    | _ => exact absurd (show false = true from hs) Bool.false_ne_true
  | str i =>
    obtain ⟨t, rfl⟩ := rx
    cases y with
    | non => cases ry; exact PySem.EqNone.ne_str_none (fin_bl I q (by simp))
    | bl j => cases ry; exact PySem.EqMixed.ne_str_bool (fin_bl I q (by simp))
    | int j => obtain ⟨t', rfl⟩ := ry; exact PySem.EqMixed.ne_str_int (fin_bl I q (by simp))
    | str j => obtain ⟨t', rfl⟩ := ry; exact ne_str (fin_bl I q (congrArg not dec_str))
    | _ => exact absurd (show false = true from hs) Bool.false_ne_true
  | byt i =>
    obtain ⟨t, rfl⟩ := rx
    cases y with
    | byt j => obtain ⟨t', rfl⟩ := ry; exact PySem.W.ne_bytes (fin_bl I q (congrArg not dec_byt))
    | _ => exact absurd (show false = true from hs) Bool.false_ne_true
  | _ => cases y <;> exact absurd (show false = true from hs) Bool.false_ne_true

theorem op_lt : OpR X (compareOp .Lt) (rI0 fun i j => .bl (decide (i < j))) := opB0 fun _ _ _ _ _ _ _ q => lt_int q
theorem op_le : OpR X (compareOp .LtE) (rI0 fun i j => .bl (decide (i ≤ j))) := opB0 fun _ _ _ _ _ _ _ q => le_int q
theorem op_gt : OpR X (compareOp .Gt) (rI0 fun i j => .bl (decide (j < i))) := opB0 fun _ _ _ _ _ _ _ q => gt_int q
theorem op_ge : OpR X (compareOp .GtE) (rI0 fun i j => .bl (decide (j ≤ i))) := opB0 fun _ _ _ _ _ _ _ q => ge_int q
/-- is None, is not None: the right side a value none -/
theorem op_isN : OpR X (compareOp .Is) (fun x y H Q => y = .non ∧ Q (.bl (decide (x = .non))) H) := by
  intro pins s σ H x y v u Q I rx ry h
  obtain ⟨rfl, q⟩ := h
  cases ry
  refine is_none_gen (fin_bl I q ?_)
  cases x <;> first
    | (cases rx; rfl)
    | (obtain ⟨t, rfl⟩ := rx; rfl)
theorem op_notN : OpR X (compareOp .IsNot) (fun x y H Q => y = .non ∧ Q (.bl (!decide (x = .non))) H) := by
  intro pins s σ H x y v u Q I rx ry h
  obtain ⟨rfl, q⟩ := h
  cases ry
  refine isnot_none_gen (fin_bl I q ?_)
  cases x <;> first
    | (cases rx; rfl)
    | (obtain ⟨t, rfl⟩ := rx; rfl)

theorem nomark (b : Expr) {op : CmpOp} (h : op ≠ .In := by decide) (h2 : op ≠ .NotIn := by decide) : behindInMarks op b = false := by
  have e1 : (op == CmpOp.In) = false := by cases op <;> first | rfl | exact absurd rfl h
  have e2 : (op == CmpOp.NotIn) = false := by cases op <;> first | rfl | exact absurd rfl h2
  cases b <;> simp [behindInMarks, e1, e2]
/-- a comparison as a value; hm: nomark b, or (for in, not in) by with_unfolding_all rfl -/
theorem pe_cmpR {op : CmpOp} {r : R2} (ho : OpR X (compareOp op) r) (ha : PE X a ta) (hb : PE X b tb) (hm : behindInMarks op b = false) : PE X (.Compare a [op] [b] pos) (tOp r ta tb) := by
  intro pins s σ H Q I h
  exact wpAny_Compare1 (binT ha hb I h fun v u s2 x y H2 I2 rx ry q => ho pins s2 σ H2 x y v u Q I2 rx ry q) hm
/-! ### truth -/
/-- a value's truth by the abstract heap -/
def TruV (K : PySem.W.Frag) (x : V) (H : Hp) (k : Bool) : Prop :=
  match x with
  | .non => k = false
  | .bl b => k = b
  | .int i => k = (i != 0)
  | .str y => y.length ≤ sizeLine ∧ k = ((y.length : Int) != 0)
  | .byt y => y.size ≤ sizeLine ∧ k = ((y.size : Int) != 0)
  | .ref p => (∃ xs, SqL K H p xs ∧ k = !xs.isEmpty) ∨ (∃ xs, SqT K H p xs ∧ k = !xs.isEmpty) ∨ ∃ kvs, H p = some (.dK kvs) ∧ k = !kvs.isEmpty
  | _ => False
theorem isEmpty_kv {κ : Type} {kvs : List (κ × V)} {vs : List (κ × Value)} (r : KV kvs vs) : (!vs.isEmpty) = !kvs.isEmpty := by
  cases r <;> rfl
theorem isEmpty_of {xs : List V} {its : List Value} (r : Vals xs its) : (!its.toArray.isEmpty) = !xs.isEmpty := by
  cases r <;> simp
theorem line63 : (sizeLine : Nat) < 2 ^ 63 := by rw [sizeLine_eq]; decide
theorem tru_ok : TruR X (fun x H Q => ∃ k, TruV X.K x H k ∧ Q k H) := by
  intro pins s σ H x v Q I rx h
  obtain ⟨k, e, q⟩ := h
  have hl := line63
  have hs : sizeLine = 16777216 := sizeLine_eq
  cases x with
  | non =>
    cases rx
    have e' : k = false := e
    subst e'
    exact truthy_none ⟨H, I, q⟩
  | bl b =>
    cases rx
    have e' : k = b := e
    subst e'
    exact wpAny_truthy_bool ⟨H, I, q⟩
  | int i =>
    obtain ⟨t, rfl⟩ := rx
    have e' : k = (i != 0) := e
    subst e'
    exact PySem.P.truthy_int ⟨H, I, q⟩
  | str y =>
    obtain ⟨t, rfl⟩ := rx
    obtain ⟨hy, e'⟩ : y.length ≤ sizeLine ∧ k = ((y.length : Int) != 0) := e
    subst e'
    exact PySem.P.truthy_str (by omega) ⟨H, I.tok _, q⟩
  | byt y =>
    obtain ⟨t, rfl⟩ := rx
    obtain ⟨hy, e'⟩ : y.size ≤ sizeLine ∧ k = ((y.size : Int) != 0) := e
    subst e'
    exact PySem.W.truthy_bytes (by omega) ⟨H, I.tok _, q⟩
  | ref p =>
    cases rx
    have e' : (∃ xs, SqL X.K H p xs ∧ k = !xs.isEmpty) ∨ (∃ xs, SqT X.K H p xs ∧ k = !xs.isEmpty) ∨ ∃ kvs, H p = some (.dK kvs) ∧ k = !kvs.isEmpty := e
    rcases e' with ⟨xs, hx, e'⟩ | ⟨xs, hx, e'⟩ | ⟨kvs, hx, e'⟩
    · subst e'
      obtain ⟨its, r, pl, hz⟩ := I.list hx
      have hlen := r.length
      exact wpAny_truthy_list pl.isList (by simp only [List.size_toArray]; omega) ⟨H, I.tok _, by rw [isEmpty_of r]; exact q⟩
    · subst e'
      obtain ⟨its, r, pl, hz⟩ := I.tuple hx
      have hlen := r.length
      exact truthy_tuple pl (by simp only [List.size_toArray]; omega) ⟨H, I.tok _, by rw [isEmpty_of r]; exact q⟩
    · subst e'
      obtain ⟨hz, hS, vs, r, m⟩ : kvs.length ≤ sizeLine ∧ (p == sysModules) = false ∧ ∃ vs, KV kvs vs ∧ s.heap.DictOf (mixKind X.prog X.w) p vs := I.hok p _ hx
      have hlen : kvs.length = vs.length := Paired.length r
      exact wpAny_truthy_dict hS m (by omega) ⟨H, I.tok _, by rw [isEmpty_kv r]; exact q⟩
  | _ => exact (show False from e).elim
/-! ### strs and bytes -/
theorem op_add_str : OpR X (binaryOp .Add) (fun x y H Q => ∃ i j, x = .str i ∧ y = .str j ∧ i.length + j.length ≤ sizeLine ∧ Q (.str (i ++ j)) H) := by
  intro pins s σ H x y v u Q I rx ry h
  obtain ⟨i, j, rfl, rfl, hz, q⟩ := h
  obtain ⟨t, rfl⟩ := rx
  obtain ⟨t', rfl⟩ := ry
  exact add_str (fun t' tk => ⟨.str (i ++ j), H, I.tok _, ⟨_, rfl⟩, q⟩) hz
/-! ### scalar builtins, by CallR -/
theorem vals1 {x : V} {us : List Value} (r : Vals [x] us) : ∃ u, us = [u] ∧ RelV x u := by
  cases r with
  | cons r1 r2 => cases r2; exact ⟨_, rfl, r1⟩
theorem vals2 {x y : V} {us : List Value} (r : Vals [x, y] us) : ∃ u w', us = [u, w'] ∧ RelV x u ∧ RelV y w' := by
  cases r with
  | cons r1 r2 =>
    cases r2 with
    | cons r3 r4 => cases r4; exact ⟨_, _, rfl, r1, r3⟩
theorem call_abs : CallR X (.builtin "abs") (fun xs H Q => ∃ i, xs = [.int i] ∧ Q (.int (if i < 0 then -i else i)) H) := by
  intro pins s σ H xs us Q I r h
  obtain ⟨i, rfl, q⟩ := h
  obtain ⟨u, rfl, t, rfl⟩ := vals1 r
  exact call_abs_int fun u tk => ⟨.int (if i < 0 then -i else i), H, I.tok _, ⟨_, rfl⟩, q⟩
theorem call_max2 (hc : X.calm = true) : CallR X (.builtin "max") (fun xs H Q => ∃ i j, xs = [.int i, .int j] ∧ Q (.int (if j > i then j else i)) H) := by
  intro pins s σ H xs us Q I r h
  obtain ⟨i, j, rfl, q⟩ := h
  obtain ⟨u, w', rfl, ⟨t, rfl⟩, ⟨t', rfl⟩⟩ := vals2 r
  refine max_two_ints (I.ok.hd hc) fun h' tk k => ⟨_, H, I.kept k, ?_, q⟩
  by_cases hj : j > i
  · rw [if_pos hj, if_pos hj]; exact ⟨_, rfl⟩
  · rw [if_neg hj, if_neg hj]; exact ⟨_, rfl⟩
theorem call_min2 (hc : X.calm = true) : CallR X (.builtin "min") (fun xs H Q => ∃ i j, xs = [.int i, .int j] ∧ Q (.int (if j < i then j else i)) H) := by
  intro pins s σ H xs us Q I r h
  obtain ⟨i, j, rfl, q⟩ := h
  obtain ⟨u, w', rfl, ⟨t, rfl⟩, ⟨t', rfl⟩⟩ := vals2 r
  refine min_two_ints (I.ok.hd hc) fun h' tk k => ⟨_, H, I.kept k, ?_, q⟩
  by_cases hj : j < i
  · rw [if_pos hj, if_pos hj]; exact ⟨_, rfl⟩
  · rw [if_neg hj, if_neg hj]; exact ⟨_, rfl⟩
theorem call_int1 : CallR X (.type "int") (fun xs H Q => (∃ i, xs = [.int i] ∧ Q (.int i) H) ∨ ∃ k, xs = [.bl k] ∧ Q (.int (if k then 1 else 0)) H) := by
  intro pins s σ H xs us Q I r h
  rcases h with ⟨i, rfl, q⟩ | ⟨k, rfl, q⟩
  · obtain ⟨u, rfl, t, rfl⟩ := vals1 r
    exact call_int_int ⟨.int i, H, I, ⟨_, rfl⟩, q⟩
  · obtain ⟨u, rfl, r1⟩ := vals1 r
    cases r1
    exact call_int_bool ⟨.int (if k then 1 else 0), H, I.tok _, ⟨_, rfl⟩, q⟩
end
end L2

namespace L2
open PySem PySem.Spec PyProof.Rows

/-! ### an instance, its attributes a map -/
structure ObjM (h : Heap) (x dx C : Addr) (mA : Str → Option Value) : Prop where
  obj : h.get? x = some (PySem.W.instObj C dx)
  ns : h.Ns1 dx mA
  ne : dx ≠ x

theorem lookIn_ns {h : Heap} {dx : Addr} {mA : Str → Option Value} (n : h.Ns1 dx mA) : ∃ od, h.get? dx = some od ∧ ∀ name, PySem.W.lookIn name od = some (mA name) := by
  obtain ⟨o, es, ep, ho, hd, hk, _, hm⟩ := n
  refine ⟨o, ho, fun name => ?_⟩
  have e := hm name
  unfold nsFind findBy at e
  rw [← Array.find?_toList] at e
  unfold PySem.W.lookIn
  rw [hd]
  dsimp only
  split
  · rename_i y q
    rw [q] at e
    exact congrArg some e
  · rename_i q
    rw [q] at e
    have a : es.toList.any (·.refKey) = false := by
      rw [List.any_eq_false]
      intro y hy
      obtain ⟨z, t, hkey⟩ := hk y (Array.mem_toList_iff.mp hy)
      simp [DictEntry.refKey, hkey]
    have a' : ¬ es.toList.any (·.refKey) = true := by rw [a]; exact Bool.false_ne_true
    rw [if_neg a']
    exact congrArg some e

theorem ObjM.look {h : Heap} {x dx C : Addr} {mA : Str → Option Value} (I : ObjM h x dx C mA) : ∃ od, PySem.W.InstAt h x (PySem.W.instObj C dx) C (some od) ∧ ∀ name, PySem.W.lookIn name od = some (mA name) :=
  let ⟨od, ho, hl⟩ := lookIn_ns I.ns
  ⟨od, ⟨I.obj, rfl, rfl, ho⟩, hl⟩

section
variable {prog : Program} {w : World} {A : Around} {E : Value → Shared → Prop} {s : Shared} {K : PySem.W.Frag} {x dx C f : Addr} {mA : Str → Option Value} {name : Str} {v : Value}

end

/-! ### the attributes as a list of pairs -/
section
variable {P : Program} {w : World} {H H' : Hp} {h h' : Heap} {a C dx : Addr} {fs fs' : List (Str × V)}
theorem ins_get (hok : HOk P w H h) (e : H a = some (.ins C dx fs)) : ∃ mA, ObjM h a dx C mA ∧ (∀ f, RelO (fs.lookup f) (mA f)) ∧ PySem.Within mA (fs.map (·.1)) ∧ fs.length ≤ 1000 ∧ H dx = some (.own a) := by
  obtain ⟨d, z, ne, ob, mA, n, r, q⟩ := (show ObjOk P w H h a (.ins C dx fs) from hok a _ e)
  exact ⟨mA, ⟨ob, n, ne⟩, r, q, z, d⟩
end

/-! ### what of the text a class must have -/
structure Cls (K : PySem.W.Frag) (C : Addr) : Prop where
  pg : PySem.W.plainGet K C Str.empty = true
  hd : PySem.W.hasDictIn K C = true
  po : PySem.W.plainOver K C = true
  sa : PySem.W.findIn K (.ref C) "__setattr__" = some (some (.builtin "object.__setattr__"))
theorem Cls.get {K : PySem.W.Frag} {C : Addr} (c : Cls K C) (f : Str) : PySem.W.plainGet K C f = true := c.pg
/-- a constant of the class -/
structure Con (K : PySem.W.Frag) (C : Addr) (f : Str) (v : V) (u : Value) : Prop where
  at_ : PySem.W.findIn K (.ref C) f = some (some u)
  rel : RelV v u
  get : PySem.W.specialIn K u "__get__" = some none
  cp : PySem.W.copiedNames.contains f = false
/-- a method: a plain def of the class or of one above it -/
structure Meth (K : PySem.W.Frag) (C : Addr) (m : Str) (f : Addr) : Prop where
  at_ : PySem.W.findIn K (.ref C) m = some (some (.ref f))
  fn : PySem.W.isFn K (.ref f) = true
  kp : PySem.W.keepIn K (.ref f) = true

section
variable {X : Cx} {pins : List (Addr × Obj)} {σ : St} {H : Hp} {s : Shared} {a C dx : Addr} {fs : List (Str × V)} {f : Str} {v : V} {A : Around} {E : Value → Shared → Prop}

end

/-! ### readings and rules -/
section
variable {X : Cx} {o e value : Expr} {f : Str} {pos pos' tpos : Pos} {ta tv : TE}
end

/-! ### isinstance -/
section
variable {X : Cx} {pins : List (Addr × Obj)} {σ : St} {H : Hp} {s : Shared} {A : Around} {E : Value → Shared → Prop} {Q : Value → Shared → Prop} {c : Value} {b : Bool}
/-- the type of a value, as the fragment's deciders take it; for an instance its class -/
inductive TyOf (K : PySem.W.Frag) (H : Hp) : V → Value → Prop where
  | non : TyOf K H .non (.type "NoneType")
  | bl (x : Bool) : TyOf K H (.bl x) (.type "bool")
  | int (i : Int) : TyOf K H (.int i) (.type "int")
  | str (x : Str) : TyOf K H (.str x) (.type "str")
  | flt (x : UInt64) : TyOf K H (.flt x) (.type "float")
  | lst {a : Addr} {xs : List V} (e : H a = some (.lst xs)) : TyOf K H (.ref a) (.type "list")
  | frz {a : Addr} {o : Obj} {xs : List V} (e : H a = some (.frz o (.lst xs))) : TyOf K H (.ref a) (.type "list")
  | tup {a : Addr} {xs : List V} (e : H a = some (.tup xs)) : TyOf K H (.ref a) (.type "tuple")
  | dK {a : Addr} {kvs : List (Key × V)} (e : H a = some (.dK kvs)) : TyOf K H (.ref a) (.type "dict")
  | dT {a : Addr} {kvs : List (List Key × V)} (e : H a = some (.dT kvs)) : TyOf K H (.ref a) (.type "dict")
  | ins {a C dx : Addr} {fs : List (Str × V)} (e : H a = some (.ins C dx fs)) (cl : Cls K C) (ha : PySem.W.findIn K (.ref C) "__class__" = some (some (.builtin "object.__class__")))
      (hn : PySem.W.specialIn K (.builtin "object.__class__") "__get__" = some (some (.builtin "getset_descriptor.__get__"))) (htk : PySem.W.takesIn K (.builtin "object.__class__") = some true)
      (hm : PySem.W.mroIn K C (.type "object") = some true) : TyOf K H (.ref a) (.ref C)
/-- isinstance(x, c) for one class c, a built-in or an own one: kitOne's answer -/
theorem isinst_ok {x : V} {u t : Value} (I : Inv X pins σ H s) (rx : RelV x u) (ty : TyOf X.K H x t) (e : PySem.W.kitOne X.K t c = some b) (h : ∀ tk, Q (.bool b) { s with toks := tk }) :
    wpAny (model X.prog X.w) A (call (.builtin "isinstance") [u, c]) Q E s := by
  cases ty with
  | non => cases (show u = Value.none from rx); exact PySem.W.kia_one PySem.W.kitx_none I.kIn True.intro e (fun z => nomatch z) h
  | bl y => cases (show u = Value.bool y from rx); exact PySem.W.kia_one PySem.W.kitx_bool I.kIn True.intro e (fun z => nomatch z) h
  | int i => obtain ⟨t, q⟩ := (show ∃ t, u = Value.int i t from rx); cases q; exact PySem.W.kia_one PySem.W.kitx_int I.kIn True.intro e (fun z => nomatch z) h
  | str y => obtain ⟨t, q⟩ := (show ∃ t, u = Value.str y t from rx); cases q; exact PySem.W.kia_one PySem.W.kitx_str I.kIn True.intro e (fun z => nomatch z) h
  | flt y => obtain ⟨t, q⟩ := (show ∃ t, u = Value.float y t from rx); cases q; exact PySem.W.kia_one PySem.W.kitx_float I.kIn True.intro e (fun z => nomatch z) h
  | @lst a xs ea =>
    cases (show u = Value.ref a from rx)
    obtain ⟨_, _, n, _, h1⟩ := (show ObjOk X.prog X.w H s.heap a (.lst xs) from I.hok a _ ea)
    exact PySem.W.kia_one PySem.W.kitx_list I.kIn ⟨_, h1, rfl⟩ e (fun z => nomatch z) h
  | @frz a ob xs ea =>
    cases (show u = Value.ref a from rx)
    obtain ⟨_, _, _, n, _, h1⟩ := (show ObjOk X.prog X.w H s.heap a (.frz ob (.lst xs)) from I.hok a _ ea)
    exact PySem.W.kia_one PySem.W.kitx_list I.kIn ⟨_, h1, rfl⟩ e (fun z => nomatch z) h
  | @tup a xs ea =>
    cases (show u = Value.ref a from rx)
    obtain ⟨_, _, _, p⟩ := (show ObjOk X.prog X.w H s.heap a (.tup xs) from I.hok a _ ea)
    obtain ⟨o, h1, h2, _⟩ := p
    exact PySem.W.kia_one PySem.W.kitx_tuple I.kIn ⟨o, h1, h2⟩ e (fun z => nomatch z) h
  | @dK a kvs ea =>
    cases (show u = Value.ref a from rx)
    obtain ⟨_, _, vs, _, p⟩ := (show ObjOk X.prog X.w H s.heap a (.dK kvs) from I.hok a _ ea)
    obtain ⟨o, es, ep, h1, h2, _⟩ := p
    exact PySem.W.kia_one PySem.W.kitx_dict I.kIn ⟨o, h1, h2.1⟩ e (fun z => nomatch z) h
  | @dT a kvs ea =>
    cases (show u = Value.ref a from rx)
    obtain ⟨_, _, xs, _, o, es, ep, h1, h2, _⟩ := (show ObjOk X.prog X.w H s.heap a (.dT kvs) from I.hok a _ ea)
    exact PySem.W.kia_one PySem.W.kitx_dict I.kIn ⟨o, h1, h2.1⟩ e (fun z => nomatch z) h
  | @ins a C dx fs ea cl ha hn htk hm =>
    cases (show u = Value.ref a from rx)
    obtain ⟨mA, O, _⟩ := ins_get I.hok ea
    obtain ⟨od, J, _⟩ := O.look
    exact PySem.W.kia_one (PySem.W.kitx_own (cl.get _) cl.hd ha hn htk hm) I.kIn J e (fun z => nomatch z) h
end
end L2

namespace L2
open PySem PySem.Spec PyProof.Rows

/-! ### room -/
structure Room (k : Nat) (A : Around) : Prop where
  hd : A.handled = none
  dp : A.depth + 3 * k + 5 < recursionLimit
  un : A.units + 16 * k + 200 < cLine
  gd : A.guards = some []
theorem Room.mono {j k : Nat} {A : Around} (r : Room k A) (h : j ≤ k) : Room j A := ⟨r.hd, by have := r.dp; omega, by have := r.un; omega, r.gd⟩
theorem Room.deeper {k : Nat} {A : Around} (r : Room (k + 1) A) (env : Env) : Room k (A.deeper env) :=
  ⟨r.hd, by have := r.dp; show A.depth + 1 + 3 * k + 5 < _; omega, by have := r.un; show A.units + 3 + 16 * k + 200 < _; omega, r.gd⟩
theorem Room.depth {k : Nat} {A : Around} (r : Room k A) : A.depth < recursionLimit := by have := r.dp; omega
theorem Room.units {k : Nat} {A : Around} (r : Room k A) : A.units + 64 < cLine := by have := r.un; omega
theorem Room.units0 {k : Nat} {A : Around} (r : Room k A) : A.units < cLine := by have := r.un; omega

/-! ### argument lists and displays -/
def tNil : TA := fun _ H Q => Q [] H
def tCons (ta : TE) (tr : TA) : TA := fun σ H Q => ta σ H fun x H1 => tr σ H1 fun xs H2 => Q (x :: xs) H2
section
variable {X : Cx} {e : Expr} {es : List Expr} {te : TE} {t : TA} {pos : Pos}
theorem pa_nil : PA X [] tNil := fun _ _ _ _ H Q I h => Calls.spliced_nil ⟨[], H, I, .nil, h⟩
theorem pa_cons (ha : PE X e te) (hr : PA X es t) (hs : starEach (e :: es) X.env = (false, eval e X.env) :: starEach es X.env := by rfl) : PA X (e :: es) (tCons te t) := by
  intro pos pins s σ H Q I h
  rw [hs]
  show wpAny _ _ (spliced ((false, eval e X.env) :: backTo pos (starEach es X.env))) _ _ s
  refine Calls.spliced_cons (thn (ha pins s σ H _ I h) fun u s1 ⟨x, H1, I1, r1, q1⟩ => ?_)
  exact thn (hr pos pins s1 σ H1 _ I1 q1) fun us s2 ⟨xs, H2, I2, r2, q2⟩ => ⟨x :: xs, H2, I2, .cons r1 r2, q2⟩

/-- a tuple, a list of written items -/
def tTup (t : TA) : TE := fun σ H Q => t σ H fun xs H1 => xs.length ≤ sizeLine ∧ ∀ p, H1 p = none → Q (.ref p) (upd H1 p (.tup xs))
def tLst (t : TA) : TE := fun σ H Q => t σ H fun xs H1 => xs.length ≤ sizeLine ∧ ∀ p, H1 p = none → Q (.ref p) (upd H1 p (.lst xs))
theorem pe_tup {x1} (h : PA X es t) : PE X (.Tuple es x1 pos) (tTup t) := by
  intro pins s σ H Q I hq
  refine wpAny_Tuple_spliced (thn (h pos pins s σ H _ I hq) fun us s1 ⟨xs, H1, I1, r, z, q⟩ => ⟨by rw [← r.length]; exact z, ?_⟩)
  have hf : H1 s1.heap.objs.size = none := I1.hok.fresh (Nat.le_refl _)
  refine ⟨.ref s1.heap.objs.size, upd H1 s1.heap.objs.size (.tup xs), I1.laid (t' := s1.toks) (fun b u e => Heap.get?_push_of_some _ e) (Nat.le_refl _) ?_, rfl, q _ hf⟩
  exact ⟨z, us, r, ⟨_, Heap.get?_push_size _ rfl, rfl, _, rfl⟩⟩
theorem pe_lst (h : PA X es t) : PE X (.List es pos) (tLst t) := by
  intro pins s σ H Q I hq
  refine wpAny_List_spliced (thn (h pos pins s σ H _ I hq) fun us s1 ⟨xs, H1, I1, r, z, q⟩ => ⟨by rw [← r.length]; exact z, ?_⟩)
  have hf : H1 s1.heap.objs.size = none := I1.hok.fresh (Nat.le_refl _)
  refine ⟨.ref s1.heap.objs.size, upd H1 s1.heap.objs.size (.lst xs), I1.laid (t' := s1.toks) (fun b u e => Heap.get?_push_of_some _ e) (Nat.le_refl _) ?_, rfl, q _ hf⟩
  exact ⟨z, us, 0, r, Heap.get?_push_size _ rfl⟩
end

/-! ### what a def promises -/
/-- a def's promise: the bound arguments in the parameters' order, the heap, the wanted end, the wanted exception -/
abbrev Sp := List V → Hp → VK → XK → Prop
/-- how an exception lies behind a call (file 08 gives it): the callers' frames, abstract heap and state ahead of the call, the wish, the exception, the state -/
abbrev CXT := List Env → Hp → Shared → XK → Value → Shared → Prop

/-- the state at a call -/
structure Env0 (P : Program) (w : World) (K : PySem.W.Frag) (mg : Str → Option Value) (base : Heap) (A : Around) (outer : List Env) (s : Shared) (H : Hp) : Prop where
  frames : A.frames = some outer
  mod : Mod K mg base
  bs : ∀ b o, base.get? b = some o → s.heap.get? b = some o ∧ H b = none
  bsz : base.objs.size ≤ s.heap.objs.size
  funs : s.heap.FunFrames base outer
  frf : ∀ b ∈ frs outer, H b = none
  hok : HOk P w H s.heap
  bare : AllBare s.gens
/-- a call's end -/
def CE (outer : List Env) (P : Program) (w : World) (H : Hp) (s : Shared) (Q : VK) (u : Value) (s' : Shared) : Prop :=
  ∃ v H', s'.os = s.os ∧ AllBare s'.gens ∧ Un (frs outer) [] H H' s.heap s'.heap ∧ HOk P w H' s'.heap ∧ RelV v u ∧ Q v H'
def CR (CX : CXT) (outer : List Env) (P : Program) (w : World) (H : Hp) (s : Shared) (Q : VK) (E : XK) (r : Result) (s' : Shared) : Prop :=
  match r with
  | .ok (.ret u) => CE outer P w H s Q u s'
  | .ok _ => False
  | .error e => CX outer H s E e s'
structure FnOk (P : Program) (w : World) (K : PySem.W.Frag) (mg : Str → Option Value) (base : Heap) (CX : CXT) (k : Nat) (f : Addr) (fd : FuncData) (ps : List Str) (sp : Sp) : Prop where
  len : ∀ vs H Q E, sp vs H Q E → vs.length = ps.length
  run : ∀ (A : Around) (outer : List Env) (s : Shared) (H : Hp) (args : Args) (us : List Value) (vs : List V) (Q : VK) (E : XK), Room k A → Env0 P w K mg base A outer s H → BindsTo s fd args (ps.zip us) → Vals vs us → sp vs H Q E →
    codeAny (model P w) A (.call (.ref f) args) (CR CX outer P w H s Q E) s
section
variable {X : Cx} {pins : List (Addr × Obj)} {σ : St} {H : Hp} {s s' : Shared}
/-- from a body: what a callee wants -/
theorem Inv.env0 (I : Inv X pins σ H s) : Env0 X.prog X.w X.K X.mg X.base X.A X.stack s H :=
  ⟨I.ok.frames, I.ok.mod, I.bs, Nat.le_trans I.ok.bsz I.sz, I.stack, I.stkFree, I.hok, I.bare⟩
/-- behind a call -/
theorem Inv.after {Q : VK} {u : Value} (I : Inv X pins σ H s) (h : CE X.stack X.prog X.w H s Q u s') : EP X pins σ Q u s' := by
  obtain ⟨v, H', os, bare, un, hok, r, q⟩ := h
  obtain ⟨hh, g, d, t, os'⟩ := s'
  obtain rfl : os' = s.os := os
  exact ⟨v, H', I.call (h' := hh) (g' := g) (d' := d) (t' := t) (ch := []) un hok bare (fun b z => absurd z (by simp)), r, q⟩
end

/-! ### calls -/
/-- f(..): the written arguments, then the defaults dvs; E: what is wanted of an exception -/
def tCall (sp : Sp) (dvs : List V) (E : XK) (t : TA) : TE := fun σ H Q => t σ H fun vs H1 => sp (vs ++ dvs) H1 Q E
/-- how the parameters are bound: us the positional arguments, kw the keywords' values by name, ds the defaults that fill up -/
def Binds (K : PySem.W.Frag) (fd : FuncData) (ps : List Str) (ds : List Value) : Prop :=
  ∀ (s : Shared) (us : List Value), K.In s.heap → (us ++ ds).length = ps.length → BindsTo s fd ⟨us, []⟩ (ps.zip (us ++ ds))
/-- every parameter is given -/
theorem Binds.all {K : PySem.W.Frag} {fd : FuncData} {ps : List Str} (h : ∀ us : List Value, us.length = ps.length → bindArgs fd ⟨us, []⟩ = pure (ps.zip us)) : Binds K fd ps [] := fun s us _ hl => by
  rw [List.append_nil] at hl ⊢
  exact .of_eq (h us hl)

/-- an exception of a callee reaches what this body wants of exceptions -/
def Passes (CX : CXT) (X : Cx) (E : XK) : Prop := ∀ (pins : List (Addr × Obj)) (σ : St) (H : Hp) (s : Shared) (e : Value) (s' : Shared), Inv X pins σ H s → CX X.stack H s E e s' → X.xe e s'

section
variable {X : Cx} {CX : CXT} {k : Nat} {f C : Addr} {fd : FuncData} {ps : List Str} {sp : Sp} {dvs : List V} {ds : List Value} {E : XK} {x m : Str} {p pos apos : Pos} {e o : Expr} {es : List Expr} {ta : TE} {t : TA}

/-- the callee runs -/
theorem run_fn {pins : List (Addr × Obj)} {σ : St} {H : Hp} {s : Shared} {Q : VK} {us : List Value} {vs : List V} (F : FnOk X.prog X.w X.K X.mg X.base CX k f fd ps sp) (hr : Room k X.A) (hb : Binds X.K fd ps ds) (hd : Vals dvs ds) (hx : Passes CX X E)
    (I : Inv X pins σ H s) (r : Vals vs us) (h : sp (vs ++ dvs) H Q E) : wpAny (model X.prog X.w) X.A (call (.ref f) us) (EP X pins σ Q) X.xe s := by
  have r2 : Vals (vs ++ dvs) (us ++ ds) := r.append hd
  have hl : (us ++ ds).length = ps.length := by rw [← r2.length]; exact F.len _ _ _ _ h
  refine wpAny_call (codeAny_mono (F.run X.A X.stack s H ⟨us, []⟩ (us ++ ds) (vs ++ dvs) Q E hr I.env0 (hb s us I.kIn hl) r2 h) fun r s' hq => ?_)
  cases r with
  | error e => exact hx pins σ H s e s' I hq
  | ok fl =>
    cases fl with
    | ret u => exact I.after hq
    | next => exact False.elim hq
    | brk => exact False.elim hq
    | cont => exact False.elim hq

theorem pe_call (F : FnOk X.prog X.w X.K X.mg X.base CX k f fd ps sp) (hr : Room k X.A) (hg : Gl X x) (hm : X.mg x = some (.ref f)) (hk : PySem.W.keepIn X.K (.ref f) = true) (hb : Binds X.K fd ps ds) (hd : Vals dvs ds) (hx : Passes CX X E)
    (ha : PA X (e :: es) t) (hdb : (x == ("__debug__" : Str)) = false := by decide) (he : starEach (e :: es) X.env = (false, eval e X.env) :: starEach es X.env := by rfl) (hpl : (backTo pos (starEach es X.env)).any (·.1) = false := by rfl) :
    PE X (.Call (.Name x p) (e :: es) [] pos) (tCall sp dvs E t) := by
  intro pins s σ H Q I h
  refine wpAny_Call_Name_kw (ld_glob I hg hm ?_ hdb)
  refine PySem.W.callWith_K (h₀ := X.base) I.ok.mod.kin hk (thn (ha pos pins s σ H _ I h) fun us s1 ⟨vs, H1, I1, r, q⟩ => ⟨I1.kIn, ?_⟩) he hpl
  exact run_fn F hr hb hd hx I1 r q
/-- what a class must have to be made -/
structure Mk (K : PySem.W.Frag) (C f : Addr) : Prop where
  makes : PySem.W.makesIn K C = true
  init : PySem.W.findIn K (.ref C) "__init__" = some (some (.ref f))
  fn : PySem.W.isFn K (.ref f) = true
  kp : PySem.W.keepIn K (.ref C) = true

end

/-! ### keywords -/
section
variable {X : Cx} {CX : CXT} {k : Nat} {f C : Addr} {fd : FuncData} {ps ks : List Str} {sp : Sp} {E : XK} {x m : Str} {p pos apos kpos : Pos} {e o : Expr} {es : List Expr} {kws : List Keyword} {te ta : TE} {t tk : TA} {nm : Option Str}
/-- how a call with keywords binds: g puts the positional values us and the keywords' values ws (names ks) in the parameters' order, defaults among them -/
structure KBinds (K : PySem.W.Frag) (fd : FuncData) (ps ks : List Str) (g : List Value → List Value → List Value) (gV : List V → List V → List V) : Prop where
  to : ∀ (s : Shared) (us ws : List Value), K.In s.heap → (g us ws).length = ps.length → BindsTo s fd ⟨us, ks.zip ws⟩ (ps.zip (g us ws))
  rel : ∀ {vs : List V} {us : List Value} {zs : List V} {ws : List Value}, Vals vs us → Vals zs ws → Vals (gV vs zs) (g us ws)
variable {g : List Value → List Value → List Value} {gV : List V → List V → List V}
end

/-! ### a def's body keeps its promise -/
/-- names: the parameters first -/
structure FnScope (N P : List Str) (sc : Scope) : Prop where
  kind : sc.kind = .function
  co : sc.isCoroutine = false
  gen : sc.isGenerator = false
  nd : N.Nodup
  pre : N.take P.length = P
  par : ∀ x ∈ P, sc.names.lookup x = some .local ∨ sc.names.lookup x = some .cell
  nofree : ∀ y ∈ sc.names, y.2 ≠ .free

theorem bindL_out {kindOf : Str → Option NameKind} {x : Str} : ∀ {binds : List (Str × Value)} {m : Str → Option Value}, (∀ v, (x, v) ∉ binds) → bindL kindOf binds m x = m x
  | [], _, _ => rfl
  | (n, v) :: r, m, h => by
    unfold bindL
    rw [bindL_out fun w hw => h w (List.mem_cons_of_mem _ hw)]
    split
    · have : x ≠ n := by rintro rfl; exact h v List.mem_cons_self
      simp [this]
    · rfl
theorem bindC_out {kindOf : Str → Option NameKind} {x : Str} : ∀ {binds : List (Str × Value)} {m : Str → Option Value}, (∀ v, (x, v) ∉ binds) → bindC kindOf binds m x = m x
  | [], _, _ => rfl
  | (n, v) :: r, m, h => by
    unfold bindC
    rw [bindC_out fun w hw => h w (List.mem_cons_of_mem _ hw)]
    split
    · rfl
    · have : x ≠ n := by rintro rfl; exact h v List.mem_cons_self
      simp [this]
theorem bindL_get {kindOf : Str → Option NameKind} {x : Str} {v : Value} : ∀ {P : List Str} {vs : List Value} {i : Nat} {m : Str → Option Value}, P.Nodup → P[i]? = some x → vs[i]? = some v → kindOf x = some .local →
    bindL kindOf (P.zip vs) m x = some v
  | [], _, _, _, _, h, _, _ => by simp at h
  | _ :: _, [], _, _, _, _, h, _ => by simp at h
  | p :: P, w :: vs, 0, m, nd, h1, h2, hk => by
    simp at h1 h2; subst h1; subst h2
    show bindL kindOf ((p, w) :: P.zip vs) m p = _
    unfold bindL
    rw [bindL_out fun v hv => (List.nodup_cons.mp nd).1 (List.of_mem_zip hv).1, if_pos hk]
    simp
  | p :: P, w :: vs, i + 1, m, nd, h1, h2, hk => by
    show bindL kindOf ((p, w) :: P.zip vs) m x = _
    unfold bindL
    exact bindL_get (i := i) (List.nodup_cons.mp nd).2 (by simpa using h1) (by simpa using h2) hk
theorem bindC_get {kindOf : Str → Option NameKind} {x : Str} {v : Value} : ∀ {P : List Str} {vs : List Value} {i : Nat} {m : Str → Option Value}, P.Nodup → P[i]? = some x → vs[i]? = some v → kindOf x ≠ some .local →
    bindC kindOf (P.zip vs) m x = some v
  | [], _, _, _, _, h, _, _ => by simp at h
  | _ :: _, [], _, _, _, _, h, _ => by simp at h
  | p :: P, w :: vs, 0, m, nd, h1, h2, hk => by
    simp at h1 h2; subst h1; subst h2
    show bindC kindOf ((p, w) :: P.zip vs) m p = _
    unfold bindC
    rw [bindC_out fun v hv => (List.nodup_cons.mp nd).1 (List.of_mem_zip hv).1, if_neg hk]
    simp
  | p :: P, w :: vs, i + 1, m, nd, h1, h2, hk => by
    show bindC kindOf ((p, w) :: P.zip vs) m x = _
    unfold bindC
    exact bindC_get (i := i) (List.nodup_cons.mp nd).2 (by simpa using h1) (by simpa using h2) hk

/-- the names' values at the entry -/
def start (N : List Str) (vs : List V) : St := vs.map some ++ List.replicate (N.length - vs.length) none

/-- the context of a def's body, at its entry; an exception leaves the frame, then lies as CX says -/
def cxOf (CX : CXT) (P : Program) (w : World) (K : PySem.W.Frag) (mg : Str → Option Value) (base : Heap) (N : List Str) (qual : Str) (scope : Scope) (f : Addr) (cd : Value) (A : Around) (outer : List Env) (s : Shared) (H : Hp) (E : XK) : Cx where
  prog := P
  w := w
  K := K
  mg := mg
  base := base
  A := A.deeper (envOfC qual scope s.heap.objs.size f cd)
  N := N
  s₀ := s
  H₀ := H
  env := envOfC qual scope s.heap.objs.size f cd
  outer := outer
  stack := envOfC qual scope s.heap.objs.size f cd :: outer
  ex := []
  calm := true
  fn := fun _ => true
  pn := []
  xe := fun e s' => wpAny (model P w) (A.deeper (envOfC qual scope s.heap.objs.size f cd)) (leaving (envOfC qual scope s.heap.objs.size f cd) e) (fun _ s'' => CX outer H s E e s'') (fun e' s'' => CX outer H s E e' s'') s'

theorem cell_has {sc : Scope} {n : Nat} {x : Str} (h : sc.names.lookup x = some .cell) : ∃ c, (cellsFrom n sc.names []).lookup x = some c := by
  have q := PySem.W.cellsFrom_some sc.names n [] (.inl h)
  exact Option.isSome_iff_exists.mp q

theorem inv_start {CX : CXT} {P : Program} {w : World} {K : PySem.W.Frag} {mg : Str → Option Value} {base : Heap} {N ps : List Str} {qual : Str} {scope : Scope} {f : Addr} {cd : Value} {A : Around} {outer : List Env} {s s1 : Shared} {H : Hp} {E : XK} {us : List Value} {vs : List V}
    (S : FnScope N ps scope) (hd : A.handled = none) (e0 : Env0 P w K mg base A outer s H) (hl : vs.length = ps.length) (r : Vals vs us)
    (x : InCallC s s.heap.objs.size (bindL (envOfC qual scope s.heap.objs.size f cd).kindOf (ps.zip us) fun _ => none) (cellsFrom (s.heap.objs.size + 1) scope.names []) (bindC (envOfC qual scope s.heap.objs.size f cd).kindOf (ps.zip us) fun _ => none) s1) :
    Inv (cxOf CX P w K mg base N qual scope f cd A outer s H E) [] (start N vs) H s1 := by
  have hpl : ps.length ≤ N.length := by have := congrArg List.length S.pre; rw [List.length_take] at this; omega
  obtain ⟨h1, tk, rfl, hk⟩ := x.done
  have noA : ∀ b : Addr, b ∉ (cxOf CX P w K mg base N qual scope f cd A outer s H E).ex := fun b z => absurd (show b ∈ ([] : List Addr) from z) (by simp)
  refine ⟨⟨e0.mod, S.kind, rfl, rfl, Nat.le_refl _, fun y z c h1 h2 => ?_, fun y hy => ?_, fun y c _ h => ?_, fun _ => hd, Around.frames_deeper e0.frames, .inr ⟨rfl, rfl⟩, fun b z => absurd z (noA b), e0.bs, e0.bsz, fun b _ _ => noA b, fun b z => absurd z (noA b), e0.funs, e0.frf⟩,
    rfl, e0.bare, Un.kept hk, ⟨_, x.toInCall.ns, fun i y v h1 h2 h3 => ?_⟩, fun y c h => ⟨_, x.cell y c h⟩, e0.hok.fresh (Nat.le_refl _), fun y c h => ?_, fun p hp => absurd (show p ∈ ([] : List (Addr × Obj)) from hp) (by simp), e0.hok.kept hk, ?_⟩
  · exact name_of_addr x.apart (PySem.mem_of_lookup h1) (PySem.mem_of_lookup h2)
  · have hy : scope.names.lookup y = some .cell ∨ scope.names.lookup y = some .free := hy
    rcases hy with hy | hy
    · exact cell_has hy
    · exact absurd rfl (S.nofree _ (PySem.mem_of_lookup hy))
  · exact Nat.le_of_lt (x.above y c (PySem.mem_of_lookup h))
  · have hi : i < vs.length := by
      unfold start at h2
      by_cases hi : i < vs.length
      · exact hi
      · rw [List.getElem?_append_right (by simpa using hi)] at h2
        rw [List.getElem?_replicate] at h2
        split at h2 <;> cases h2
    have ha : vs[i]? = some v := by
      unfold start at h2
      rw [List.getElem?_append_left (by simpa using hi), List.getElem?_map] at h2
      cases e : vs[i]? with
      | none => rw [e] at h2; cases h2
      | some a => rw [e] at h2; cases h2; rfl
    obtain ⟨u, hu, rv⟩ := r.get ha
    have hp : ps[i]? = some y := by
      rw [← S.pre, List.getElem?_take_of_lt (by omega)]; exact h1
    have ndP : ps.Nodup := by rw [← S.pre]; exact S.nd.sublist (List.take_sublist _ _)
    refine ⟨u, rv, ?_⟩
    rcases S.par y (List.mem_of_getElem? hp) with k | k
    · exact .inl ⟨k, bindL_get ndP hp hu k⟩
    · obtain ⟨c, e⟩ := cell_has (n := s.heap.objs.size + 1) k
      refine .inr ⟨.inl k, c, e, ?_⟩
      have q := x.cell y c e
      rw [bindC_get ndP hp hu (by show scope.names.lookup y ≠ _; rw [k]; decide)] at q
      exact q
  · exact e0.hok.fresh (Nat.le_of_lt (x.above y c (PySem.mem_of_lookup h)))
  · unfold start
    show _ = N.length
    rw [List.length_append, List.length_map, List.length_replicate]
    omega

/-- THE RULE: a def (or a method) of the text, by its body. The body's reading t is chosen for each entry; it is run at the parameters' values -/
theorem fn_of {CX : CXT} {P : Program} {w : World} {K : PySem.W.Frag} {mg : Str → Option Value} {base : Heap} {k : Nat} {f : Addr} {name qual : Str} {params : Arguments} {body : List Stmt} {scope : Scope} {dV kV doc pm cdv ct oc : Value} {an od : Option Addr}
    {osl : Array (Option Value)} {N ps : List Str} {sp : Sp} (lk : K.lookup f = some ⟨oc, od, .func (PySem.W.fnOf name qual params body scope dV kV doc pm an cdv ct), osl⟩) (hcd : PySem.W.codeIn K cdv qual = true) (S : FnScope N ps scope)
    (len : ∀ vs H Q E, sp vs H Q E → vs.length = ps.length)
    (hbody : ∀ (A : Around) (outer : List Env) (s : Shared) (H : Hp) (vs : List V) (Q : VK) (E : XK), Room k (A.deeper (envOfC qual scope s.heap.objs.size f cdv)) → sp vs H Q E →
      ∃ t, PSs (cxOf CX P w K mg base N qual scope f cdv A outer s H E) body t ∧ t { nx := fun _ H' => Q .non H', rt := Q } (start N vs) H) :
    FnOk P w K mg base CX (k + 1) f (PySem.W.fnOf name qual params body scope dV kV doc pm an cdv ct) ps sp := by
  refine ⟨len, fun A outer s H args us vs Q E hr e0 hb r hsp => ?_⟩
  have hl := len _ _ _ _ hsp
  have KX : K.In s.heap := e0.mod.kin.keeps fun b o e => (e0.bs b o e).1
  have lim : s.heap.NoLimit := e0.mod.nolimit.keeps fun b o e => (e0.bs b o e).1
  have hkind : ∀ y ∈ ps.zip us, scope.names.lookup y.1 = some .local ∨ (scope.names.lookup y.1 = some .cell ∧ ((cellsFrom (s.heap.objs.size + 1) scope.names []).lookup y.1).isSome = true) := fun ⟨n, v⟩ hy => by
    rcases S.par n (List.of_mem_zip hy).1 with q | q
    · exact .inl q
    · exact .inr ⟨q, PySem.W.cellsFrom_some _ _ _ (.inl q)⟩
  refine codeAny_call_function hr.depth (KX _ _ lk) rfl S.co S.gen rfl (PySem.W.codeRec_of KX hcd) (hb _ _ _ _ ?_)
  refine wpAny_newFunctionEnv_cells S.kind hkind fun env he s1 x => ?_
  subst he
  refine ⟨lim.keeps x.toInCall.keep, codeAny_func ?_⟩
  obtain ⟨t, ht, hq⟩ := hbody A outer s H vs Q E (hr.deeper _) hsp
  have I : Inv (cxOf CX P w K mg base N qual scope f cdv A outer s H E) [] (start N vs) H s1 := inv_start S hr.hd e0 hl r x
  refine wpAny_mono (ht [] s1 (start N vs) H _ I hq) (fun fl s' hs => ?_) fun e s' hs => hs
  have fin : ∀ {σ' : St} {H' : Hp} {v : V} {u : Value}, Inv (cxOf CX P w K mg base N qual scope f cdv A outer s H E) [] σ' H' s' → RelV v u → Q v H' → CE outer P w H s Q u s' :=
    fun {σ' H' v u} J rv q => ⟨v, H', J.os, J.bare, J.base, J.hok, rv, q⟩
  cases fl with
  | ret u =>
    obtain ⟨v, σ', H', J, rv, q⟩ := hs
    exact fin J rv q
  | next =>
    obtain ⟨σ', H', J, q⟩ := hs
    exact fin (v := V.non) (u := Value.none) J rfl q
  | brk =>
    obtain ⟨_, _, _, q⟩ := hs
    exact False.elim q
  | cont =>
    obtain ⟨_, _, _, q⟩ := hs
    exact False.elim q
end L2

namespace L2
open PySem PySem.Spec PyProof.Rows
section
variable {X : Cx} {x : Str} {p pos : Pos} {e : Expr} {es : List Expr} {t : TA} {id T : String} {r : List V → Hp → VK → Prop}

def tCB (r : List V → Hp → VK → Prop) (t : TA) : TE := fun σ H Q => t σ H fun vs H1 => r vs H1 Q
/-- f(e, ..), f a built-in function -/
theorem pe_callB (hc : CallR X (.builtin id) r) (hg : Gl X x) (hm : X.mg x = none) (hv : bootBuiltins x = some (.builtin id)) (ha : PA X (e :: es) t) (hn : x ≠ "__name__" := by decide) (hdb : (x == ("__debug__" : Str)) = false := by decide)
    (he : starEach (e :: es) X.env = (false, eval e X.env) :: starEach es X.env := by rfl) (hpl : (backTo pos (starEach es X.env)).any (·.1) = false := by rfl) : PE X (.Call (.Name x p) (e :: es) [] pos) (tCB r t) := by
  intro pins s σ H Q I h
  refine wpAny_Call_Name_kw (ld_blt I hg hm hv ?_ hn hdb)
  exact PyProof.Rows.callWith_builtin1 (thn (ha pos pins s σ H _ I h) fun us s1 ⟨vs, H1, I1, r1, q1⟩ => hc pins s1 σ H1 vs us Q I1 r1 q1) he hpl
/-- T(e, ..), T a built-in type -/
theorem pe_callTy (hc : CallR X (.type T) r) (hg : Gl X x) (hm : X.mg x = none) (hv : bootBuiltins x = some (.type T)) (ha : PA X (e :: es) t) (hn : x ≠ "__name__" := by decide) (hdb : (x == ("__debug__" : Str)) = false := by decide)
    (he : starEach (e :: es) X.env = (false, eval e X.env) :: starEach es X.env := by rfl) (hpl : (backTo pos (starEach es X.env)).any (·.1) = false := by rfl) : PE X (.Call (.Name x p) (e :: es) [] pos) (tCB r t) := by
  intro pins s σ H Q I h
  refine wpAny_Call_Name_kw (ld_blt I hg hm hv ?_ hn hdb)
  exact PyProof.Rows.callWith_type1 (thn (ha pos pins s σ H _ I h) fun us s1 ⟨vs, H1, I1, r1, q1⟩ => hc pins s1 σ H1 vs us Q I1 r1 q1) he hpl
end
end L2

namespace HT
open PySem PyProof.Rows

section
open PySem.SeqAt
open PySem.AutoSeq1 (wpAny_loadPart')
open PySem.MeetsSeq PySem.MeetsSeq2 PySem.MeetsSeq3

end

section
variable {prog : Program} {w : World} {A : Around} {E : Value → Shared → Prop} {s : Shared}

/-- t + u, t not empty -/
theorem cat_tup {t b : Addr} {vs ws : List Value} {Q : Value → Shared → Prop} (ht : IsTup s.heap t vs.toArray) (hb : IsTup s.heap b ws.toArray) (hv : vs ≠ [])
    (h1 : ws = [] → Q (.ref t) s) (h2 : ws ≠ [] → Q (.ref s.heap.objs.size) { s with heap := s.heap.push { cls := .type "tuple", data := .seq (vs ++ ws).toArray } })
    (hsz : vs.length + ws.length ≤ sizeLine) : wpAny (model prog w) A (binaryOp .Add (.ref t) (.ref b)) Q E s := by
  obtain ⟨⟨cls, dd, data, sl⟩, ho, hc, n, hd⟩ := id ht
  obtain ⟨⟨cls2, dd2, data2, sl2⟩, ho2, hc2, n2, hd2⟩ := id hb
  simp only at hc hd hc2 hd2
  subst hc hd hc2 hd2
  have e : vs.toArray ++ ws.toArray = (vs ++ ws).toArray := by simp
  by_cases hw : ws = []
  · exact concat_meets ⟨_, ho, rfl⟩ ⟨_, ho2, rfl⟩ noFill_tuple_add seq_tuple_add PySem.F.slot_tuple_add PySem.F.entry_tuple_add (PySem.F.args_tuple_add_2 _ _)
      (tuple_addW1 t b vs.toArray ws.toArray n n2 dd dd2 sl sl2 (by simpa using hv) (by simp [hw])) ⟨ho, ho2, h1 hw⟩
  · refine concat_meets ⟨_, ho, rfl⟩ ⟨_, ho2, rfl⟩ noFill_tuple_add seq_tuple_add PySem.F.slot_tuple_add PySem.F.entry_tuple_add (PySem.F.args_tuple_add_2 _ _)
      (tuple_addW2 t b vs.toArray ws.toArray n n2 dd dd2 sl sl2 (by simpa using hv) (by simpa using hw) (by rw [List.size_toArray, List.size_toArray]; exact hsz)) ⟨ho, ho2, ?_⟩
    rw [e]
    exact h2 hw

/-! ### t[a:b], not the whole -/
/-- a slice's bound as a place among n (d where it is left out) -/
def sIx (n d : Nat) : Option Int → Nat
  | none => d
  | some v => if v < 0 then (v + (n : Int)).toNat else min v.toNat n
theorem sIx_none (n d : Nat) : sIx n d none = d := rfl
theorem sIx_nat (n d k : Nat) : sIx n d (some (k : Int)) = min k n := by
  show (if (k : Int) < 0 then ((k : Int) + (n : Int)).toNat else min (k : Int).toNat n) = min k n
  rw [if_neg (by omega), Int.toNat_natCast]
theorem sIx_le (n d : Nat) (hd : d ≤ n) (o : Option Int) : sIx n d o ≤ n := by
  cases o with
  | none => exact hd
  | some v =>
    show (if v < 0 then (v + (n : Int)).toNat else min v.toNat n) ≤ n
    by_cases hv : v < 0
    · rw [if_pos hv]; omega
    · rw [if_neg hv]; exact Nat.min_le_right _ _
theorem clip_eq (v : Int) (n d : Nat) : (if v < 0 then max (v + (n : Int)) 0 else min v (n : Int)) = ((sIx n d (some v) : Nat) : Int) := by
  show (if v < 0 then max (v + (n : Int)) 0 else min v (n : Int)) = (((if v < 0 then (v + (n : Int)).toNat else min v.toNat n) : Nat) : Int)
  by_cases hv : v < 0
  · simp only [if_pos hv]; omega
  · simp only [if_neg hv]; omega
theorem adjust_gen (lo hi : Option Int) (n : Nat) : Builtin.Slice.sliceAdjust lo hi 1 (n : Int) = (((sIx n 0 lo : Nat) : Int), ((sIx n n hi : Nat) : Int)) := by
  have h1 : ¬ ((1 : Int) < 0) := by omega
  unfold Builtin.Slice.sliceAdjust
  simp only [h1, if_false]
  refine Prod.ext ?_ ?_
  · cases lo with
    | none => rfl
    | some v => exact clip_eq v n 0
  · cases hi with
    | none => rfl
    | some v => exact clip_eq v n n
theorem places_gen (i j : Nat) : Builtin.Slice.slicePlaces (i : Int) (j : Int) 1 = j - i := by
  unfold Builtin.Slice.slicePlaces
  have h1 : (1 : Int) > 0 := by omega
  simp only [h1, if_true, Int.ediv_one]
  split <;> omega
theorem slicePart_ {v : Value} {o : Option Int} {Q : Option Int → Shared → Prop} (p : IsPart v o) (h : Q o s) : wpAny (model prog w) A (Builtin.Slice.slicePartIndex v) Q E s := by
  cases p with
  | none => exact slicePart_none h
  | int i t => exact slicePart_int h
theorem sliceApplied_gen {sl : Addr} {vl vu : Value} {lo hi : Option Int} {n : Nat} {Q : Int × Int × Nat → Shared → Prop} (hs : s.heap.IsSliceOf sl vl vu .none) (pl : IsPart vl lo) (pu : IsPart vu hi)
    (h : Q (((sIx n 0 lo : Nat) : Int), 1, sIx n n hi - sIx n 0 lo) s) : wpAny (model prog w) A (Builtin.Slice.sliceApplied (.ref sl) (pure (n : Int))) Q E s := by
  obtain ⟨os, hos, hcs, hds⟩ := id hs
  unfold Builtin.Slice.sliceApplied Builtin.Slice.sliceFields
  refine wpAny_bind (wpAny_bind (wpAny_field hos hds (x := vl) rfl (wpAny_bind (wpAny_field hos hds (x := vu) rfl (wpAny_bind (wpAny_field hos hds (x := .none) rfl (wpAny_pure ?_)))))))
  refine wpAny_bind (slicePart_none ?_)
  show wpAny _ _ (if ((1 : Int) == 0) = true then _ else _) _ _ s
  rw [if_neg (by decide)]
  refine wpAny_bind (slicePart_ pl (wpAny_bind (slicePart_ pu (wpAny_bind (wpAny_pure ?_)))))
  show wpAny _ _ (match Builtin.Slice.sliceAdjust lo hi 1 (n : Int) with | (lo, hi) => pure (lo, (1 : Int), Builtin.Slice.slicePlaces lo hi 1)) _ _ s
  rw [adjust_gen lo hi n]
  show wpAny _ _ (pure (((sIx n 0 lo : Nat) : Int), (1 : Int), Builtin.Slice.slicePlaces ((sIx n 0 lo : Nat) : Int) ((sIx n n hi : Nat) : Int) 1)) _ _ s
  rw [places_gen]
  exact wpAny_pure h
theorem pick_gen (xs : Array Value) (i k : Nat) : ((List.range k).filterMap fun (m : Nat) => xs[((i : Int) + (m : Int) * 1).toNat]?).toArray = ((xs.toList.drop i).take k).toArray := by
  have e : (fun (m : Nat) => xs[((i : Int) + (m : Int) * 1).toNat]?) = fun m => xs[i + m]? := by
    funext m
    have : ((i : Int) + (m : Int) * 1).toNat = i + m := by omega
    rw [this]
  rw [e]
  have := pick_run xs i k
  rw [List.filterMap_map] at this
  have e2 : ((fun x => xs[x]?) ∘ fun x => i + x) = fun m => xs[i + m]? := rfl
  rw [e2] at this
  rw [this]

theorem getItem_tuple_cut {t sl : Addr} {items : Array Value} {vl vu : Value} {lo hi : Option Int} {Q : Value → Shared → Prop} (ht : IsTup s.heap t items) (hs : s.heap.IsSliceOf sl vl vu .none) (pl : IsPart vl lo) (pu : IsPart vu hi)
    (hw : ¬ (sIx items.size 0 lo = 0 ∧ sIx items.size items.size hi = items.size))
    (h : Q (.ref s.heap.objs.size) { s with heap := s.heap.push { cls := .type "tuple", data := .seq ((items.toList.drop (sIx items.size 0 lo)).take (sIx items.size items.size hi - sIx items.size 0 lo)).toArray } })
    (hsz : items.size ≤ sizeLine) : wpAny (model prog w) A (getItem (.ref t) (.ref sl)) Q E s := by
  have htake : sizeOk (.seq ((items.toList.drop (sIx items.size 0 lo)).take (sIx items.size items.size hi - sIx items.size 0 lo)).toArray) := by
    show ((items.toList.drop (sIx items.size 0 lo)).take (sIx items.size items.size hi - sIx items.size 0 lo)).toArray.size ≤ sizeLine
    rw [List.size_toArray, List.length_take, List.length_drop, Array.length_toList]
    omega
  have hj : sIx items.size items.size hi ≤ items.size := sIx_le _ _ (Nat.le_refl _) hi
  obtain ⟨os, hos, hcs, hds⟩ := id hs
  have hTs : s.TypeIs (.ref sl) "slice" := ⟨os, hos, hcs⟩
  unfold getItem
  try with_reducible refine wpAny_holding ?_
  first | refine wpAny_bind (wpAny_pure ?_) | skip
  refine wpAny_bind (wpAny_sequenceKey ht.typeIs (by decide) ?_)
  refine wpAny_bind (wpAny_callSpecial?_slot (name := Str.ofString "__getitem__") ht.typeIs PyProof.Rows.slot_tuple_getitem
    (wpAny_call_entry PyProof.Rows.slot_tuple_getitem ht.typeIs entry_tuple_getitem ?_ (args_tuple_getitem _ _)))
  show wpAny _ _ (Builtin.Tuple.tupleItemsOf (.ref t) >>= _) _ _ s
  refine wpAny_bind (tupleItemsOf_ ht ?_)
  refine wpAny_bind (wpAny_typeOf hTs ?_)
  rw [if_pos (by decide)]
  refine wpAny_bind (sliceApplied_gen hs pl pu ?_)
  have hno : ¬ ((((sIx items.size 0 lo : Nat) : Int) == 0 && (1 : Int) == 1 && (sIx items.size items.size hi - sIx items.size 0 lo) == items.size) = true) := by
    intro q
    rw [Bool.and_eq_true, Bool.and_eq_true] at q
    have q1 : ((sIx items.size 0 lo : Nat) : Int) = 0 := eq_of_beq q.1.1
    have q2 : sIx items.size items.size hi - sIx items.size 0 lo = items.size := eq_of_beq q.2
    exact hw ⟨by omega, by omega⟩
  show wpAny _ _ (if (((sIx items.size 0 lo : Nat) : Int) == 0 && (1 : Int) == 1 && (sIx items.size items.size hi - sIx items.size 0 lo) == items.size) = true then _ else _) _ _ s
  rw [if_neg hno, pick_gen]
  first
    | exact wpAny_bind (m := Builtin.Tuple.tupleExact _) (wpAny_newObj_type (wpAny_pure ⟨_, rfl, wpAny_pure h⟩) htake)
    | exact wpAny_bind (m := Builtin.Tuple.tupleExact _) (wpAny_newObj_type (wpAny_bind (wpAny_pure (wpAny_pure ⟨_, rfl, wpAny_pure h⟩))) htake)
    | exact wpAny_bind (wpAny_bind (m := Builtin.Tuple.tupleExact _) (wpAny_newObj_type (wpAny_pure (wpAny_pure ⟨_, rfl, wpAny_pure h⟩)) htake))
    | exact wpAny_bind (wpAny_bind (m := Builtin.Tuple.tupleExact _) (wpAny_newObj_type (wpAny_pure ⟨_, rfl, wpAny_pure h⟩) htake))
end
end HT

namespace L2
open PySem PySem.Spec PyProof.Rows

/-! ### the parts of a slice -/
abbrev TO := St → Hp → (Option Int → Hp → Prop) → Prop
/-- a slice's part (left out, or an int) -/
def PO (X : Cx) (e : Option Expr) (t : TO) : Prop :=
  ∀ (pins : List (Addr × Obj)) (s : Shared) (σ : St) (H : Hp) (Q : Option Int → Hp → Prop), Inv X pins σ H s → t σ H Q →
    wpAny (model X.prog X.w) X.A (evalPart e X.env) (fun u s' => ∃ o H', Inv X pins σ H' s' ∧ IsPart u o ∧ Q o H') X.xe s
def tNoPart : TO := fun _ H Q => Q none H
theorem intsAre_of {ns : List Int} : ∀ {us : List Value}, Vals (ns.map V.int) us → IntsAre us ns := by
  induction ns with
  | nil => intro us r; rw [List.map_nil] at r; cases r; exact .nil
  | cons n ns ih =>
    intro us r
    rw [List.map_cons] at r
    cases r with
    | cons r1 r2 =>
      obtain ⟨t, e⟩ := r1
      subst e
      exact .cons n t (ih r2)

section
variable {X : Cx} {e : Expr} {te : TE} {lo hi : Option Expr} {tl th : TO} {pos p2 : Pos}

theorem po_none : PO X none tNoPart := by
  intro pins s σ H Q I h
  rw [evalPart_none]
  exact wpAny_pure ⟨none, H, I, .none, h⟩
/-- what a slice of a value is, by values: the slice object stands at sl -/
def SlR (X : Cx) (r : V → Option Int → Option Int → Hp → VK → Prop) : Prop :=
  ∀ (pins : List (Addr × Obj)) (s : Shared) (σ : St) (H : Hp) (x : V) (v vl vu : Value) (lo hi : Option Int) (sl : Addr) (Q : VK), Inv X pins σ H s → RelV x v → s.heap.IsSliceOf sl vl vu .none → IsPart vl lo → IsPart vu hi → r x lo hi H Q →
    ∃ T id, typeLookup (.type T) "__getitem__" = pure (some (.builtin id)) ∧ s.TypeIs v T ∧ wpAny (model X.prog X.w) X.A (getItem v (.ref sl)) (EP X pins σ Q) X.xe s
def tSl (r : V → Option Int → Option Int → Hp → VK → Prop) (te : TE) (tl th : TO) : TE := fun σ H Q => te σ H fun x H1 => tl σ H1 fun l H2 => th σ H2 fun u H3 => r x l u H3 Q
/-- a[lo:hi], any a -/
theorem pe_slice {r : V → Option Int → Option Int → Hp → VK → Prop} (hr : SlR X r) (he : PE X e te) (hl : PO X lo tl) (hu : PO X hi th) : PE X (.Subscript e (.Slice lo hi none p2) pos) (tSl r te tl th) := by
  intro pins s σ H Q I h
  refine Subscript_ (thn (he pins s σ H _ I h) fun v s1 ⟨x, H1, I1, r1, q1⟩ => ?_)
  refine wpAny_Slice (thn (hl pins s1 σ H1 _ I1 q1) fun vl s2 ⟨l, H2, I2, pl, q2⟩ => thn (hu pins s2 σ H2 _ I2 q2) fun vu s3 ⟨u, H3, I3, pu, q3⟩ => ?_)
  rw [evalPart_none]
  refine wpAny_pure ?_
  have I4 : Inv X pins σ H3 { s3 with heap := s3.heap.push { cls := .type "slice", data := .fields #[vl, vu, .none] } } := I3.kept (t' := s3.toks) fun b ob q => Heap.get?_push_of_some _ q
  obtain ⟨T, id, hT, ht, hg⟩ := hr pins { s3 with heap := s3.heap.push { cls := .type "slice", data := .fields #[vl, vu, .none] } } σ H3 x v vl vu l u s3.heap.objs.size Q I4 r1 (Heap.IsSliceOf.new ..) pl pu q3
  show wpAny (model X.prog X.w) X.A (subscriptTail e (.Slice lo hi none p2) v (.ref s3.heap.objs.size)) (EP X pins σ Q) X.xe { s3 with heap := s3.heap.push { cls := .type "slice", data := .fields #[vl, vu, .none] } }
  exact tail_any (ops := [.ref s3.heap.objs.size, v]) ht hT hg (by with_unfolding_all rfl)

/-- the items of xs[lo:hi] -/
def cutV (xs : List V) (lo hi : Option Int) : List V := (xs.drop (HT.sIx xs.length 0 lo)).take (HT.sIx xs.length xs.length hi - HT.sIx xs.length 0 lo)
theorem cutV_length (xs : List V) (lo hi : Option Int) : (cutV xs lo hi).length ≤ xs.length := by
  unfold cutV
  rw [List.length_take, List.length_drop]
  omega
/-- t[lo:hi], not the whole of it (the whole would be t itself) -/
def rSlT (K : PySem.W.Frag) : V → Option Int → Option Int → Hp → VK → Prop := fun x lo hi H Q => ∃ a xs, x = .ref a ∧ SqT K H a xs ∧
  ¬ (HT.sIx xs.length 0 lo = 0 ∧ HT.sIx xs.length xs.length hi = xs.length) ∧ ∀ p, H p = none → Q (.ref p) (upd H p (.tup (cutV xs lo hi)))
theorem sl_tup : SlR X (rSlT X.K) := by
  intro pins s σ H x v vl vu lo hi sl Q I rx hs pl pu h
  obtain ⟨a, xs, rfl, hx, hw, q⟩ := h
  cases rx
  obtain ⟨its, r, ht, hz⟩ := I.tuple hx
  have hlen : its.toArray.size = xs.length := by rw [List.size_toArray]; exact r.length.symm
  refine ⟨"tuple", _, PyProof.Rows.slot_tuple_getitem.lookup, ht.typeIs, ?_⟩
  refine HT.getItem_tuple_cut ht hs pl pu (by rw [hlen]; exact hw) ?_ (by rw [hlen]; exact hz)
  rw [hlen]
  refine ⟨.ref s.heap.objs.size, _, I.laid (t' := s.toks) (o := .tup (cutV xs lo hi)) (fun b ob q => Heap.get?_push_of_some _ q) (Nat.le_refl _) ?_, rfl, q _ (I.hok.fresh (Nat.le_refl _))⟩
  exact ⟨Nat.le_trans (cutV_length xs lo hi) hz, _, (r.drop (HT.sIx xs.length 0 lo)).take (HT.sIx xs.length xs.length hi - HT.sIx xs.length 0 lo), IsTup.new _ _⟩

/-! ### t < u, t + u -/
/-- t + u, t not empty: u empty gives t itself -/
def rCatT (K : PySem.W.Frag) : R2 := fun x y H Q => ∃ a b xs ys, x = .ref a ∧ y = .ref b ∧ SqT K H a xs ∧ SqT K H b ys ∧ xs ≠ [] ∧ xs.length + ys.length ≤ sizeLine ∧
  (ys = [] → Q (.ref a) H) ∧ (ys ≠ [] → ∀ p, H p = none → Q (.ref p) (upd H p (.tup (xs ++ ys))))
theorem Vals.nil_iff {xs : List V} {us : List Value} (r : Vals xs us) : us = [] ↔ xs = [] := by
  cases r with
  | nil => simp
  | cons _ _ => simp
theorem op_catT : OpR X (binaryOp .Add) (rCatT X.K) := by
  intro pins s σ H x y v u Q I rx ry h
  obtain ⟨a, b, xs, ys, rfl, rfl, ha, hb, hx, hz, q1, q2⟩ := h
  cases rx
  cases ry
  obtain ⟨its, r1, p1, _⟩ := I.tuple ha
  obtain ⟨its2, r2, p2, _⟩ := I.tuple hb
  refine HT.cat_tup p1 p2 (fun z => hx (r1.nil_iff.mp z)) (fun z => ⟨.ref a, H, I, rfl, q1 (r2.nil_iff.mp z)⟩) (fun z => ?_) (by rw [← r1.length, ← r2.length]; exact hz)
  refine ⟨.ref s.heap.objs.size, _, I.laid (t' := s.toks) (o := .tup (xs ++ ys)) (fun b ob q => Heap.get?_push_of_some _ q) (Nat.le_refl _) ?_, rfl, q2 (fun w => z (r2.nil_iff.mpr w)) _ (I.hok.fresh (Nat.le_refl _))⟩
  exact ⟨by rw [List.length_append]; exact hz, _, r1.append r2, IsTup.new _ _⟩
end
end L2

namespace L2
open PySem PySem.Spec PyProof.Rows

/-! ### places -/
/-- the place that an index of any sign means -/
def ixN (n : Nat) (i : Int) : Option Nat := if 0 ≤ i then (if i < n then some i.toNat else none) else if -(n : Int) ≤ i then some (i + n).toNat else none
def atI {α : Type} (xs : List α) (i : Int) : Option α := (ixN xs.length i).bind fun j => xs[j]?
theorem ixN_seq {n : Nat} {i : Int} {j : Nat} (h : ixN n i = some j) : seqIndex? i n = some j ∧ j < n ∧ -(n : Int) ≤ i ∧ i < n := by
  unfold ixN at h
  by_cases h0 : 0 ≤ i
  · rw [if_pos h0] at h
    by_cases h1 : i < n
    · rw [if_pos h1] at h
      have e : i.toNat = j := Option.some.inj h
      exact ⟨by rw [seqIndex_of h0 h1, e], by omega, by omega, h1⟩
    · rw [if_neg h1] at h; cases h
  · rw [if_neg h0] at h
    by_cases h1 : -(n : Int) ≤ i
    · rw [if_pos h1] at h
      have e : (i + n).toNat = j := Option.some.inj h
      exact ⟨by rw [seqIndex_neg (by omega) h1, e], by omega, h1, by omega⟩
    · rw [if_neg h1] at h; cases h
theorem atI_get {α : Type} {xs : List α} {i : Int} {v : α} (h : atI xs i = some v) : ∃ j, seqIndex? i xs.length = some j ∧ xs[j]? = some v ∧ j < xs.length ∧ -(xs.length : Int) ≤ i ∧ i < xs.length := by
  unfold atI at h
  cases e : ixN xs.length i with
  | none => rw [e] at h; cases h
  | some j =>
    rw [e] at h
    obtain ⟨h1, h2, h3, h4⟩ := ixN_seq e
    exact ⟨j, h1, h, h2, h3, h4⟩
theorem atI_nat {α : Type} {xs : List α} {j : Nat} {v : α} (h : xs[j]? = some v) : atI xs (j : Int) = some v := by
  have hj : j < xs.length := (List.getElem?_eq_some_iff.mp h).1
  have e : ixN xs.length (j : Int) = some j := by
    unfold ixN
    rw [if_pos (by omega), if_pos (by omega)]; simp
  unfold atI; rw [e]; exact h
/-! ### what may be subscripted -/
/-- what stands as an index of a plain subscript -/
def PlainIx (b : Expr) : Prop := ∀ o i, subscripted b false o i = operate [o, i] (getItem o i)
/-- a subscript by values -/
def IxR (X : Cx) (r : R2) : Prop :=
  ∀ (value slice : Expr) (pins : List (Addr × Obj)) (s : Shared) (σ : St) (H : Hp) (x y : V) (v u : Value) (Q : VK), Inv X pins σ H s → RelV x v → RelV y u → r x y H Q →
    subscripted slice false v u = operate [v, u] (getItem v u) → wpAny (model X.prog X.w) X.A (subscriptTail value slice v u) (EP X pins σ Q) X.xe s
/-- a call of a builtin's method by values: the receiver, the arguments -/
def MtR (X : Cx) (id : String) (r : V → List V → Hp → VK → Prop) : Prop :=
  ∀ (pins : List (Addr × Obj)) (s : Shared) (σ : St) (H : Hp) (x : V) (xs : List V) (v : Value) (us : List Value) (Q : VK), Inv X pins σ H s → RelV x v → Vals xs us → r x xs H Q →
    wpAny (model X.prog X.w) X.A (call (.builtin id) (v :: us)) (EP X pins σ Q) X.xe s
section
variable {X : Cx} {a b : Expr} {ta tb : TE} {pos : Pos}
/-- a[b] -/
theorem pe_ix {r : R2} (hr : IxR X r) (ha : PE X a ta) (hb : PE X b tb) (hs : PlainIx b) : PE X (.Subscript a b pos) (tOp r ta tb) := by
  intro pins s σ H Q I h
  exact Subscript_ (binT ha hb I h fun v u s2 x y H2 I2 rx ry q => hr a b pins s2 σ H2 x y v u Q I2 rx ry q (hs _ _))

def rIxL (K : PySem.W.Frag) : R2 := fun x y H Q => ∃ p xs i v, x = .ref p ∧ y = .int i ∧ SqL K H p xs ∧ atI xs i = some v ∧ Q v H
def rIxT (K : PySem.W.Frag) : R2 := fun x y H Q => ∃ p xs i v, x = .ref p ∧ y = .int i ∧ SqT K H p xs ∧ atI xs i = some v ∧ Q v H
theorem ix_list : IxR X (rIxL X.K) := by
  intro value slice pins s σ H x y v u Q I rx ry h hs
  obtain ⟨p, xs, i, z, rfl, rfl, hq, he, q⟩ := h
  cases rx
  obtain ⟨t, rfl⟩ := ry
  obtain ⟨its, r, pl, hz⟩ := I.list hq
  obtain ⟨j, h1, h2, h3, h4, h5⟩ := atI_get he
  obtain ⟨w, ew, rw'⟩ := r.get h2
  have hl := r.length
  have hn := line63
  have fin : EP X pins σ Q w s := ⟨z, H, I, rw', q⟩
  by_cases h0 : 0 ≤ i
  · have hj : i.toNat = j := by
      rw [seqIndex_of h0 h5] at h1
      exact Option.some.inj h1
    exact item_listR pl.isList h0 (by omega) (by rw [hj]; simpa using ew) fin hs
  · have hj : (i + (its.toArray.size : Int)).toNat = j := by
      rw [seqIndex_neg (by omega) h4] at h1
      rw [List.size_toArray, ← hl]
      exact Option.some.inj h1
    exact subscriptTail_builtinR (x := w) pl.isList.typeIs slot_list_getitem.lookup
      (wpAny_getItem_list_neg (Q := fun r s' => r = w ∧ EP X pins σ Q r s') pl.isList (by omega) (by rw [List.size_toArray] <;> omega) (by omega) (by rw [hj]; simpa using ew) ⟨rfl, fin⟩) hs
theorem ix_tup : IxR X (rIxT X.K) := by
  intro value slice pins s σ H x y v u Q I rx ry h hs
  obtain ⟨p, xs, i, z, rfl, rfl, hq, he, q⟩ := h
  cases rx
  obtain ⟨t, rfl⟩ := ry
  obtain ⟨its, r, pl, hz⟩ := I.tuple hq
  obtain ⟨j, h1, h2, h3, h4, h5⟩ := atI_get he
  obtain ⟨w, ew, rw'⟩ := r.get h2
  have hl := r.length
  have hn := line63
  have fin : EP X pins σ Q w s := ⟨z, H, I, rw', q⟩
  exact subscriptTail_builtinR (x := w) pl.typeIs slot_tuple_getitem.lookup
    (getItem_tuple (j := j) (Q := fun r s' => r = w ∧ EP X pins σ Q r s') pl (by omega) (by omega) (by rw [List.size_toArray, ← hl]; exact h1) (by simpa using ew) ⟨rfl, fin⟩) hs
/-! ### xs[i] = v, any sign -/
/-! ### slices -/
theorem slice_bounds (lo hi : Option Int) (n : Nat) : (sliceBounds lo hi none n).1 = ((HT.sIx n 0 lo : Nat) : Int) ∧ (sliceBounds lo hi none n).2.1 = ((HT.sIx n n hi : Nat) : Int) ∧ (sliceBounds lo hi none n).2.2 = 1 := by
  refine ⟨?_, ?_, rfl⟩
  · cases lo with
    | none => simp [sliceBounds, HT.sIx]
    | some i =>
      simp only [sliceBounds, HT.sIx, Option.getD_none, show (1 : Int) > 0 by decide, if_true]
      by_cases h : i < 0
      · simp only [h, if_true] <;> omega
      · simp only [h, if_false] <;> omega
  · cases hi with
    | none => simp [sliceBounds, HT.sIx]
    | some i =>
      simp only [sliceBounds, HT.sIx, Option.getD_none, show (1 : Int) > 0 by decide, if_true]
      by_cases h : i < 0
      · simp only [h, if_true] <;> omega
      · simp only [h, if_false] <;> omega
theorem slicePick_cut (its : List Value) (lo hi : Option Int) : slicePick its.toArray lo hi none = ((its.drop (HT.sIx its.length 0 lo)).take (HT.sIx its.length its.length hi - HT.sIx its.length 0 lo)).toArray := by
  obtain ⟨h1, h2, h3⟩ := slice_bounds lo hi its.toArray.size
  unfold slicePick
  rw [h1, h2, h3]
  simp only [sliceRange_one, pick_run, List.size_toArray] <;> rfl
/-- xs[lo:hi] of a list: a new list -/
def rSlL (K : PySem.W.Frag) : V → Option Int → Option Int → Hp → VK → Prop := fun x lo hi H Q => ∃ a xs, x = .ref a ∧ SqL K H a xs ∧ ∀ p, H p = none → Q (.ref p) (upd H p (.lst (cutV xs lo hi)))
theorem sl_list : SlR X (rSlL X.K) := by
  intro pins s σ H x v vl vu lo hi sl Q I rx hs pl pu h
  obtain ⟨a, xs, rfl, hx, q⟩ := h
  cases rx
  obtain ⟨its, r, ht, hz⟩ := I.list hx
  have hlen := r.length
  refine ⟨"list", _, slot_list_getitem.lookup, ht.isList.typeIs, ?_⟩
  refine wpAny_getItem_list_slice ht.isList hs pl pu .none (by simp) ?_ (by rw [List.size_toArray] <;> omega)
  rw [slicePick_cut, ← hlen]
  refine ⟨.ref s.heap.objs.size, _, I.laid (t' := s.toks) (o := .lst (cutV xs lo hi)) (fun b ob q => Heap.get?_push_of_some _ q) (Nat.le_refl _) ?_, rfl, q _ (I.hok.fresh (Nat.le_refl _))⟩
  exact ⟨Nat.le_trans (cutV_length xs lo hi) hz, _, 0, (r.drop (HT.sIx xs.length 0 lo)).take (HT.sIx xs.length xs.length hi - HT.sIx xs.length 0 lo), Heap.get?_push_size _ rfl⟩

/-! ### in, not in: flat items -/
/-! ### len, list(x), tuple(x) of any list or tuple that is read -/
theorem call_len_seq : CallR X (.builtin "len") (fun xs H Q => ∃ p ys, xs = [.ref p] ∧ (SqL X.K H p ys ∨ SqT X.K H p ys) ∧ Q (.int ys.length) H) := by
  intro pins s σ H xs us Q I r h
  obtain ⟨p, ys, rfl, hq, q⟩ := h
  obtain ⟨u, rfl, rx⟩ := vals1 r
  cases rx
  have hn := line63
  rcases hq with hq | hq
  · obtain ⟨its, r', pl, hz⟩ := I.list hq
    have hlen := r'.length
    exact Calls.call_len_list pl.isList (by simp only [List.size_toArray] <;> omega) ⟨.int ys.length, H, I.tok _, ⟨s.toks + 1, by rw [List.size_toArray, hlen]⟩, q⟩
  · obtain ⟨its, r', pl, hz⟩ := I.tuple hq
    have hlen := r'.length
    exact len_tuple pl (by simp only [List.size_toArray] <;> omega) ⟨.int ys.length, H, I.tok _, ⟨s.toks + 1, by rw [List.size_toArray, hlen]⟩, q⟩
theorem CallR.or {f : Value} {r r' : List V → Hp → VK → Prop} (h : CallR X f r) (h' : CallR X f r') : CallR X f (fun xs H Q => r xs H Q ∨ r' xs H Q) := by
  intro pins s σ H xs us Q I rs q
  rcases q with q | q
  · exact h pins s σ H xs us Q I rs q
  · exact h' pins s σ H xs us Q I rs q
theorem call_list_of : CallR X (.type "list") (fun xs H Q => ∃ p ys, xs = [.ref p] ∧ (SqL X.K H p ys ∨ SqT X.K H p ys) ∧ ∀ l, H l = none → Q (.ref l) (upd H l (.lst ys))) := by
  intro pins s σ H xs us Q I r h
  obtain ⟨p, ys, rfl, hq, q⟩ := h
  obtain ⟨u, rfl, rx⟩ := vals1 r
  cases rx
  have fin : ∀ (its : List Value), Vals ys its → ys.length ≤ sizeLine → ∀ (h' : Heap) (c' : Nat), (∀ b o', s.heap.get? b = some o' → h'.get? b = some o') →
      h'.get? s.heap.objs.size = some { cls := .type "list", dict := none, data := .seq its.toArray c', slots := #[] } → EP X pins σ Q (.ref s.heap.objs.size) { s with heap := h' } := fun its r' hz h' c' kp e =>
    ⟨.ref s.heap.objs.size, _, I.laid (t' := s.toks) kp (Nat.le_refl _) (show ObjOk X.prog X.w _ h' _ (.lst ys) from ⟨hz, its, c', r', e⟩), rfl, q _ (I.hok.fresh (Nat.le_refl _))⟩
  rcases hq with hq | hq
  · obtain ⟨its, r', pl, hz⟩ := I.list hq
    have hlen := r'.length
    obtain ⟨o, ho, hc, n, hd⟩ := pl.isList
    exact call_list_seq p (.inl rfl) ho hc hd (fun h' c' kp e => fin its r' hz h' c' kp e) (by simp only [List.size_toArray] <;> omega)
  · obtain ⟨its, r', pl, hz⟩ := I.tuple hq
    have hlen := r'.length
    obtain ⟨o, ho, hc, n, hd⟩ := pl
    exact call_list_seq p (.inr rfl) ho hc hd (fun h' c' kp e => fin its r' hz h' c' kp e) (by simp only [List.size_toArray] <;> omega)
/-! ### the call of a builtin's method: o.m(..) -/
/-- the value is of that builtin type -/
def tyV (K : PySem.W.Frag) (T : String) (x : V) (H : Hp) : Prop := match x with
  | .str _ => T = "str"
  | .int _ => T = "int"
  | .ref p => (T = "list" ∧ ∃ xs, SqL K H p xs) ∨ (T = "tuple" ∧ ∃ o, K.lookup p = some o ∧ o.cls = .type "tuple" ∧ o.dict = none) ∨
      (T = "dict" ∧ ((∃ kvs, H p = some (.dK kvs)) ∨ ∃ kvs, H p = some (.dT kvs))) ∨ (T = "set" ∧ ∃ S n, H p = some (.set S n))
  | _ => False
theorem tyV_is {pins : List (Addr × Obj)} {σ : St} {H : Hp} {s : Shared} {T : String} {x : V} {v : Value} (I : Inv X pins σ H s) (r : RelV x v) (ty : tyV X.K T x H) :
    s.TypeIs v T ∧ ∀ a, v = .ref a → ∃ ob, s.heap.get? a = some ob ∧ ob.dict = none := by
  cases x with
  | str z =>
    obtain ⟨t, rfl⟩ := r
    cases (show T = "str" from ty)
    exact ⟨typeIs_str s z t, fun _ e => nomatch e⟩
  | int i =>
    obtain ⟨t, rfl⟩ := r
    cases (show T = "int" from ty)
    exact ⟨typeIs_int s i t, fun _ e => nomatch e⟩
  | ref p =>
    cases r
    rcases ty with ⟨rfl, xs, hq⟩ | ⟨rfl, o, hk, hc, hd⟩ | ⟨rfl, hk⟩ | ⟨rfl, S, n, hk⟩
    · obtain ⟨its, _, pl, _⟩ := I.list hq
      refine ⟨pl.isList.typeIs, fun a e => ?_⟩
      cases e
      obtain ⟨o, n, e, c, hd, _⟩ := pl
      exact ⟨o, e, hd⟩
    · refine ⟨⟨o, I.kIn p o hk, hc⟩, fun a e => ?_⟩
      cases e
      exact ⟨o, I.kIn _ o hk, hd⟩
    · have z : ∃ o, s.heap.get? p = some o ∧ o.ExactDict := by
        rcases hk with ⟨kvs, hk⟩ | ⟨kvs, hk⟩
        · obtain ⟨_, _, _, _, o, _, _, e, ex, _⟩ := I.hok p _ hk
          exact ⟨o, e, ex⟩
        · obtain ⟨_, _, _, _, o, _, _, e, ex, _⟩ := I.hok p _ hk
          exact ⟨o, e, ex⟩
      obtain ⟨o, e, ex⟩ := z
      refine ⟨⟨o, e, ex.1⟩, fun a e2 => ?_⟩
      cases e2
      exact ⟨o, e, ex.2.1⟩
    · obtain ⟨o, _, _, _, e, ex, _⟩ := I.hok p _ hk
      refine ⟨⟨o, e, ex.1⟩, fun a e2 => ?_⟩
      cases e2
      exact ⟨o, e, ex.2.1⟩
  | _ => exact False.elim ty
def tBM (K : PySem.W.Frag) (T : String) (r : V → List V → Hp → VK → Prop) (to : TE) (t : TA) : TE := fun σ H Q => to σ H fun x H1 => tyV K T x H1 ∧ t σ H1 fun xs H2 => r x xs H2 Q
variable {o e : Expr} {es : List Expr} {to : TE} {t : TA} {name : Str} {apos cpos : Pos} {T id : String} {r : V → List V → Hp → VK → Prop}
theorem pe_bm (pa : PlainAttrs T) (slot : Slot T name id) (hty : typeOf (.builtin id) = pure (.type "method_descriptor")) (hm : MtR X id r) (ho : PE X o to) (ha : PA X (e :: es) t)
    (hbase : attributeBase o name X.env (eval o X.env) = eval o X.env := by rfl)
    (hfew : ((backTo cpos (starEach (e :: es) X.env)).all (fun x => !x.1) && (backToKw cpos (keywordEach [] X.env)).all (fun x => x.1.isSome)
      && decide ((e :: es).length + ([] : List Keyword).length + (if ([] : List Keyword).isEmpty then 0 else 1) < 30)) = true := by rfl)
    (hline : (apos.endLine == cpos.line) = true := by rfl) (hs : starEach (e :: es) X.env = (false, eval e X.env) :: starEach es X.env := by rfl) (hplain : (backTo cpos (starEach es X.env)).any (·.1) = false := by rfl) :
    PE X (.Call (.Attribute o name apos) (e :: es) [] cpos) (tBM X.K T r to t) := by
  intro pins s σ H Q I h
  refine wpAny_Call_method_late hbase hfew hline rfl (thn (ho pins s σ H _ I h) fun v s1 ⟨x, H1, I1, r1, ty, q1⟩ => ?_)
  obtain ⟨h1, h2⟩ := tyV_is I1 r1 ty
  refine ⟨T, id, pa, slot, hty, h1, h2, ?_⟩
  have hA := ha cpos pins s1 σ H1 _ I1 q1
  rw [hs] at hA ⊢
  refine Calls.callWith_builtin (by show (false || (backTo cpos (starEach es X.env)).any (·.1)) = false; rw [hplain] <;> rfl) (Calls.evalArgs_plain ?_)
  exact thn hA fun us s2 ⟨vs, H2, I2, r2, q2⟩ => hm pins s2 σ H2 x vs v us Q I2 r1 r2 q2
/- xs.append(e), list.index on a module's tuple .. are MtR facts of 06m -/
end
end L2

namespace L2
open PySem PySem.Spec PyProof.Rows

def MtM (X : Cx) (id : String) (r : V → List V → Hp → VK → Prop) : Prop :=
  ∀ (pins : List (Addr × Obj)) (s : Shared) (σ : St) (H : Hp) (x : V) (xs : List V) (v : Value) (us : List Value) (Q : VK), Inv X pins σ H s → RelV x v → Vals xs us → r x xs H Q →
    wpAny (model X.prog X.w) X.A (call (.builtin id) (v :: us)) (EP X pins σ Q) X.xe s

/-! ### lists of values -/
theorem Vals.one : ∀ {x : V} {us : List Value}, Vals [x] us → ∃ u, us = [u] ∧ RelV x u
  | _, _, .cons r .nil => ⟨_, rfl, r⟩
theorem Vals.two : ∀ {x y : V} {us : List Value}, Vals [x, y] us → ∃ u v, us = [u, v] ∧ RelV x u ∧ RelV y v
  | _, _, _, .cons r (.cons q .nil) => ⟨_, _, rfl, r, q⟩
theorem Vals.eraseIdx : ∀ {xs : List V} {us : List Value} (i : Nat), Vals xs us → Vals (xs.eraseIdx i) (us.eraseIdx i)
  | _, _, _, .nil => .nil
  | _, _, 0, .cons _ t => t
  | _, _, i + 1, .cons r t => .cons r (Vals.eraseIdx i t)
theorem Vals.rep {xs : List V} {us : List Value} (h : Vals xs us) : ∀ k : Nat, Vals (List.replicate k xs).flatten (List.replicate k us).flatten
  | 0 => .nil
  | k + 1 => by
    rw [List.replicate_succ, List.replicate_succ, List.flatten_cons, List.flatten_cons]
    exact Vals.append h (Vals.rep h k)
theorem len_erase {α : Type} : ∀ (l : List α) (i : Nat), (l.eraseIdx i).length ≤ l.length
  | [], _ => Nat.le_refl _
  | _ :: _, 0 => Nat.le_succ _
  | _ :: r, i + 1 => Nat.succ_le_succ (len_erase r i)
theorem foldl_rep (its : List Value) : ∀ (k : Nat) (acc : List Value),
    List.foldl (fun x1 x2 => x1 ++ x2) acc.toArray (List.replicate k its.toArray) = (acc ++ (List.replicate k its).flatten).toArray
  | 0, acc => by simp
  | k + 1, acc => by
    have e : acc.toArray ++ its.toArray = (acc ++ its).toArray := by simp
    have e2 : (acc ++ its) ++ (List.replicate k its).flatten = acc ++ (List.replicate (k + 1) its).flatten := by
      rw [List.replicate_succ, List.flatten_cons, List.append_assoc]
    rw [← e2, ← foldl_rep its k (acc ++ its), ← e, List.replicate_succ, List.foldl_cons]

section
variable {X : Cx} {pins : List (Addr × Obj)} {σ : St} {H : Hp} {s : Shared} {l b : Addr} {xs ys zs : List V}

/-! ### the two steps: a tracked list is rewritten, a new list is laid -/
theorem Inv.lset {its its' : List Value} {n : Nat} {f : Array Value → Array Value} {t' : Nat} (I : Inv X pins σ H s) (hH : H l = some (.lst xs))
    (e : s.heap.get? l = some { cls := .type "list", data := .seq its.toArray n }) (hf : f its.toArray = its'.toArray) (hv : Vals ys its') (hz : ys.length ≤ sizeLine) :
    Inv X pins σ (upd H l (.lst ys)) { s with heap := s.heap.update l (Obj.mapSeq f), toks := t' } := by
  have q := PySem.IsL.update e f
  rw [hf] at q
  refine I.write (x := l) (e := l) (by rw [hH]; exact trivial) (.inl rfl) (fun b' u hb hu => (Heap.get?_update_other s.heap (Obj.mapSeq f) (Ne.symm hb)).trans hu) ⟨_, q⟩ ?_
  exact ⟨hz, its', _, hv, q⟩
theorem Inv.lnew {its : List Value} {t' : Nat} (I : Inv X pins σ H s) (hv : Vals ys its) (hz : ys.length ≤ sizeLine) :
    Inv X pins σ (upd H s.heap.objs.size (.lst ys)) { s with heap := s.heap.push { cls := .type "list", data := .seq its.toArray }, toks := t' } :=
  I.laid (fun _ _ q => Heap.get?_push_of_some _ q) (Nat.le_refl _) ⟨hz, its, 0, hv, Heap.get?_push_size _ rfl⟩
theorem Inv.fresh (I : Inv X pins σ H s) : H s.heap.objs.size = none := I.hok.fresh (Nat.le_refl _)
theorem Inv.lstM (I : Inv X pins σ H s) (hH : H l = some (.lst xs)) : xs.length ≤ sizeLine ∧ ∃ (its : List Value) (n : Nat), Vals xs its ∧ xs.length = its.length ∧ s.heap.get? l = some { cls := .type "list", data := .seq its.toArray n } := by
  obtain ⟨z, its, n, r, e⟩ := I.hok l _ hH
  exact ⟨z, its, n, r, r.length, e⟩

theorem notLongL {n : Nat} (h : n ≤ sizeLine) : Builtin.List.listTooLong n = false := by
  unfold Builtin.List.listTooLong
  exact decide_eq_false (by omega)
end

section
variable {X : Cx}

/-! ### methods -/
def rAppend : V → List V → Hp → VK → Prop := fun x vs H Q => ∃ l xs y, x = .ref l ∧ vs = [y] ∧ H l = some (.lst xs) ∧ xs.length < sizeLine ∧ Q .non (upd H l (.lst (xs ++ [y])))
theorem mt_append : MtM X "list.append" rAppend := by
  intro pins s σ H x vs v us Q I rx rv h
  obtain ⟨l, xs, y, rfl, rfl, hH, hz, q⟩ := h
  cases rx
  obtain ⟨u, rfl, ru⟩ := rv.one
  obtain ⟨z, its, n, r, hl, e⟩ := I.lstM hH
  refine call_meets F.slot_list_append ⟨_, e, rfl⟩ F.entry_list_append (F.args_list_append_2 _ _) (PySem.list_append l its.toArray n u (by rw [List.size_toArray]; omega)) ⟨e, ?_⟩
  refine ⟨.non, _, I.lset (its' := its ++ [u]) hH e (by simp) (r.append (.cons ru .nil)) ?_, rfl, q⟩
  rw [List.length_append, List.length_singleton]
  omega

def rExtend : V → List V → Hp → VK → Prop := fun x vs H Q => ∃ l b xs zs, x = .ref l ∧ vs = [.ref b] ∧ H l = some (.lst xs) ∧ H b = some (.lst zs) ∧ xs.length + zs.length ≤ sizeLine ∧ Q .non (upd H l (.lst (xs ++ zs)))
theorem mt_extend : MtM X "list.extend" rExtend := by
  intro pins s σ H x vs v us Q I rx rv h
  obtain ⟨l, b, xs, zs, rfl, rfl, hH, hB, hz, q⟩ := h
  cases rx
  obtain ⟨u, rfl, ru⟩ := rv.one
  cases ru
  obtain ⟨z, its, n, r, hl, e⟩ := I.lstM hH
  obtain ⟨z2, its2, n2, r2, hl2, e2⟩ := I.lstM hB
  have hsz : its.toArray.size + its2.toArray.size ≤ sizeLine := by rw [List.size_toArray, List.size_toArray]; omega
  have hlong : ¬ (!its.toArray.isEmpty && Builtin.List.listTooLong (its.toArray.size + its2.toArray.size)) = true := by
    rw [notLongL hsz, Bool.and_false]
    exact Bool.false_ne_true
  refine call_meets F.slot_list_extend ⟨_, e, rfl⟩ F.entry_list_extend (F.args_list_extend_2 _ _)
    (AutoSeq1.list_extend_list_list_0 l its.toArray n b its2.toArray n2 hlong (by rw [List.size_toArray]; omega) (by omega)) ⟨e, e2, ?_⟩
  refine ⟨.non, _, I.lset (its' := its ++ its2) hH e (by simp) (r.append r2) ?_, rfl, q⟩
  rw [List.length_append]
  omega

def rPopAt : V → List V → Hp → VK → Prop := fun x vs H Q => ∃ l xs i k y, x = .ref l ∧ vs = [.int i] ∧ H l = some (.lst xs) ∧ -(2 ^ 63) ≤ i ∧ i < 2 ^ 63 ∧ seqIndex? i xs.length = some k ∧ xs[k]? = some y ∧ Q y (upd H l (.lst (xs.eraseIdx k)))
theorem mt_popAt : MtM X "list.pop" rPopAt := by
  intro pins s σ H x vs v us Q I rx rv h
  obtain ⟨l, xs, i, k, y, rfl, rfl, hH, h1, h2, hk, hy, q⟩ := h
  cases rx
  obtain ⟨u, rfl, ru⟩ := rv.one
  obtain ⟨t, rfl⟩ := ru
  obtain ⟨z, its, n, r, hl, e⟩ := I.lstM hH
  obtain ⟨w, hw, rw'⟩ := r.get hy
  refine call_meets F.slot_list_pop ⟨_, e, rfl⟩ F.entry_list_pop (F.args_list_pop_2 _ _)
    (MeetsSeq.list_pop_at l its.toArray n i t k w (fitsIndex_both h1 h2) (by rw [List.size_toArray, ← hl]; exact hk) (by rw [← Array.getElem?_toList]; exact hw) (by rw [List.size_toArray]; omega)) ⟨e, ?_⟩
  refine ⟨y, _, I.lset (its' := its.eraseIdx k) hH e ?_ (r.eraseIdx k) ?_, rw', q⟩
  · show its.toArray.eraseIdxIfInBounds k = (its.eraseIdx k).toArray
    rw [List.eraseIdxIfInBounds_toArray]
  · have := len_erase xs k
    omega

/-! ### list + list, list += list, list * int -/
def rCat : R2 := fun x y H Q => ∃ l b xs zs, x = .ref l ∧ y = .ref b ∧ H l = some (.lst xs) ∧ H b = some (.lst zs) ∧ xs.length + zs.length ≤ sizeLine ∧ ∀ p, H p = none → Q (.ref p) (upd H p (.lst (xs ++ zs)))
theorem op_cat : OpR X (binaryOp .Add) rCat := by
  intro pins s σ H x y v u Q I rx ry h
  obtain ⟨l, b, xs, zs, rfl, rfl, hH, hB, hz, q⟩ := h
  cases rx
  cases ry
  obtain ⟨z, its, n, r, hl, e⟩ := I.lstM hH
  obtain ⟨z2, its2, n2, r2, hl2, e2⟩ := I.lstM hB
  refine PySem.P.add_list e e2 ?_ (by rw [List.size_toArray, List.size_toArray]; omega)
  have ea : its.toArray ++ its2.toArray = (its ++ its2).toArray := by simp
  rw [ea]
  exact ⟨.ref _, _, I.lnew (t' := s.toks) (r.append r2) (by rw [List.length_append]; omega), rfl, q _ I.fresh⟩
/-- a list times an int (a negative one is nothing) -/
def rRep : R2 := fun x y H Q => ∃ l k xs, x = .ref l ∧ y = .int k ∧ H l = some (.lst xs) ∧ -(2 ^ 63) ≤ k ∧ k < 2 ^ 63 ∧ xs.length * k.toNat ≤ sizeLine ∧
  ∀ p, H p = none → Q (.ref p) (upd H p (.lst (List.replicate k.toNat xs).flatten))
theorem len_rep {α : Type} (xs : List α) (k : Nat) : (List.replicate k xs).flatten.length = k * xs.length := by
  induction k with
  | zero => simp
  | succ k ih => rw [List.replicate_succ, List.flatten_cons, List.length_append, ih, Nat.succ_mul, Nat.add_comm]
theorem op_rep : OpR X (binaryOp .Mult) rRep := by
  intro pins s σ H x y v u Q I rx ry h
  obtain ⟨l, k, xs, rfl, rfl, hH, h1, h2, hz, q⟩ := h
  cases rx
  obtain ⟨t, rfl⟩ := ry
  obtain ⟨z, its, n, r, hl, e⟩ := I.lstM hH
  have hlen : its.toArray.size * k.toNat ≤ sizeLine := by rw [List.size_toArray, ← hl]; exact hz
  have hcap : ¬ its.toArray.size * k.toNat > (2 ^ 63 - 1) / 8 := by
    have : (sizeLine : Nat) ≤ (2 ^ 63 - 1) / 8 := by decide
    omega
  have hfit : ¬ (!Builtin.List.listFitsIndex k) = true := by
    rw [fitsIndex_both h1 h2]
    exact Bool.false_ne_true
  have hlong : ¬ Builtin.List.listTooLong (its.toArray.size * k.toNat) = true := by
    rw [notLongL hlen]
    exact Bool.false_ne_true
  have hnew : List.foldl (fun x1 x2 => x1 ++ x2) #[] (List.replicate (if its.toArray.isEmpty = true then 0 else k.toNat) its.toArray) = (List.replicate k.toNat its).flatten.toArray := by
    have f0 : ∀ m : Nat, List.foldl (fun x1 x2 => x1 ++ x2) #[] (List.replicate m its.toArray) = (List.replicate m its).flatten.toArray := fun m => by
      have := foldl_rep its m []
      rw [List.nil_append] at this
      exact this
    rw [f0]
    cases its with
    | nil => simp
    | cons a r' => rw [if_neg (by simp)]
  refine wpAny_binaryOp_repeat_ref (T := "list") (U := "int") (by decide) ⟨_, e, rfl⟩ (fun s' => typeIs_int s' k t) noFill_list_mul F.fills_int_mul F.slot_int_rmul repeat_list F.slot_int_index.lookup
    (call_meets F.slot_int_rmul (typeIs_int s k t) F.entry_int_rmul (F.args_int_rmul_2 _ _) (int___rmul___int_list k t l its.toArray n)
      ⟨e, rfl, ⟨_, e, rfl⟩, call_meets F.slot_list_mul ⟨_, e, rfl⟩ F.entry_list_mul (F.args_list_mul_2 _ _) (AutoListH.list___mul___list_int_3 l its.toArray n k t hfit hcap hlong) ⟨e, ?_⟩⟩)
  rw [hnew]
  exact ⟨.ref _, _, I.lnew (t' := s.toks) (r.rep k.toNat) (by rw [len_rep, Nat.mul_comm]; exact hz), rfl, q _ I.fresh⟩

/-! ### del xs[i] -/
end

/-! ### xs[a:b] = ys -/
section
variable {prog : Program} {w : World} {A : Around} {E : Value → Shared → Prop} {s : Shared}
end

section
variable {X : Cx}
end
end L2

namespace Att
open PySem PySem.W PySem.Calls PyProof.Rows

/-! ### the script -/
theorem ints_of_wellAll {P : Params} {h : Heap} : ∀ (ns : List Int) (vs : List Value), WellAll P h vs (ns.map WData.int) → IntsAre vs ns := by
  intro ns
  induction ns with
  | nil =>
    intro vs w
    rw [List.map_nil] at w
    cases w
    exact .nil
  | cons n ns ih =>
    intro vs w
    rw [List.map_cons] at w
    cases w with
    | cons a b =>
      cases a
      exact .cons _ _ (ih _ b)

theorem script_of {l : OpenLaw} {n : Nat} (hn : l.most = some n) {P : Params} {h : Heap} {args : List WData} {vals : List Value}
    (hpre : l.row.toRowW.claim.pre args = true) (hwl : WellAll P h vals args) :
    ∃ a vs ns, vals = [Value.ref a] ∧ args = [WData.list (ns.map WData.int)] ∧ h.get? a = some { cls := .type "list", data := .seq vs.toArray } ∧ IntsAre vs ns ∧ ns.length ≤ n := by
  have hsh : WShape.hasAll [] args [.list .int] = true := (pre_splitW hpre).1
  have hc : l.pre.holds [] { args := args } = true := (pre_splitW hpre).2
  obtain ⟨d, r, rfl, h1, h2⟩ := hasAllW_cons hsh
  obtain rfl := hasAllW_nil h2
  obtain ⟨xs, rfl, h3⟩ := hasW_list h1
  obtain ⟨ns, rfl⟩ := items_int h3
  have hlen : ns.length ≤ n := by
    unfold OpenLaw.pre at hc
    have h4 : (WTm.not (.lt (.lit (.int (n : Int))) (.len (.arg 0)))).holds [] { args := [.list (ns.map .int)] } = true := by
      have h4 := (holds_andW hc).1
      rw [hn] at h4
      exact h4
    have h5 := condW_of h4 (w_not (w_lt w_lit (w_len_list (w_arg rfl))))
    rw [List.length_map] at h5
    refine Nat.le_of_not_lt fun q => ?_
    have q' : (n : Int) < ((ns.length : Nat) : Int) := by omega
    first
      | (rw [decide_eq_true q'] at h5; exact absurd h5 (by decide))
      | (simp at h5; omega)
  cases hwl with
  | cons w1 w2 =>
    cases w2
    cases w1 with
    | list ho hall => exact ⟨_, _, ns, rfl, rfl, ho, ints_of_wellAll ns _ hall, hlen⟩

theorem post_true (l : OpenLaw) (args : List WData) : l.row.toRowW.claim.post args (.bool true) args = true :=
  postW_of (r := l.row.toRowW) (X := (true == true))
    (show WShape.has [] (.bool true) .bool = true by first | rfl | decide | simp [WShape.has, WShape.arms, WShape.armsAll])
    (show (WTm.eq .res (.lit (.bool true))).value [] { args := args, res := some (.bool true), after := args } = some (.bool (true == true)) from w_eq_bool (w_res rfl) w_lit) rfl

/-! ### the attachment: holds_open's last premise (the goal 'hc' behind k_head) from a wpAny of the law's body -/
/-- the same from a codeAny of the CALL (for a layer whose function contracts speak of calls) -/
theorem attach_call {l : OpenLaw} {n : Nat} {q : Program} {loose : List Str} {XP : (Str → Option Value) → Heap → Prop} {YP : World → Heap → Prop} {d : DefRec}
    (hn : l.most = some n) (hdf : d.params.defaults = [])
    (call : ∀ (w : World) (s₀ s₁ : Shared) (mg mb : Str → Option Value) (fa : Addr) (o : Obj) (pm cd doc : Value) (a : Addr) (vs : List Value) (ns : List Int),
      Ground q loose [] XP w s₀ mg mb s₁.heap → YP w s₁.heap →
      s₁.heap.get? fa = some o → o.data = .func (docDef d.name d.params d.body d.scope pm cd doc) → s₁.heap.CodeRec cd d.name → mg d.name = some (.ref fa) →
      s₁.heap.get? a = some { cls := .type "list", data := .seq vs.toArray } → IntsAre vs ns → ns.length ≤ n → s₁.gens = #[] →
      codeAny (model l.prog w) callerA (.call (.ref fa) ⟨[.ref a], []⟩) (fun r s' => r = .ok (.ret (.bool true)) ∧ OldK s₁.heap s'.heap ∧ s'.os = s₁.os ∧ AllBare s'.gens) s₁) :
    WalkO q loose XP YP l.row.toRowW d [] (fun f vs => PySem.call f vs) := by
  intro w s₀ s₁ mg mb G Y fa o pm cd doc dV kV ho hd hcd hD hmg hg args vals as hpre hlay hrd hwl hlo
  obtain rfl : dV = .none := Dflts.none hD hdf
  obtain rfl : kV = .none := Dflts.noKw hD
  obtain ⟨a, vs, ns, rfl, rfl, hobj, hints, hlen⟩ := script_of hn hpre hwl
  refine enter_call (codeAny_mono (call w s₀ s₁ mg mb fa o pm cd doc a vs ns G Y ho (fd_plain hd) hcd hmg hobj hints hlen hg) fun r s' hq => ?_)
  obtain ⟨rfl, h2, h3, h4⟩ := hq
  exact ⟨.inl ⟨.bool true, .bool true, [], rfl, fun _ => rfl, .bool true, post_true l _, fun _ => ⟨List.Pairwise.nil, fun _ hm => (nomatch hm)⟩⟩, h2, h3, h4⟩

/-! ### rules over ANY heap (no ledger) from facts about the written part K: the library's own take a ledger (News) for what they write -/
section
variable {prog : Program} {w : World} {A : Around} {E : Value → Shared → Prop} {s : Shared} {K : Frag}

/-! the whole heap as the ledger: makes every rule that writes through a ledger a rule over any heap -/
end
end Att

namespace L2
open PySem PySem.Spec PyProof.Rows

theorem vals_ints : ∀ {vs : List Value} {ns : List Int}, IntsAre vs ns → Vals (ns.map V.int) vs
  | _, _, .nil => .nil
  | _, _, .cons n t h => .cons ⟨t, rfl⟩ (vals_ints h)

/-- nothing is tracked but the script, known to the object (or it is an object of the module) -/
def Only (H : Hp) : Prop := ∀ b, H b = none ∨ ∃ o xs, H b = some (.frz o (.lst xs))

/-- THE HEAD: the law's promise, at the heap behind the top. F, the promise of the law's def, may use that base is part of the heap (so K.In base, base.Ns mainGlobals mg stand in Mod) -/
theorem law_call {P : Program} {w : World} {K : PySem.W.Frag} {mg mb : Str → Option Value} {CX : CXT} {k : Nat} {fa a : Addr} {fd : FuncData} {x : Str} {sp : Sp} {s₁ : Shared} {vs : List Value} {ns : List Int}
    (KX : K.In s₁.heap) (hns : s₁.heap.Ns mainGlobals mg) (hb : s₁.heap.Ns builtinsNs mb) (hbb : ∀ x : Str, x ≠ "__name__" → mb x = bootBuiltins x) (hlim : s₁.heap.NoLimit) (hg : s₁.gens = #[])
    (ha : s₁.heap.get? a = some { cls := .type "list", data := .seq vs.toArray }) (hi : IntsAre vs ns) (hl : ns.length ≤ sizeLine) (hr : Room k callerA)
    (F : ∀ base : Heap, K.In base → base.Ns mainGlobals mg → FnOk P w K mg base CX k fa fd [x] sp) (hbind : ∀ (s : Shared) (u : Value), BindsTo s fd ⟨[u], []⟩ [(x, u)])
    (hsp : ∀ H : Hp, Only H → SqL K H a (ns.map V.int) → sp [.ref a] H (fun v _ => v = .bl true) fun _ _ _ => False)
    (hCX : ∀ H e s', CX [] H s₁ (fun _ _ _ => False) e s' → False) :
    codeAny (model P w) callerA (.call (.ref fa) ⟨[.ref a], []⟩) (fun r s' => r = .ok (.ret (.bool true)) ∧ OldK s₁.heap s'.heap ∧ s'.os = s₁.os ∧ AllBare s'.gens) s₁ := by
  have rv := vals_ints hi
  have lenV := hi.length
  -- from an abstract heap in which nothing but the script may be tracked
  have core : ∀ H : Hp, Only H → SqL K H a (ns.map V.int) → HOk P w H s₁.heap → (∀ b, H b ≠ none → b = a) → (H a ≠ none → K.lookup a = none) →
      codeAny (model P w) callerA (.call (.ref fa) ⟨[.ref a], []⟩) (fun r s' => r = .ok (.ret (.bool true)) ∧ OldK s₁.heap s'.heap ∧ s'.os = s₁.os ∧ AllBare s'.gens) s₁ := by
    intro H hO hS hok hA hK
    have base_of : ∀ {b : Addr} {o : Obj}, s₁.heap.get? b = some o → H b = none → (hidT s₁.heap H).get? b = some o := fun e n => hidT_get e n
    have noA : ∀ {b : Addr} {o : Obj} {es : Array DictEntry} {ep : Nat}, s₁.heap.get? b = some o → o.data = .dict es ep → H b = none := fun {b o es ep} e d => by
      cases q : H b with
      | none => rfl
      | some u =>
        have e' : b = a := hA b (by rw [q]; simp)
        subst e'
        rw [ha] at e; cases e
        have d' : Data.seq vs.toArray _ = Data.dict es ep := d
        cases d'
    have nsK : ∀ {b : Addr} {m : Str → Option Value}, s₁.heap.Ns b m → (hidT s₁.heap H).Ns b m := fun {b m} ⟨o, es, ep, e, d, r⟩ => ⟨o, es, ep, base_of e (noA e d), d, r⟩
    have hKb : K.In (hidT s₁.heap H) := fun b o e => base_of (KX b o e) (by
      cases q : H b with
      | none => rfl
      | some u =>
        have e' : b = a := hA b (by rw [q]; simp)
        subst e'
        rw [hK (by rw [q]; simp)] at e; cases e)
    have hM : Mod K mg (hidT s₁.heap H) := ⟨hKb, nsK hns, ⟨mb, nsK hb, hbb⟩, let ⟨mc, h1, h2⟩ := hlim; ⟨mc, nsK h1, h2⟩⟩
    have e0 : Env0 P w K mg (hidT s₁.heap H) callerA [] s₁ H := ⟨rfl, hM, fun b o e => of_hidT e, Nat.le_of_eq (hidT_size _ _), trivial, fun b hb => absurd (show b ∈ ([] : List Addr) from hb) (by simp), hok, .of_eq hg⟩
    refine codeAny_mono ((F _ hKb (nsK hns)).run callerA [] s₁ H ⟨[.ref a], []⟩ [.ref a] [.ref a] _ _ hr e0 (hbind s₁ (.ref a)) (.cons rfl .nil) (hsp H hO hS)) fun r s' h => ?_
    cases r with
    | error e => exact (hCX H e s' h).elim
    | ok fl =>
      cases fl with
      | next => exact False.elim h
      | brk => exact False.elim h
      | cont => exact False.elim h
      | ret u =>
        obtain ⟨v, H', os, bare, un, hok', r', q⟩ := h
        have q' : v = .bl true := q
        subst q'
        obtain rfl : u = Value.bool true := r'
        refine ⟨rfl, OldK.of_keep fun b o e => ?_, os, bare⟩
        cases q : H b with
        | none => exact un.keep b o e q (by intro z; exact absurd (show b ∈ ([] : List Addr) from z) (by simp)) (by simp)
        | some u =>
          rcases hO b with z | ⟨ob, xs, z⟩
          · rw [q] at z; cases z
          · have z2 := un.frzs b ob _ z
            obtain ⟨e1, _⟩ := hok b _ z
            obtain ⟨e2, _⟩ := hok' b _ z2
            rw [e] at e1; cases e1
            exact e2
  cases hk : K.lookup a with
  | some o =>
    -- the script is one of the module's own objects
    have e := KX a o hk
    rw [ha] at e
    cases e
    refine core (fun _ => none) (fun _ => .inl rfl) (.inr ⟨_, vs.toArray, _, hk, rfl, rfl, rfl, by rw [List.size_toArray, lenV]; exact hl, by simpa using rv⟩) (fun b u z => by have z' : (none : Option HO) = some u := z; cases z') (fun b z => absurd rfl z) fun z => absurd rfl z
  | none =>
    refine core (fun b => if b = a then some (.frz { cls := .type "list", data := .seq vs.toArray } (.lst (ns.map V.int))) else none) (fun b => ?_) (.inl (.inr ⟨{ cls := .type "list", data := .seq vs.toArray }, if_pos rfl⟩)) (fun b u z => ?_) (fun b z => ?_) fun _ => hk
    · by_cases hb : b = a
      · exact .inr ⟨_, _, if_pos hb⟩
      · exact .inl (if_neg hb)
    · by_cases hb : b = a
      · have z' := (if_pos hb).symm.trans z
        cases z'
        subst hb
        exact ⟨ha, by rw [List.length_map]; exact hl, vs, _, rv, ha⟩
      · have z' := (if_neg hb).symm.trans z
        cases z'
    · by_cases hb : b = a
      · exact hb
      · exact absurd (if_neg hb) z
end L2

namespace L2
open PySem PySem.Spec PyProof.Rows

abbrev KOf {K : PySem.W.Frag} {h : Heap} (_ : K.In h) : PySem.W.Frag := K

/-- the goal that k_head leaves (case hc), from the law's promise. F gives the function object fd (K's own) once, then the promise over every base -/
theorem walk_of {l : PySem.W.OpenLaw} {n k : Nat} {q : Program} {loose : List Str} {XP : (Str → Option Value) → Heap → Prop} {YP : World → Heap → Prop} {d : DefRec} {K : Params → PySem.W.Frag} {CX : World → CXT} {sp : World → Sp} {x : Str}
    (hn : l.most = some n) (hn2 : n ≤ sizeLine) (hdf : d.params.defaults = []) (hr : Room k callerA)
    (hY : ∀ (w : World) (h : Heap), YP w h → (K w.params).In h)
    (F : ∀ (w : World) (mg : Str → Option Value) (fa : Addr) (h : Heap), (K w.params).In h → h.Ns mainGlobals mg → mg d.name = some (.ref fa) →
      ∃ fd : FuncData, (∀ (s : Shared) (u : Value), BindsTo s fd ⟨[u], []⟩ [(x, u)]) ∧
        ∀ base : Heap, (K w.params).In base → base.Ns mainGlobals mg → FnOk l.prog w (K w.params) mg base (CX w) k fa fd [x] (sp w))
    (hsp : ∀ (w : World) (H : Hp) (a : Addr) (ns : List Int), ns.length ≤ n → Only H → SqL (K w.params) H a (ns.map V.int) → sp w [.ref a] H (fun v _ => v = .bl true) fun _ _ _ => False)
    (hCX : ∀ (w : World) (H : Hp) (s : Shared) (e : Value) (s' : Shared), CX w [] H s (fun _ _ _ => False) e s' → False) :
    PySem.W.WalkO q loose XP YP l.row.toRowW d [] (fun f vs => PySem.call f vs) := by
  refine Att.attach_call hn hdf fun w s₀ s₁ mg mb fa o pm cd doc a vs ns G Y ho hd hcd hmg hobj hints hlen hg => ?_
  have KX := hY w _ Y
  obtain ⟨fd, hb, hF⟩ := F w mg fa _ KX G.T.g hmg
  exact law_call KX G.T.g G.T.b G.T.builtins G.T.nolimit hg hobj hints (Nat.le_trans hlen hn2) hr hF hb (fun H hO hS => hsp w H a ns hlen hO hS) fun H e s' => hCX w H s₁ e s'
end L2

/- THE LAST THEOREM (shape; LID, My.* are yours):
   My.Adr: a structure of the addresses that your layer names (classes, functions); My.Txt K t: a structure (Prop) of the equations over K;
   My.txt_mk : {K} {implicit addresses ..} (e1 : nsIn K mainGlobals "law" = some (some (.ref f))) (e2 : K.lookup f = some ⟨oc, od, .func (fnOf "law" "law" params body scope dV kV doc pm an cdv ct), sl⟩) (e3 : codeIn K cdv "law" = true) .. : ∃ t, My.Txt K t

set_option maxRecDepth 100000 in
set_option maxHeartbeats 0 in
theorem PySem.Challenge.cw_LID_holds : PySem.Challenge.rw_LID.Holds := by
  w_on; o_law; k_head; (case hw => w_witness2)
  k_fill
  refine L2.walk_of (l := PySem.Challenge.rw_LID) (n := 63) (k := 40) (x := "script") (CX := fun w => ..) (sp := fun _ => My.sp_law) rfl (by decide) rfl ⟨rfl, by decide, by decide⟩ (fun w h Y => PySem.W.kIn_of Y) ?F ?S ?C
  case F =>
    intro w mg fa h KX G hmg
    have T : ∃ t, My.Txt (L2.KOf KX) t := by
      dsimp only [L2.KOf]                          -- K must stand as «<heap const> w.params» for k_is
      refine' My.txt_mk ?e1 ?e2 ?e3 ..
      (case e1 => PySem.W.k_is)                    -- in the order: a name -> its address -> its object -> its parts
      (case e2 => PySem.W.k_is)
      ..
    obtain ⟨t, T⟩ := T
    have e0 := hmg.symm.trans (PySem.W.mg_of KX G T.law)
    cases e0                                       -- fa is the law's own address
    exact ⟨_, fun s u => .of_eq rfl, fun base kb nb => My.law_fn T kb nb⟩     -- if «.of_eq rfl» comes too early: refine' ⟨_, ?b, fun base kb nb => My.law_fn T kb nb⟩; exact fun s u => .of_eq rfl
  case S => exact fun w H a ns hl hO hS => ..
  case C => exact ..
(the tactic k_is has no namespace: write k_is) -/

/-! SHORT WORDS over the layer: a def of the text, its body, what a loop and a test want. -/
namespace L2
open PySem PySem.Spec PyProof.Rows

/-! ### the text by places -/
def defArgs (s : Stmt) : Arguments := match s with
  | .FunctionDef _ a _ _ _ _ _ _ _ _ => a
  | _ => { posonlyargs := [], args := [], vararg := none, kwonlyargs := [], kw_defaults := [], kwarg := none, defaults := [] }
def defBody (s : Stmt) : List Stmt := match s with
  | .FunctionDef _ _ b _ _ _ _ _ _ _ => b
  | _ => []
def defScope (s : Stmt) : Scope := match s with
  | .FunctionDef _ _ _ _ _ _ sc _ _ _ => sc
  | _ => { kind := .function, names := [], isGenerator := false, isCoroutine := false }

/-! ### no exception leaves a def -/
abbrev CX0 : CXT := fun _ _ _ _ _ _ => False
abbrev E0 : XK := fun _ _ _ => False
theorem pass0 {X : Cx} : Passes CX0 X E0 := fun _ _ _ _ _ _ _ h => h.elim

/-! ### a def (or method) of the text as it stands behind the top -/
structure Fun (K : PySem.W.Frag) (x qual : Str) (st : Stmt) (f : Addr) (fd : FuncData) : Prop where
  ex : ∃ (oc : Value) (od : Option Addr) (kV doc pm : Value) (an : Option Addr) (cdv ct : Value) (osl : Array (Option Value)),
    fd = PySem.W.fnOf x qual (defArgs st) (defBody st) (defScope st) .none kV doc pm an cdv ct ∧ K.lookup f = some ⟨oc, od, .func fd, osl⟩ ∧ PySem.W.codeIn K cdv qual = true
  kp : PySem.W.keepIn K (.ref f) = true
section
variable {P : Program} {w : World} {K : PySem.W.Frag} {mg : Str → Option Value} {base : Heap}
/-- THE RULE for a def: its body as a term of rules, and the reading of that term -/
theorem Fun.ok {x qual : Str} {st : Stmt} {f : Addr} {fd : FuncData} {N ps : List Str} {k : Nat} {sp : Sp} (F : Fun K x qual st f fd) (S : FnScope N ps (defScope st)) (len : ∀ vs H Q E, sp vs H Q E → vs.length = ps.length)
    (hbody : ∀ (cdv : Value) (A : Around) (outer : List Env) (s : Shared) (H : Hp) (vs : List V) (Q : VK) (E : XK), Room k (A.deeper (envOfC qual (defScope st) s.heap.objs.size f cdv)) → sp vs H Q E →
      ∃ t, PSs (cxOf CX0 P w K mg base N qual (defScope st) f cdv A outer s H E).nox (defBody st) t ∧ t { nx := fun _ H' => Q .non H', rt := Q } (start N vs) H) : FnOk P w K mg base CX0 (k + 1) f fd ps sp := by
  obtain ⟨oc, od, kV, doc, pm, an, cdv, ct, osl, rfl, lk, hcd⟩ := F.ex
  refine fn_of lk hcd S len fun A outer s H vs Q E hr hsp => ?_
  obtain ⟨t, h, q⟩ := hbody cdv A outer s H vs Q E hr hsp
  exact ⟨t, h.nox, q⟩
/-- how its arguments bind (no defaults): h is «fun _ _ _ _ _ _ us hl => match us, hl with | [_, _], _ => rfl», one _ a parameter -/
theorem Fun.binds {x qual : Str} {st : Stmt} {f : Addr} {fd : FuncData} {ps : List Str} (F : Fun K x qual st f fd)
    (h : ∀ (kV doc pm : Value) (an : Option Addr) (cdv ct : Value) (us : List Value), us.length = ps.length → bindArgs (PySem.W.fnOf x qual (defArgs st) (defBody st) (defScope st) .none kV doc pm an cdv ct) ⟨us, []⟩ = pure (ps.zip us)) : Binds K fd ps [] := by
  obtain ⟨oc, od, kV, doc, pm, an, cdv, ct, osl, rfl, lk, hcd⟩ := F.ex
  exact .all (h kV doc pm an cdv ct)
theorem fun_mk {x qual : Str} {st : Stmt} {f : Addr} {oc : Value} {od an : Option Addr} {osl : Array (Option Value)} {kV doc pm cdv ct : Value} (l : K.lookup f = some ⟨oc, od, .func (PySem.W.fnOf x qual (defArgs st) (defBody st) (defScope st) .none kV doc pm an cdv ct), osl⟩)
    (c : PySem.W.codeIn K cdv qual = true) (k : PySem.W.keepIn K (.ref f) = true) : Fun K x qual st f (PySem.W.fnOf x qual (defArgs st) (defBody st) (defScope st) .none kV doc pm an cdv ct) := ⟨⟨oc, od, kV, doc, pm, an, cdv, ct, osl, rfl, l, c⟩, k⟩
end
/-! ### expressions in short: the name that stands in the i-th slot -/
section
variable {X : Cx}
end

/-! ### tests -/
theorem iteF {A B : Prop} (h : B) : if false = true then A else B := by
  rw [if_neg Bool.false_ne_true]
  exact h
theorem iteT {A B : Prop} (h : A) : if true = true then A else B := by
  rw [if_pos rfl]
  exact h
/-! ### heaps -/
/-- all that was tracked is as it was -/
def Same (H H' : Hp) : Prop := ∀ b o, H b = some o → H' b = some o
theorem Same.refl (H : Hp) : Same H H := fun _ _ h => h
theorem Same.trans {H H1 H2 : Hp} (a : Same H H1) (b : Same H1 H2) : Same H H2 := fun c o h => b c o (a c o h)
theorem Same.free {H H' : Hp} (e : Same H H') {l : Addr} (h : H' l = Option.none) : H l = Option.none := by
  cases q : H l with
  | none => rfl
  | some o =>
    rw [e l o q] at h
    cases h
theorem Same.seq {K : PySem.W.Frag} {H H' : Hp} {a : Addr} {xs : List V} (e : Same H H') (h : SqL K H a xs) : SqL K H' a xs := by
  rcases h with (h | ⟨o, h⟩) | h
  · exact .inl (.inl (e _ _ h))
  · exact .inl (.inr ⟨o, e _ _ h⟩)
  · exact .inr h

end L2

set_option Elab.async false
set_option maxRecDepth 100000
set_option maxHeartbeats 4000000
namespace SB
open PySem PyProof.Rows

structure SI (a0 : Array Keyed) (st : SortSt) : Prop where
  perm : (arrOf st).Perm a0
  kind : kindOf st = oneType'
  failed : failedOf st = none
theorem SI.size {a0 : Array Keyed} {st : SortSt} (h : SI a0 st) : (arrOf st).size = a0.size := h.perm.size_eq
theorem SI.setArr {a0 : Array Keyed} {st : SortSt} (h : SI a0 st) {xs : Array Keyed} (hp : xs.Perm (arrOf st)) : SI a0 (setArr st xs) := ⟨hp.trans h.perm, h.kind, h.failed⟩
theorem SI.keys {a0 : Array Keyed} {st : SortSt} (h : SI a0 st) (h0 : IntKeys a0) : IntKeys (arrOf st) := fun p hp => h0 p ((Array.perm_iff_toList_perm.mp h.perm).mem_iff.mp hp)
theorem ik_at {xs : Array Keyed} (h : IntKeys xs) {i : Nat} (hi : i < xs.size) : ∃ p, xs[i]? = some p ∧ ∃ n t, p.1 = Value.int n t :=
  ⟨xs[i], getElem?_pos xs i hi, h _ (by simp)⟩
def gallop' : Bool → Keyed → Array Keyed → Nat → Nat → Nat → StateT SortSt Sem (Option Nat) := sortPriv% PySem.Builtin.gallop
def mergeLo' : Array Keyed → Array Keyed → StateT SortSt Sem (Array Keyed) := sortPriv% PySem.Builtin.mergeLo
def mergeHi' : Array Keyed → Array Keyed → StateT SortSt Sem (Array Keyed) := sortPriv% PySem.Builtin.mergeHi
def setMinGallop' : Nat → StateT SortSt Sem Unit := sortPriv% PySem.Builtin.setMinGallop
section
variable {prog : Program} {w : World} {A : Around} {E : Value → Shared → Prop} {s : Shared} {a0 : Array Keyed}
theorem wpS_elem {arr : Array Keyed} {i : Nat} {p : Keyed} {Q : Keyed → SortSt → Prop} {st : SortSt} (hp : arr[i]? = some p) (h : Q p st) : wpS (model prog w) A E s (elem' arr i) Q st := by
  rw [elem'_eq, hp]; exact wpS_pure h
/-- the state is a good one with that pending stack -/
def G (a0 : Array Keyed) (pe : Array (Nat × Nat × Nat)) (st : SortSt) : Prop := SI a0 st ∧ pendingOf st = pe

theorem setMin'_eq (g : Nat) : setMinGallop' g = modify fun s => SortSt.mk' (kindOf s) (arrOf s) (pendingOf s) g (failedOf s) := rfl
/-- what was laid out so far -/
def Laid (a b : Array Keyed) (ia ib : Nat) (out : Array Keyed) : Prop := out.toList.Perm (a.toList.take ia ++ b.toList.take ib)
theorem take_at {xs : Array Keyed} {i : Nat} {p : Keyed} (h : xs[i]? = some p) : xs.toList.take (i + 1) = xs.toList.take i ++ [p] := by
  have h' : xs.toList[i]? = some p := by simpa using h
  rw [List.take_add_one, h']; rfl
theorem Laid.b {a b : Array Keyed} {ia ib : Nat} {out : Array Keyed} (h : Laid a b ia ib out) {p : Keyed} (hp : b[ib]? = some p) : Laid a b ia (ib + 1) (out.push p) := by
  unfold Laid at h ⊢
  rw [take_at hp, Array.toList_push, ← List.append_assoc]
  exact h.append_right _
theorem Laid.a {a b : Array Keyed} {ia ib : Nat} {out : Array Keyed} (h : Laid a b ia ib out) {p : Keyed} (hp : a[ia]? = some p) : Laid a b (ia + 1) ib (out.push p) := by
  unfold Laid at h ⊢
  rw [take_at hp, Array.toList_push, List.append_assoc]
  refine (h.append_right _).trans ?_
  rw [List.append_assoc]
  exact (List.perm_append_comm).append_left _
theorem ext_list (xs : Array Keyed) (i j : Nat) : (xs.extract i j).toList = (xs.toList.take j).drop i := by
  rw [Array.toList_extract, List.extract_eq_take_drop, List.drop_take]
theorem take_ext (xs : Array Keyed) (i k : Nat) : xs.toList.take (i + k) = xs.toList.take i ++ (xs.extract i (i + k)).toList := by
  rw [ext_list]
  have := List.take_append_drop i (xs.toList.take (i + k))
  rw [List.take_take, Nat.min_eq_left (by omega)] at this
  exact this.symm
theorem Laid.ak {a b : Array Keyed} {ia ib : Nat} {out : Array Keyed} (h : Laid a b ia ib out) (k : Nat) : Laid a b (ia + k) ib (out ++ a.extract ia (ia + k)) := by
  unfold Laid at h ⊢
  rw [take_ext, Array.toList_append, List.append_assoc]
  refine (h.append_right _).trans ?_
  rw [List.append_assoc]
  exact (List.perm_append_comm).append_left _
theorem Laid.bk {a b : Array Keyed} {ia ib : Nat} {out : Array Keyed} (h : Laid a b ia ib out) (k : Nat) : Laid a b ia (ib + k) (out ++ b.extract ib (ib + k)) := by
  unfold Laid at h ⊢
  rw [take_ext, Array.toList_append, ← List.append_assoc]
  exact h.append_right _
theorem Laid.all {a b : Array Keyed} {ia ib : Nat} {out : Array Keyed} (h : Laid a b ia ib out) (ha : ia ≤ a.size) (hb : ib ≤ b.size) :
    (out ++ a.extract ia a.size ++ b.extract ib b.size).toList.Perm (a.toList ++ b.toList) := by
  obtain ⟨j, hj⟩ : ∃ j, a.size = ia + j := ⟨a.size - ia, by omega⟩
  obtain ⟨k, hk⟩ : ∃ k, b.size = ib + k := ⟨b.size - ib, by omega⟩
  have q := (h.ak j).bk k
  rw [← hj, ← hk] at q
  unfold Laid at q
  rw [List.take_of_length_le (by simp), List.take_of_length_le (by simp)] at q
  exact q
theorem Laid.all' {a b : Array Keyed} {ia ib : Nat} {out : Array Keyed} (h : Laid a b ia ib out) (ha : ia ≤ a.size) (hb : ib ≤ b.size) :
    (out ++ b.extract ib b.size ++ a.extract ia a.size).toList.Perm (a.toList ++ b.toList) := by
  obtain ⟨j, hj⟩ : ∃ j, a.size = ia + j := ⟨a.size - ia, by omega⟩
  obtain ⟨k, hk⟩ : ∃ k, b.size = ib + k := ⟨b.size - ib, by omega⟩
  have q := (h.bk k).ak j
  rw [← hj, ← hk] at q
  unfold Laid at q
  rw [List.take_of_length_le (by simp), List.take_of_length_le (by simp)] at q
  exact q
theorem wpS_ite {α : Type} {c : Prop} [Decidable c] {t e : StateT SortSt Sem α} {Q : α → SortSt → Prop} {st : SortSt} {M : Model} (h1 : c → wpS M A E s t Q st) (h2 : ¬ c → wpS M A E s e Q st) :
    wpS M A E s (if c then t else e) Q st := by
  by_cases h : c
  · rw [if_pos h]; exact h1 h
  · rw [if_neg h]; exact h2 h
theorem wpS_iteB {α : Type} {x y : Nat} {t e : StateT SortSt Sem α} {Q : α → SortSt → Prop} {st : SortSt} {M : Model} (h1 : x = y → wpS M A E s t Q st) (h2 : x ≠ y → wpS M A E s e Q st) :
    wpS M A E s (if (x == y) = true then t else e) Q st :=
  wpS_ite (fun h => h1 (by simpa using h)) fun h => h2 (by simpa using h)
theorem wpS_elemB {arr : Array Keyed} {i : Nat} {Q : Keyed → SortSt → Prop} {st : SortSt} (ha : IntKeys arr) (hi : i < arr.size) (h : ∀ p, arr[i]? = some p → (∃ n t, p.1 = Value.int n t) → Q p st) :
    wpS (model prog w) A E s (elem' arr i) Q st := by
  obtain ⟨p, e, k⟩ := ik_at ha hi
  exact wpS_elem e (h p e k)
/-- as G, and the array is xs -/
def GX (a0 : Array Keyed) (pe : Array (Nat × Nat × Nat)) (xs : Array Keyed) (st : SortSt) : Prop := G a0 pe st ∧ arrOf st = xs
theorem wpS_setMin {g : Nat} {pe : Array (Nat × Nat × Nat)} {xs : Array Keyed} {Q : Unit → SortSt → Prop} {st : SortSt} (hB : GX a0 pe xs st) (h : ∀ st', GX a0 pe xs st' → Q () st') :
    wpS (model prog w) A E s (setMinGallop' g) Q st := by
  rw [setMin'_eq]
  exact wpS_modify (h _ ⟨⟨⟨hB.1.1.perm, hB.1.1.kind, hB.1.1.failed⟩, hB.1.2⟩, hB.2⟩)
structure Mid (a b : Array Keyed) (c0 ia ib : Nat) (out : Array Keyed) : Prop where
  laid : Laid a b ia ib out
  ha : ia + 1 < a.size
  hb : ib < b.size
  pr : c0 ≤ ia + ib
/-- what was laid out from behind so far -/
def LaidH (a b : Array Keyed) (na nb : Nat) (out : Array Keyed) : Prop := out.toList.Perm (a.toList.drop na ++ b.toList.drop nb)
theorem drop_at {xs : Array Keyed} {i : Nat} {p : Keyed} (h : xs[i]? = some p) : xs.toList.drop i = p :: xs.toList.drop (i + 1) := by
  have h' : xs.toList[i]? = some p := by simpa using h
  obtain ⟨hi, e⟩ := List.getElem?_eq_some_iff.mp h'
  rw [List.drop_eq_getElem_cons hi, e]
theorem LaidH.b {a b : Array Keyed} {na nb : Nat} {out : Array Keyed} (h : LaidH a b na nb out) (h1 : 1 ≤ nb) {p : Keyed} (hp : b[nb - 1]? = some p) : LaidH a b na (nb - 1) (out.push p) := by
  unfold LaidH at h ⊢
  rw [drop_at hp, Array.toList_push, Nat.sub_add_cancel h1]
  refine (h.append_right _).trans ?_
  rw [List.append_assoc]
  exact (List.perm_append_comm).append_left _
theorem LaidH.a {a b : Array Keyed} {na nb : Nat} {out : Array Keyed} (h : LaidH a b na nb out) (h1 : 1 ≤ na) {p : Keyed} (hp : a[na - 1]? = some p) : LaidH a b (na - 1) nb (out.push p) := by
  unfold LaidH at h ⊢
  rw [drop_at hp, Array.toList_push, Nat.sub_add_cancel h1]
  refine (h.append_right _).trans ?_
  exact List.perm_append_singleton _ _
theorem drop_ext (xs : Array Keyed) {i j : Nat} (h : i ≤ j) : xs.toList.drop i = (xs.extract i j).toList ++ xs.toList.drop j := by
  rw [ext_list]
  obtain ⟨k, rfl⟩ : ∃ k, j = i + k := ⟨j - i, by omega⟩
  rw [List.drop_take, Nat.add_sub_cancel_left, ← List.drop_drop, List.take_append_drop]
theorem LaidH.ak {a b : Array Keyed} {na nb : Nat} {out : Array Keyed} (h : LaidH a b na nb out) {k : Nat} (hk : k ≤ na) : LaidH a b k nb (out ++ (a.extract k na).reverse) := by
  unfold LaidH at h ⊢
  rw [drop_ext a hk, Array.toList_append, Array.toList_reverse]
  refine (h.append_right _).trans ?_
  refine (List.Perm.append_left _ (List.reverse_perm _)).trans ?_
  refine List.perm_append_comm.trans ?_
  rw [List.append_assoc]
theorem LaidH.bk {a b : Array Keyed} {na nb : Nat} {out : Array Keyed} (h : LaidH a b na nb out) {k : Nat} (hk : k ≤ nb) : LaidH a b na k (out ++ (b.extract k nb).reverse) := by
  unfold LaidH at h ⊢
  rw [drop_ext b hk, Array.toList_append, Array.toList_reverse]
  refine (h.append_right _).trans ?_
  refine (List.Perm.append_left _ (List.reverse_perm _)).trans ?_
  rw [List.append_assoc]
  exact (List.perm_append_comm).append_left _
theorem LaidH.all {a b : Array Keyed} {na nb : Nat} {out : Array Keyed} (h : LaidH a b na nb out) :
    (a.extract 0 na ++ b.extract 0 nb ++ out.reverse).toList.Perm (a.toList ++ b.toList) := by
  unfold LaidH at h
  rw [Array.toList_append, Array.toList_append, Array.toList_reverse, ext_list, ext_list, List.drop_zero, List.drop_zero]
  refine (List.Perm.append_left _ ((List.reverse_perm _).trans h)).trans ?_
  rw [List.append_assoc, ← List.append_assoc (b.toList.take nb)]
  refine (List.Perm.append_left _ (List.perm_append_comm.append_right _)).trans ?_
  rw [List.append_assoc, ← List.append_assoc, List.take_append_drop, List.take_append_drop]
theorem LaidH.all' {a b : Array Keyed} {na nb : Nat} {out : Array Keyed} (h : LaidH a b na nb out) :
    (b.extract 0 nb ++ a.extract 0 na ++ out.reverse).toList.Perm (a.toList ++ b.toList) := by
  refine List.Perm.trans ?_ h.all
  rw [Array.toList_append, Array.toList_append, Array.toList_append, Array.toList_append]
  exact List.perm_append_comm.append_right _
structure MidH (a b : Array Keyed) (c0 na nb : Nat) (out : Array Keyed) : Prop where
  laid : LaidH a b na nb out
  ha : 1 ≤ na
  ha2 : na ≤ a.size
  hb : 2 ≤ nb
  hb2 : nb ≤ b.size
  pr : c0 + na + nb ≤ a.size + b.size
theorem wpS_set {st st1 : SortSt} {M : Model} {Q : PUnit → SortSt → Prop} (h : Q ⟨⟩ st1) : wpS M A E s (set st1 : StateT SortSt Sem PUnit) Q st := by
  unfold wpS; rw [StateT.run_set]; exact wpAny_pure ⟨rfl, h⟩
theorem keys_ext {xs : Array Keyed} (h : IntKeys xs) (i j : Nat) : IntKeys (xs.extract i j) := fun p hp => by
  rw [ext_list] at hp
  exact h p (List.mem_of_mem_take (List.mem_of_mem_drop hp))
/-- writing ys at place k on -/
theorem put_at (ys : List Keyed) : ∀ (j k : Nat) (xs : Array Keyed), k + j + ys.length ≤ xs.size →
    ((ys.zipIdx j).foldl (fun a (pj : Keyed × Nat) => a.setIfInBounds (k + pj.2) pj.1) xs).toList = xs.toList.take (k + j) ++ ys ++ xs.toList.drop (k + j + ys.length) := by
  induction ys with
  | nil => intro j k xs _; simp
  | cons y ys ih =>
    intro j k xs h
    simp only [List.length_cons] at h
    rw [List.zipIdx_cons, List.foldl_cons, ih (j + 1) k _ (by rw [Array.size_setIfInBounds]; omega)]
    rw [Array.toList_setIfInBounds]
    have hl : k + j < xs.toList.length := by simp; omega
    rw [show k + (j + 1) = (k + j) + 1 by omega, List.take_add_one, List.getElem?_set_self hl]
    rw [List.take_set_of_le (by omega), List.drop_set_of_lt (by omega)]
    simp only [Option.toList_some, List.append_assoc, List.length_cons, List.cons_append, List.nil_append]
    rw [show k + j + 1 + ys.length = k + j + (ys.length + 1) by omega]
theorem three_perm {l : List Keyed} {i j k : Nat} (hij : i ≤ j) (hjk : j ≤ k) {m : List Keyed} (h : m.Perm ((l.take j).drop i ++ (l.take k).drop j)) : (l.take i ++ m ++ l.drop k).Perm l := by
  have e : l = l.take i ++ ((l.take j).drop i ++ (l.take k).drop j) ++ l.drop k := by
    have e1 : l.take j = l.take i ++ (l.take j).drop i := by
      have := List.take_append_drop i (l.take j)
      rw [List.take_take, Nat.min_eq_left hij] at this; exact this.symm
    have e2 : l.take k = l.take j ++ (l.take k).drop j := by
      have := List.take_append_drop j (l.take k)
      rw [List.take_take, Nat.min_eq_left hjk] at this; exact this.symm
    rw [← List.append_assoc, ← e1, ← e2, List.take_append_drop]
  conv => rhs; rw [e]
  exact (h.append_left _).append_right _
theorem ite_lt2 {c : Prop} [Decidable c] {x y z : Nat} (h1 : x + 1 < z) (h2 : y + 1 < z) : (if c then x else y) + 1 < z := by
  by_cases h : c <;> simp [h, h1, h2]
end
end SB

set_option Elab.async false
set_option maxRecDepth 100000
set_option maxHeartbeats 4000000
namespace SB
open PySem PyProof.Rows

/-- the key of a thing that is sorted -/
abbrev ks (p : Keyed) : Int := numOf p.1
/-- sorted from place i to before place j -/
def Up (xs : Array Keyed) (i j : Nat) : Prop := ∀ k m, i ≤ k → k ≤ m → m < j → K xs k ≤ K xs m
def Dn (xs : Array Keyed) (i j : Nat) : Prop := ∀ k m, i ≤ k → k ≤ m → m < j → K xs m ≤ K xs k
theorem K_at {xs : Array Keyed} {i : Nat} {p : Keyed} (h : xs[i]? = some p) : K xs i = ks p := by unfold K; rw [h]
theorem Up.one (xs : Array Keyed) (i : Nat) : Up xs i (i + 1) := fun k m h1 h2 h3 => by
  obtain rfl : k = m := by omega
  exact Int.le_refl _
theorem Up.snoc {xs : Array Keyed} {i j : Nat} (h : Up xs i j) (hj : K xs (j - 1) ≤ K xs j) : Up xs i (j + 1) := fun k m h1 h2 h3 => by
  by_cases e : m < j
  · exact h k m h1 h2 e
  obtain rfl : m = j := by omega
  by_cases e2 : k = m
  · subst e2; exact Int.le_refl _
  exact Int.le_trans (h k (m - 1) h1 (by omega) (by omega)) hj
theorem Dn.snoc {xs : Array Keyed} {i j : Nat} (h : Dn xs i j) (hj : K xs j ≤ K xs (j - 1)) : Dn xs i (j + 1) := fun k m h1 h2 h3 => by
  by_cases e : m < j
  · exact h k m h1 h2 e
  obtain rfl : m = j := by omega
  by_cases e2 : k = m
  · subst e2; exact Int.le_refl _
  exact Int.le_trans hj (h k (m - 1) h1 (by omega) (by omega))
theorem Up.eqK {xs ys : Array Keyed} {i j : Nat} (h : Up xs i j) (e : ∀ k, i ≤ k → k < j → K ys k = K xs k) : Up ys i j := fun k m h1 h2 h3 => by
  rw [e k h1 (by omega), e m (by omega) h3]; exact h k m h1 h2 h3
theorem Dn.eqK {xs ys : Array Keyed} {i j : Nat} (h : Dn xs i j) (e : ∀ k, i ≤ k → k < j → K ys k = K xs k) : Dn ys i j := fun k m h1 h2 h3 => by
  rw [e k h1 (by omega), e m (by omega) h3]; exact h k m h1 h2 h3
theorem Dn.mir {xs : Array Keyed} {i j : Nat} (h : Dn xs i j) (hj : j ≤ xs.size) : Up (mirror xs i j ((j - i) / 2)) i j := fun k m h1 h2 h3 => by
  rw [K_mirror hj, K_mirror hj, if_pos (by omega), if_pos (by omega)]
  exact h _ _ (by omega) (by omega) (by omega)
/-- below place lo nothing is moved -/
def Low (lo : Nat) (xs ys : Array Keyed) : Prop := ∀ k, k < lo → K ys k = K xs k
theorem Low.refl (lo : Nat) (xs : Array Keyed) : Low lo xs xs := fun _ _ => rfl
theorem Low.trans {lo : Nat} {xs ys zs : Array Keyed} (h : Low lo xs ys) (h2 : Low lo ys zs) : Low lo xs zs := fun k hk => (h2 k hk).trans (h k hk)
theorem Low.mir {lo : Nat} {xs : Array Keyed} {i j : Nat} (hi : lo ≤ i) (hj : j ≤ xs.size) : Low lo xs (mirror xs i j ((j - i) / 2)) := fun k hk => by
  rw [K_mirror hj, if_neg (by omega)]
section
variable {prog : Program} {w : World} {A : Around} {E : Value → Shared → Prop} {s : Shared} {a0 : Array Keyed}
theorem wpS_ltP {x y : Keyed} {st : SortSt} {Q : Option Bool → SortSt → Prop} (hk : kindOf st = oneType') (hx : ∃ n t, x.1 = Value.int n t) (hy : ∃ n t, y.1 = Value.int n t)
    (h : Q (some (decide (ks x < ks y))) st) : wpS (model prog w) A E s (lt' x y) Q st := by
  obtain ⟨n, t, ex⟩ := hx
  obtain ⟨m, u, ey⟩ := hy
  have e1 : ks x = n := by unfold ks; rw [ex]; rfl
  have e2 : ks y = m := by unfold ks; rw [ey]; rfl
  rw [e1, e2] at h
  rw [lt'_eq]
  refine wpS_bind (wpS_get ?_)
  rw [hk, keyLt'_oneType, ex, ey]
  exact wpS_bind (wpS_lift (wpAny_attempt (oneLt_int ⟨rfl, wpS_pure h⟩)))
theorem wpS_ltI {i j : Nat} {st : SortSt} {Q : Option Bool → SortSt → Prop} (hB : SI a0 st) (h0 : IntKeys a0) (hi : i < a0.size) (hj : j < a0.size)
    (h : ∀ b : Bool, (b = true ↔ K (arrOf st) i < K (arrOf st) j) → Q (some b) st) : wpS (model prog w) A E s (ltAt' i j) Q st := by
  obtain ⟨p, e1, k1⟩ := ik_at (hB.keys h0) (i := i) (by rw [hB.size]; exact hi)
  obtain ⟨q, e2, k2⟩ := ik_at (hB.keys h0) (i := j) (by rw [hB.size]; exact hj)
  rw [ltAt'_eq]
  refine wpS_bind (wpS_get ?_)
  refine wpS_bind (wpS_elem e1 (wpS_bind (wpS_elem e2 (wpS_ltP hB.kind k1 k2 (h _ ?_)))))
  rw [K_at e1, K_at e2]; simp
theorem wpS_revI {st : SortSt} {i j : Nat} {Q : Unit → SortSt → Prop} (hB : SI a0 st) (h : ∀ st', SI a0 st' → pendingOf st' = pendingOf st → arrOf st' = mirror (arrOf st) i j ((j - i) / 2) → Q () st') :
    wpS (model prog w) A E s (reverseSlice' i j) Q st := by
  rw [reverseSlice'_eq]; exact wpS_modify (h _ (hB.setArr (mirror_perm _ _ _ _)) rfl rfl)
theorem wpS_downI {st : SortSt} {i j : Nat} {Q : Unit → SortSt → Prop} (hB : SI a0 st) (h : ∀ st', SI a0 st' → pendingOf st' = pendingOf st → arrOf st' = bubble (arrOf st) i (i - j) → Q () st') :
    wpS (model prog w) A E s (moveDown' i j) Q st := by
  rw [moveDown'_eq]; exact wpS_modify (h _ (hB.setArr (bubble_perm _ _ _)) rfl rfl)

/-- a good state; the places below lo are as in ys -/
def GL (a0 : Array Keyed) (pe : Array (Nat × Nat × Nat)) (lo : Nat) (ys : Array Keyed) (st : SortSt) : Prop := G a0 pe st ∧ Low lo ys (arrOf st)
/-- falling so far, the last q + 1 alike -/
structure Fall (xs : Array Keyed) (lo x q : Nat) : Prop where
  dn : Dn xs lo (lo + x)
  q1 : q + 1 ≤ x
  eq : ∀ i, lo + x - (q + 1) ≤ i → i < lo + x → K xs i = K xs (lo + x - 1)
theorem Fall.zero {xs : Array Keyed} {lo x : Nat} (h : Dn xs lo (lo + x)) (h1 : 1 ≤ x) : Fall xs lo x 0 := ⟨h, h1, fun i h2 h3 => by congr 1; omega⟩
theorem Fall.less {xs : Array Keyed} {lo x q : Nat} (h : Fall xs lo x q) (hl : K xs (lo + x) < K xs (lo + x - 1)) : Fall xs lo (x + 1) 0 :=
  .zero (h.dn.snoc (Int.le_of_lt hl)) (by omega)
theorem Fall.mir {xs : Array Keyed} {lo x q : Nat} (h : Fall xs lo x q) (hz : lo + x ≤ xs.size) (k : Nat) :
    K (mirror xs (lo + x - (q + 1)) (lo + x) ((lo + x - (lo + x - (q + 1))) / 2)) k = K xs k := K_mirror_equal hz h.eq k
theorem Fall.like {xs : Array Keyed} {lo x q : Nat} (h : Fall xs lo x q) (h1 : ¬ K xs (lo + x) < K xs (lo + x - 1)) (h2 : ¬ K xs (lo + x - 1) < K xs (lo + x)) : Fall xs lo (x + 1) (q + 1) := by
  have e : K xs (lo + x) = K xs (lo + x - 1) := by omega
  have := h.q1
  refine ⟨h.dn.snoc (by omega), by omega, fun i h3 h4 => ?_⟩
  rw [show lo + (x + 1) - 1 = lo + x by omega]
  by_cases hi : i = lo + x
  · rw [hi]
  · rw [e]; exact h.eq i (by omega) (by omega)

theorem count_s {lo nrem : Nat} {pe : Array (Nat × Nat × Nat)} {ys : Array Keyed} {st : SortSt} {Q : Option Nat → SortSt → Prop} (h0 : IntKeys a0) (hn : lo + nrem ≤ a0.size) (h1 : 1 ≤ nrem) (hB : GL a0 pe lo ys st)
    (h : ∀ m st', GL a0 pe lo ys st' → 1 ≤ m → m ≤ nrem → Up (arrOf st') lo (lo + m) → Q (some m) st') : wpS (model prog w) A E s (countRun' lo nrem) Q st := by
  rw [countRun'_eq]
  refine wpS_bind (wpS_mono (wpS_forRange (I := fun x c st' => c = (none, x) ∧ GL a0 pe lo ys st' ∧ Up (arrOf st') lo (lo + x)) (Q := fun c st' => ∃ m, c = (none, m) ∧ 1 ≤ m ∧ m ≤ nrem ∧ GL a0 pe lo ys st' ∧ Up (arrOf st') lo (lo + m) ∧ (m = nrem ∨ K (arrOf st') (lo + m) < K (arrOf st') (lo + m - 1))) ?s1 ?f1 ⟨rfl, hB, Up.one _ _⟩) ?p1)
  case f1 => rintro c st' ⟨rfl, g, U⟩; exact ⟨_, rfl, by omega, by omega, g, U, .inl (by omega)⟩
  case s1 =>
    rintro x c st' hx1 hx2 ⟨rfl, g, U⟩
    refine wpS_bind (wpS_ltI g.1.1 h0 (by omega) (by omega) fun b hb => ?_)
    cases b
    · exact wpS_pure ⟨rfl, g, U.snoc (Int.not_lt.mp fun z => by cases hb.mpr z)⟩
    · exact wpS_pure ⟨x, rfl, hx1, by omega, g, U, .inr (hb.mp rfl)⟩
  case p1 =>
    rintro c st' ⟨m, rfl, hm1, hm2, g, U, hor⟩
    dsimp only
    by_cases hnn : m = nrem
    · rw [if_pos (by simpa using hnn)]
      exact wpS_pure (h _ _ g hm1 hm2 U)
    rw [if_neg (by simpa using hnn)]
    have hlt := hor.resolve_left hnn
    by_cases hgt : m > 1
    · rw [if_pos hgt]
      refine wpS_bind (wpS_ltI g.1.1 h0 (by omega) (by omega) fun b hb => ?_)
      cases b
      · have hb : ¬ K (arrOf st') lo < K (arrOf st') (lo + m - 1) := fun z => by cases hb.mpr z
        dsimp only
        rw [if_neg (by decide)]
        have hz : lo + m ≤ (arrOf st').size := by rw [g.1.1.size]; omega
        have al : ∀ k, lo ≤ k → k < lo + m → K (arrOf st') k = K (arrOf st') (lo + m - 1) := fun k h1 h2 => by
          have q1 := U lo k (Nat.le_refl _) h1 h2
          have q2 := U k (lo + m - 1) h1 (by omega) (by omega)
          omega
        refine wpS_bind (wpS_revI g.1.1 fun st1 b1 e1 a1 => ?_)
        have eK : ∀ k, K (arrOf st1) k = K (arrOf st') k := fun k => by rw [a1]; exact K_mirror_equal hz al k
        have F : Fall (arrOf st1) lo (m + 1) 0 := by
          refine .zero (Dn.eqK (xs := arrOf st') ?_ fun k _ _ => eK k) (by omega)
          refine Dn.snoc (i := lo) (j := lo + m) (fun k n h1 h2 h3 => ?_) (Int.le_of_lt hlt)
          rw [al k h1 (by omega), al n (by omega) h3]; exact Int.le_refl _
        have g : GL a0 pe lo ys st1 := ⟨⟨b1, e1.trans g.1.2⟩, fun k hk => (eK k).trans (g.2 k hk)⟩
        refine wpS_bind (wpS_lift (wpAny_rule ⟨rfl, ?_⟩))
        refine wpS_bind (wpS_mono (wpS_forRange (I := fun x c st' => ∃ q, c = (none, x, q) ∧ GL a0 pe lo ys st' ∧ Fall (arrOf st') lo x q) (Q := fun c st' => ∃ m q, c = (none, m, q) ∧ m ≤ nrem ∧ GL a0 pe lo ys st' ∧ Fall (arrOf st') lo m q) ?_ ?_ ⟨0, rfl, g, F⟩) ?_)
        · rintro x c st' hx1 hx2 ⟨q, rfl, g, F⟩
          dsimp only
          have hz : lo + x ≤ (arrOf st').size := by rw [g.1.1.size]; omega
          refine wpS_bind (wpS_ltI g.1.1 h0 (by omega) (by omega) fun b hb => ?_)
          cases b
          · have hb : ¬ K (arrOf st') (lo + x) < K (arrOf st') (lo + x - 1) := fun z => by cases hb.mpr z
            refine wpS_bind (wpS_ltI g.1.1 h0 (by omega) (by omega) fun b hb2 => ?_)
            cases b
            · exact wpS_pure ⟨_, rfl, g, F.like hb fun z => by cases hb2.mpr z⟩
            · exact wpS_pure ⟨x, q, rfl, by omega, g, F⟩
          · have hb := hb.mp rfl
            by_cases hq : q > 0
            · simp only [if_pos hq, if_true]
              refine wpS_bind (wpS_revI g.1.1 fun st2 b2 e2 a2 => wpS_pure ⟨0, rfl, ⟨⟨b2, e2.trans g.1.2⟩, fun k hk => ?_⟩, ?_⟩)
              · rw [a2, F.mir hz]; exact g.2 k hk
              · rw [a2]
                exact .zero ((F.less hb).dn.eqK fun k _ _ => F.mir hz k) (by omega)
            · simp only [if_neg hq, if_true]
              exact wpS_pure ⟨0, rfl, g, F.less hb⟩
        · rintro c st' ⟨q, rfl, g, F⟩; exact ⟨_, _, rfl, by omega, g, F⟩
        · rintro c st' ⟨m, q, rfl, hm2, g, F⟩
          dsimp only
          have hm1 := F.q1
          have hz : lo + m ≤ (arrOf st').size := by rw [g.1.1.size]; omega
          by_cases hq : q > 0
          · rw [if_pos hq]
            refine wpS_bind (wpS_revI g.1.1 fun st2 b2 e2 a2 => wpS_bind (wpS_revI b2 fun st3 b3 e3 a3 => ?_))
            have hz2 : lo + m ≤ (arrOf st2).size := by rw [b2.size]; omega
            have D2 : Dn (arrOf st2) lo (lo + m) := by rw [a2]; exact F.dn.eqK fun k _ _ => F.mir hz k
            have L2 : Low lo ys (arrOf st2) := by rw [a2]; exact fun k hk => (F.mir hz k).trans (g.2 k hk)
            have U : Up (arrOf st3) lo (lo + m) := by rw [a3]; exact D2.mir hz2
            have L3 : Low lo ys (arrOf st3) := by rw [a3]; exact L2.trans (Low.mir (Nat.le_refl _) hz2)
            refine wpS_bind (wpS_mono (wpS_forRange (I := fun x c st' => c = (none, x) ∧ GL a0 pe lo ys st' ∧ Up (arrOf st') lo (lo + x)) (Q := fun c st' => ∃ m, c = (none, m) ∧ 1 ≤ m ∧ m ≤ nrem ∧ GL a0 pe lo ys st' ∧ Up (arrOf st') lo (lo + m)) ?_ ?_ ⟨rfl, ⟨⟨b3, e3.trans (e2.trans g.1.2)⟩, L3⟩, U⟩) ?_)
            · rintro x c st' hx1 hx2 ⟨rfl, g, U⟩
              dsimp only
              refine wpS_bind (wpS_ltI g.1.1 h0 (by omega) (by omega) fun b hb => ?_)
              cases b
              · exact wpS_pure ⟨rfl, g, U.snoc (Int.not_lt.mp fun z => by cases hb.mpr z)⟩
              · exact wpS_pure ⟨x, rfl, by omega, by omega, g, U⟩
            · rintro c st' ⟨rfl, g, U⟩; exact ⟨_, rfl, by omega, by omega, g, U⟩
            · rintro c st' ⟨m, rfl, hm1, hm2, g, U⟩
              exact wpS_pure (h _ _ g hm1 hm2 U)
          · rw [if_neg hq]
            refine wpS_bind (wpS_revI g.1.1 fun st3 b3 e3 a3 => ?_)
            have e2 : pendingOf st' = pendingOf st' := rfl
            have U : Up (arrOf st3) lo (lo + m) := by rw [a3]; exact F.dn.mir hz
            have L3 : Low lo ys (arrOf st3) := by rw [a3]; exact g.2.trans (Low.mir (Nat.le_refl _) hz)
            refine wpS_bind (wpS_mono (wpS_forRange (I := fun x c st' => c = (none, x) ∧ GL a0 pe lo ys st' ∧ Up (arrOf st') lo (lo + x)) (Q := fun c st' => ∃ m, c = (none, m) ∧ 1 ≤ m ∧ m ≤ nrem ∧ GL a0 pe lo ys st' ∧ Up (arrOf st') lo (lo + m)) ?_ ?_ ⟨rfl, ⟨⟨b3, e3.trans (e2.trans g.1.2)⟩, L3⟩, U⟩) ?_)
            · rintro x c st' hx1 hx2 ⟨rfl, g, U⟩
              dsimp only
              refine wpS_bind (wpS_ltI g.1.1 h0 (by omega) (by omega) fun b hb => ?_)
              cases b
              · exact wpS_pure ⟨rfl, g, U.snoc (Int.not_lt.mp fun z => by cases hb.mpr z)⟩
              · exact wpS_pure ⟨x, rfl, by omega, by omega, g, U⟩
            · rintro c st' ⟨rfl, g, U⟩; exact ⟨_, rfl, by omega, by omega, g, U⟩
            · rintro c st' ⟨m, rfl, hm1, hm2, g, U⟩
              exact wpS_pure (h _ _ g hm1 hm2 U)
      · exact wpS_pure (h _ _ g hm1 hm2 U)
    · rw [if_neg hgt]
      obtain rfl : m = 1 := by omega
      have F : Fall (arrOf st') lo (1 + 1) 0 := .zero (Dn.snoc (fun k n h1 h2 h3 => by obtain rfl : k = n := by omega
                                                                                       exact Int.le_refl _) (Int.le_of_lt hlt)) (by omega)
      refine wpS_bind (wpS_lift (wpAny_rule ⟨rfl, ?_⟩))
      refine wpS_bind (wpS_mono (wpS_forRange (I := fun x c st' => ∃ q, c = (none, x, q) ∧ GL a0 pe lo ys st' ∧ Fall (arrOf st') lo x q) (Q := fun c st' => ∃ m q, c = (none, m, q) ∧ m ≤ nrem ∧ GL a0 pe lo ys st' ∧ Fall (arrOf st') lo m q) ?_ ?_ ⟨0, rfl, g, F⟩) ?_)
      · rintro x c st' hx1 hx2 ⟨q, rfl, g, F⟩
        dsimp only
        have hz : lo + x ≤ (arrOf st').size := by rw [g.1.1.size]; omega
        refine wpS_bind (wpS_ltI g.1.1 h0 (by omega) (by omega) fun b hb => ?_)
        cases b
        · have hb : ¬ K (arrOf st') (lo + x) < K (arrOf st') (lo + x - 1) := fun z => by cases hb.mpr z
          refine wpS_bind (wpS_ltI g.1.1 h0 (by omega) (by omega) fun b hb2 => ?_)
          cases b
          · exact wpS_pure ⟨_, rfl, g, F.like hb fun z => by cases hb2.mpr z⟩
          · exact wpS_pure ⟨x, q, rfl, by omega, g, F⟩
        · have hb := hb.mp rfl
          by_cases hq : q > 0
          · simp only [if_pos hq, if_true]
            refine wpS_bind (wpS_revI g.1.1 fun st2 b2 e2 a2 => wpS_pure ⟨0, rfl, ⟨⟨b2, e2.trans g.1.2⟩, fun k hk => ?_⟩, ?_⟩)
            · rw [a2, F.mir hz]; exact g.2 k hk
            · rw [a2]
              exact .zero ((F.less hb).dn.eqK fun k _ _ => F.mir hz k) (by omega)
          · simp only [if_neg hq, if_true]
            exact wpS_pure ⟨0, rfl, g, F.less hb⟩
      · rintro c st' ⟨q, rfl, g, F⟩; exact ⟨_, _, rfl, by omega, g, F⟩
      · rintro c st' ⟨m, q, rfl, hm2, g, F⟩
        dsimp only
        have hm1 := F.q1
        have hz : lo + m ≤ (arrOf st').size := by rw [g.1.1.size]; omega
        by_cases hq : q > 0
        · rw [if_pos hq]
          refine wpS_bind (wpS_revI g.1.1 fun st2 b2 e2 a2 => wpS_bind (wpS_revI b2 fun st3 b3 e3 a3 => ?_))
          have hz2 : lo + m ≤ (arrOf st2).size := by rw [b2.size]; omega
          have D2 : Dn (arrOf st2) lo (lo + m) := by rw [a2]; exact F.dn.eqK fun k _ _ => F.mir hz k
          have L2 : Low lo ys (arrOf st2) := by rw [a2]; exact fun k hk => (F.mir hz k).trans (g.2 k hk)
          have U : Up (arrOf st3) lo (lo + m) := by rw [a3]; exact D2.mir hz2
          have L3 : Low lo ys (arrOf st3) := by rw [a3]; exact L2.trans (Low.mir (Nat.le_refl _) hz2)
          refine wpS_bind (wpS_mono (wpS_forRange (I := fun x c st' => c = (none, x) ∧ GL a0 pe lo ys st' ∧ Up (arrOf st') lo (lo + x)) (Q := fun c st' => ∃ m, c = (none, m) ∧ 1 ≤ m ∧ m ≤ nrem ∧ GL a0 pe lo ys st' ∧ Up (arrOf st') lo (lo + m)) ?_ ?_ ⟨rfl, ⟨⟨b3, e3.trans (e2.trans g.1.2)⟩, L3⟩, U⟩) ?_)
          · rintro x c st' hx1 hx2 ⟨rfl, g, U⟩
            dsimp only
            refine wpS_bind (wpS_ltI g.1.1 h0 (by omega) (by omega) fun b hb => ?_)
            cases b
            · exact wpS_pure ⟨rfl, g, U.snoc (Int.not_lt.mp fun z => by cases hb.mpr z)⟩
            · exact wpS_pure ⟨x, rfl, by omega, by omega, g, U⟩
          · rintro c st' ⟨rfl, g, U⟩; exact ⟨_, rfl, by omega, by omega, g, U⟩
          · rintro c st' ⟨m, rfl, hm1, hm2, g, U⟩
            exact wpS_pure (h _ _ g hm1 hm2 U)
        · rw [if_neg hq]
          refine wpS_bind (wpS_revI g.1.1 fun st3 b3 e3 a3 => ?_)
          have e2 : pendingOf st' = pendingOf st' := rfl
          have U : Up (arrOf st3) lo (lo + m) := by rw [a3]; exact F.dn.mir hz
          have L3 : Low lo ys (arrOf st3) := by rw [a3]; exact g.2.trans (Low.mir (Nat.le_refl _) hz)
          refine wpS_bind (wpS_mono (wpS_forRange (I := fun x c st' => c = (none, x) ∧ GL a0 pe lo ys st' ∧ Up (arrOf st') lo (lo + x)) (Q := fun c st' => ∃ m, c = (none, m) ∧ 1 ≤ m ∧ m ≤ nrem ∧ GL a0 pe lo ys st' ∧ Up (arrOf st') lo (lo + m)) ?_ ?_ ⟨rfl, ⟨⟨b3, e3.trans (e2.trans g.1.2)⟩, L3⟩, U⟩) ?_)
          · rintro x c st' hx1 hx2 ⟨rfl, g, U⟩
            dsimp only
            refine wpS_bind (wpS_ltI g.1.1 h0 (by omega) (by omega) fun b hb => ?_)
            cases b
            · exact wpS_pure ⟨rfl, g, U.snoc (Int.not_lt.mp fun z => by cases hb.mpr z)⟩
            · exact wpS_pure ⟨x, rfl, by omega, by omega, g, U⟩
          · rintro c st' ⟨rfl, g, U⟩; exact ⟨_, rfl, by omega, by omega, g, U⟩
          · rintro c st' ⟨m, rfl, hm1, hm2, g, U⟩
            exact wpS_pure (h _ _ g hm1 hm2 U)
theorem bins_s {lo n ok : Nat} {pe : Array (Nat × Nat × Nat)} {ys : Array Keyed} {st : SortSt} {Q : Bool → SortSt → Prop} (h0 : IntKeys a0) (hn : lo + n ≤ a0.size) (hok : ok ≤ n) (hB : GL a0 pe lo ys st) (hU : Up (arrOf st) lo (lo + ok))
    (h : ∀ st', GL a0 pe lo ys st' → Up (arrOf st') lo (lo + n) → Q true st') : wpS (model prog w) A E s (binarySort' lo n ok) Q st := by
  rw [binarySort'_eq]
  refine wpS_bind (wpS_mono (wpS_forRange (I := fun k c st' => c = (none, ()) ∧ GL a0 pe lo ys st' ∧ Up (arrOf st') lo (lo + min k n)) (Q := fun c st' => c = (none, ()) ∧ GL a0 pe lo ys st' ∧ Up (arrOf st') lo (lo + n)) ?_ ?_ ⟨rfl, hB, ?_⟩) ?_)
  · rintro k c st' hak hkn ⟨rfl, g, U⟩
    rw [Nat.min_eq_left (Nat.le_of_lt hkn)] at U
    refine wpS_bind (wpS_mono (wpS_forRange (I := fun x c st'' => ∃ l r, c = (none, l, r) ∧ st'' = st' ∧ l ≤ r ∧ r ≤ k ∧ r - l ≤ k - x ∧ (∀ i, i < l → K (arrOf st') (lo + i) ≤ K (arrOf st') (lo + k)) ∧ (∀ i, r ≤ i → i < k → K (arrOf st') (lo + k) < K (arrOf st') (lo + i)))
      (Q := fun c st'' => ∃ l r, c = (none, l, r) ∧ st'' = st' ∧ l ≤ k ∧ (∀ i, i < l → K (arrOf st') (lo + i) ≤ K (arrOf st') (lo + k)) ∧ (∀ i, l ≤ i → i < k → K (arrOf st') (lo + k) < K (arrOf st') (lo + i))) ?_ ?_ ⟨0, k, rfl, rfl, by omega, Nat.le_refl _, by omega, fun i hi => by omega, fun i h1 h2 => by omega⟩) ?_)
    · rintro x c st'' _ hxk ⟨l, r, rfl, rfl, hlr, hr, hm, f1, f2⟩
      dsimp only
      by_cases hge : l ≥ r
      · rw [if_pos hge]
        obtain rfl : l = r := by omega
        exact wpS_pure ⟨l, l, rfl, rfl, hr, f1, f2⟩
      · rw [if_neg hge]
        refine wpS_bind (wpS_ltI g.1.1 h0 (by omega) (by omega) fun b hb => ?_)
        cases b
        · have hb : ¬ K (arrOf st'') (lo + k) < K (arrOf st'') (lo + (l + r) / 2) := fun z => by cases hb.mpr z
          refine wpS_pure ⟨_, _, rfl, rfl, by omega, hr, by omega, fun i hi => ?_, f2⟩
          exact Int.le_trans (U (lo + i) (lo + (l + r) / 2) (by omega) (by omega) (by omega)) (Int.not_lt.mp hb)
        · refine wpS_pure ⟨_, _, rfl, rfl, by omega, by omega, by omega, f1, fun i h1 h2 => ?_⟩
          exact Int.lt_of_lt_of_le (hb.mp rfl) (U _ _ (by omega) (by omega) (by omega))
    · rintro c st'' ⟨l, r, rfl, rfl, hlr, hr, hm, f1, f2⟩
      obtain rfl : l = r := by omega
      exact ⟨l, l, rfl, rfl, hr, f1, f2⟩
    · rintro c st'' ⟨l, r, rfl, rfl, hl, f1, f2⟩
      refine wpS_bind (wpS_downI g.1.1 fun st2 b2 e2 a2 => wpS_pure ⟨rfl, ⟨⟨b2, e2.trans g.1.2⟩, ?_⟩, ?_⟩)
      · have hz : lo + k < (arrOf st'').size := by rw [g.1.1.size]; omega
        intro j hj
        rw [a2, K_bubble hz (by omega), if_neg (by omega), if_neg (by omega)]
        exact g.2 j hj
      · have hz : lo + k < (arrOf st'').size := by rw [g.1.1.size]; omega
        rw [Nat.min_eq_left (show k + 1 ≤ n by omega), a2]
        intro i j hi hij hj
        have F1 : ∀ i, lo ≤ i → i < lo + l → K (arrOf st'') i ≤ K (arrOf st'') (lo + k) := fun i q1 q2 => by
          have := f1 (i - lo) (by omega); rwa [show lo + (i - lo) = i by omega] at this
        have F2 : ∀ i, lo + l ≤ i → i < lo + k → K (arrOf st'') (lo + k) < K (arrOf st'') i := fun i q1 q2 => by
          have := f2 (i - lo) (by omega) (by omega); rwa [show lo + (i - lo) = i by omega] at this
        rw [K_bubble hz (by omega), K_bubble hz (by omega), show lo + k - (lo + k - (lo + l)) = lo + l by omega]
        repeat' split
        all_goals first
          | (exfalso; omega)
          | exact Int.le_refl _
          | exact F1 _ (by omega) (by omega)
          | exact Int.le_of_lt (F2 _ (by omega) (by omega))
          | exact U _ _ (by omega) (by omega) (by omega)
  · rintro c st' ⟨rfl, g, U⟩
    rw [show min (max (max ok 1) n) n = n by omega] at U
    exact ⟨rfl, g, U⟩
  · intro i j hi hij hj
    by_cases e : ok = 0
    · obtain rfl : i = j := by omega
      exact Int.le_refl _
    · exact hU i j hi hij (by omega)
  · rintro c st' ⟨rfl, g, U⟩; exact wpS_pure (h _ g U)
end
end SB

set_option Elab.async false
set_option maxRecDepth 100000
set_option maxHeartbeats 4000000
namespace SB
open PySem PyProof.Rows
section
variable {prog : Program} {w : World} {A : Around} {E : Value → Shared → Prop} {s : Shared} {a0 : Array Keyed}
/-- before the place that is looked for -/
def Ahead (left : Bool) (key : Keyed) (x : Int) : Prop := if left = true then x < ks key else x ≤ ks key
theorem ahead_le {left : Bool} {key : Keyed} {x y : Int} (h : Ahead left key y) (hxy : x ≤ y) : Ahead left key x := by
  unfold Ahead at h ⊢
  cases left
  · exact Int.le_trans hxy h
  · exact Int.lt_of_le_of_lt hxy h
theorem gallop_s {left : Bool} {key : Keyed} {arr : Array Keyed} {base n hint : Nat} {st : SortSt} {Q : Option Nat → SortSt → Prop} (hk : kindOf st = oneType') (hkey : ∃ i t, key.1 = Value.int i t) (ha : IntKeys arr)
    (hb : base + n ≤ arr.size) (hh : hint < n) (hs : Up arr base (base + n))
    (h : ∀ k, k ≤ n → (∀ i, i < k → Ahead left key (K arr (base + i))) → (∀ i, k ≤ i → i < n → ¬ Ahead left key (K arr (base + i))) → Q (some k) st) : wpS (model prog w) A E s (gallop' left key arr base n hint) Q st := by
  show wpS _ _ _ _ (_ >>= _) _ _
  have bey : ∀ (i : Nat) (Q' : Option Bool → SortSt → Prop), i < n → (∀ b : Bool, (b = true ↔ Ahead left key (K arr (base + i))) → Q' (some b) st) → wpS (model prog w) A E s (do
      let x ← elem' arr (base + i)
      if left then lt' x key else return (← lt' key x).map (!·)) Q' st := by
    intro i Q' hi q
    obtain ⟨p, e1, k1⟩ := ik_at ha (i := base + i) (by omega)
    rw [K_at e1] at q
    refine wpS_bind (wpS_elem e1 ?_)
    cases left
    · rw [if_neg (by decide)]
      refine wpS_bind (wpS_ltP hk hkey k1 (wpS_pure (q _ ?_)))
      simp [Ahead]
    · rw [if_pos rfl]
      refine wpS_ltP hk k1 hkey (q _ ?_)
      simp [Ahead]
  have up : ∀ i j, i ≤ j → j < n → Ahead left key (K arr (base + j)) → Ahead left key (K arr (base + i)) := fun i j h1 h2 h3 => ahead_le h3 (hs _ _ (by omega) (by omega) (by omega))
  generalize hF : (fun i => Ahead left key (K arr (base + i))) = F at *
  have eF : ∀ i, Ahead left key (K arr (base + i)) = F i := fun i => by rw [← hF]
  simp only [eF] at bey up h
  clear eF
  dsimp only
  refine wpS_bind (bey hint _ hh fun b hbh => ?_)
  cases b
  · have hbh : ¬ F hint := fun z => absurd (hbh.mpr z) (by decide)
    dsimp only
    rw [if_neg (by decide)]
    refine wpS_bind (wpS_mono (wpS_forRange (I := fun x c st' => ∃ l r, c = (none, l, r) ∧ l < r ∧ x + 1 ≤ r ∧ l ≤ hint ∧ ¬ F (hint - l) ∧ st = st') (Q := fun c st' => ∃ l r, c = (none, l, r) ∧ l < r ∧ l ≤ hint ∧ ¬ F (hint - l) ∧ (hint + 1 ≤ r ∨ F (hint - r)) ∧ st = st') ?_ ?_ ⟨_, _, rfl, by omega, by omega, by omega, hbh, rfl⟩) ?_)
    · rintro x c st' _ hx ⟨l, r, rfl, hlr, hxr, hl, f, rfl⟩
      dsimp only
      by_cases hge : r ≥ hint + 1
      · rw [if_pos hge]; exact wpS_pure ⟨l, r, rfl, hlr, hl, f, .inl hge, rfl⟩
      · rw [if_neg hge]
        refine wpS_bind (bey _ _ (by omega) fun b hbb => ?_)
        cases b
        · exact wpS_pure ⟨_, _, rfl, by omega, by omega, by omega, fun z => absurd (hbb.mpr z) (by decide), rfl⟩
        · exact wpS_pure ⟨_, _, rfl, hlr, hl, f, .inr (hbb.mp rfl), rfl⟩
    · rintro c st' ⟨l, r, rfl, hlr, hxr, hl, f, rfl⟩; exact ⟨l, r, rfl, hlr, hl, f, .inl (by omega), rfl⟩
    · rintro c st' ⟨l, r, rfl, hlr, hl, f, hor, rfl⟩
      have f1 : ∀ i, i < hint + 1 - min r (hint + 1) → F i := fun i hi => by
        rcases hor with z | z
        · omega
        · exact up i (hint - r) (by omega) (by omega) z
      have f2 : ∀ i, hint - l ≤ i → i < n → ¬ F i := fun i h1 h2 h3 => f (up (hint - l) i h1 h2 h3)
      have hlr : hint + 1 - min r (hint + 1) ≤ hint - l := by omega
      have hrn : hint - l ≤ n := by omega
      dsimp only
      refine wpS_bind (wpS_mono (wpS_forRange (I := fun x c st' => ∃ l r, c = (none, l, r) ∧ l ≤ r ∧ r ≤ n ∧ r - l ≤ n - x ∧ (∀ i, i < l → F i) ∧ (∀ i, r ≤ i → i < n → ¬ F i) ∧ st = st') (Q := fun c st' => ∃ l, c = (none, l, l) ∧ l ≤ n ∧ (∀ i, i < l → F i) ∧ (∀ i, l ≤ i → i < n → ¬ F i) ∧ st = st') ?_ ?_ ⟨_, _, rfl, hlr, hrn, by omega, f1, f2, rfl⟩) ?_)
      · rintro x c st' _ hx ⟨l, r, rfl, hlr, hr, hm, f1, f2, rfl⟩
        dsimp only
        by_cases hge : l ≥ r
        · rw [if_pos hge]
          obtain rfl : l = r := by omega
          exact wpS_pure ⟨l, rfl, hr, f1, f2, rfl⟩
        · rw [if_neg hge]
          refine wpS_bind (bey _ _ (by omega) fun b hbb => ?_)
          cases b
          · refine wpS_pure ⟨_, _, rfl, by omega, by omega, by omega, f1, fun i h1 h2 h3 => ?_, rfl⟩
            have := up (l + (r - l) / 2) i h1 h2 h3
            exact absurd (hbb.mpr this) (by decide)
          · exact wpS_pure ⟨_, _, rfl, by omega, hr, by omega, fun i h1 => up i _ (by omega) (by omega) (hbb.mp rfl), f2, rfl⟩
      · rintro c st' ⟨l, r, rfl, hlr, hr, hm, f1, f2, rfl⟩
        obtain rfl : l = r := by omega
        exact ⟨l, rfl, hr, f1, f2, rfl⟩
      · rintro c st' ⟨l, rfl, hr, f1, f2, rfl⟩
        exact wpS_pure (h _ hr f1 f2)
  · have hbh : F hint := hbh.mp rfl
    dsimp only
    rw [if_pos rfl]
    refine wpS_bind (wpS_mono (wpS_forRange (I := fun x c st' => ∃ l r, c = (none, l, r) ∧ l < r ∧ x + 1 ≤ r ∧ hint + l < n ∧ F (hint + l) ∧ st = st') (Q := fun c st' => ∃ l r, c = (none, l, r) ∧ l < r ∧ hint + l < n ∧ F (hint + l) ∧ (n - hint ≤ r ∨ ¬ F (hint + r)) ∧ st = st') ?_ ?_ ⟨_, _, rfl, by omega, by omega, by omega, hbh, rfl⟩) ?_)
    · rintro x c st' _ hx ⟨l, r, rfl, hlr, hxr, hl, f, rfl⟩
      dsimp only
      by_cases hge : r ≥ n - hint
      · rw [if_pos hge]; exact wpS_pure ⟨l, r, rfl, hlr, hl, f, .inl hge, rfl⟩
      · rw [if_neg hge]
        refine wpS_bind (bey _ _ (by omega) fun b hbb => ?_)
        cases b
        · exact wpS_pure ⟨_, _, rfl, hlr, hl, f, .inr (fun z => absurd (hbb.mpr z) (by decide)), rfl⟩
        · exact wpS_pure ⟨_, _, rfl, by omega, by omega, by omega, hbb.mp rfl, rfl⟩
    · rintro c st' ⟨l, r, rfl, hlr, hxr, hl, f, rfl⟩; exact ⟨l, r, rfl, hlr, hl, f, .inl (by omega), rfl⟩
    · rintro c st' ⟨l, r, rfl, hlr, hl, f, hor, rfl⟩
      have f1 : ∀ i, i < hint + l + 1 → F i := fun i hi => up i (hint + l) (by omega) hl f
      have f2 : ∀ i, hint + min r (n - hint) ≤ i → i < n → ¬ F i := fun i h1 h2 h3 => by
        rcases hor with z | z
        · omega
        · exact z (up (hint + r) i (by omega) h2 h3)
      have hlr : hint + l + 1 ≤ hint + min r (n - hint) := by omega
      have hrn : hint + min r (n - hint) ≤ n := by omega
      dsimp only
      refine wpS_bind (wpS_mono (wpS_forRange (I := fun x c st' => ∃ l r, c = (none, l, r) ∧ l ≤ r ∧ r ≤ n ∧ r - l ≤ n - x ∧ (∀ i, i < l → F i) ∧ (∀ i, r ≤ i → i < n → ¬ F i) ∧ st = st') (Q := fun c st' => ∃ l, c = (none, l, l) ∧ l ≤ n ∧ (∀ i, i < l → F i) ∧ (∀ i, l ≤ i → i < n → ¬ F i) ∧ st = st') ?_ ?_ ⟨_, _, rfl, hlr, hrn, by omega, f1, f2, rfl⟩) ?_)
      · rintro x c st' _ hx ⟨l, r, rfl, hlr, hr, hm, f1, f2, rfl⟩
        dsimp only
        by_cases hge : l ≥ r
        · rw [if_pos hge]
          obtain rfl : l = r := by omega
          exact wpS_pure ⟨l, rfl, hr, f1, f2, rfl⟩
        · rw [if_neg hge]
          refine wpS_bind (bey _ _ (by omega) fun b hbb => ?_)
          cases b
          · refine wpS_pure ⟨_, _, rfl, by omega, by omega, by omega, f1, fun i h1 h2 h3 => ?_, rfl⟩
            have := up (l + (r - l) / 2) i h1 h2 h3
            exact absurd (hbb.mpr this) (by decide)
          · exact wpS_pure ⟨_, _, rfl, by omega, hr, by omega, fun i h1 => up i _ (by omega) (by omega) (hbb.mp rfl), f2, rfl⟩
      · rintro c st' ⟨l, r, rfl, hlr, hr, hm, f1, f2, rfl⟩
        obtain rfl : l = r := by omega
        exact ⟨l, rfl, hr, f1, f2, rfl⟩
      · rintro c st' ⟨l, rfl, hr, f1, f2, rfl⟩
        exact wpS_pure (h _ hr f1 f2)

abbrev Srt (l : List Keyed) : Prop := l.Pairwise fun p q => ks p ≤ ks q
theorem ext_mem {xs : Array Keyed} {i j : Nat} {p : Keyed} (h : p ∈ (xs.extract i j).toList) : ∃ k, i ≤ k ∧ k < j ∧ k < xs.size ∧ K xs k = ks p := by
  rw [ext_list] at h
  obtain ⟨k, hk, e⟩ := List.getElem_of_mem h
  have hk' := hk
  rw [List.length_drop, List.length_take, Array.length_toList] at hk'
  refine ⟨i + k, by omega, by omega, by omega, ?_⟩
  rw [List.getElem_drop, List.getElem_take] at e
  exact K_at (by rw [← e]; simp)
theorem ext_srt {xs : Array Keyed} {i j : Nat} (h : Up xs i j) (hj : j ≤ xs.size) : Srt (xs.extract i j).toList := by
  rw [ext_list, Srt, List.pairwise_iff_getElem]
  intro k m hk hm hkm
  rw [List.length_drop, List.length_take, Array.length_toList] at hk hm
  rw [List.getElem_drop, List.getElem_take, List.getElem_drop, List.getElem_take]
  have q := h (i + k) (i + m) (by omega) (by omega) (by omega)
  rw [K_eq (by omega), K_eq (by omega)] at q
  simpa using q
/-- laid out in order, and not above what is left -/
structure Od (a b : Array Keyed) (ia ib : Nat) (out : Array Keyed) : Prop where
  laid : Laid a b ia ib out
  srt : Srt out.toList
  la : ∀ p, p ∈ out.toList → ∀ j, ia ≤ j → j < a.size → ks p ≤ K a j
  lb : ∀ p, p ∈ out.toList → ∀ j, ib ≤ j → j < b.size → ks p ≤ K b j
/-- both are sorted; the first of b comes first, the last of a last -/
structure Fit (a b : Array Keyed) : Prop where
  ua : Up a 0 a.size
  ub : Up b 0 b.size
  fb : ∀ j, j < a.size → K b 0 ≤ K a j
  la : ∀ j, j < b.size → K b j ≤ K a (a.size - 1)
variable {a b : Array Keyed} {ia ib : Nat} {out : Array Keyed}
theorem Od.push {xs : Array Keyed} {p : Keyed} {k : Nat} (hs : Srt out.toList) (hl : ∀ p, p ∈ out.toList → ∀ j, k ≤ j → j < xs.size → ks p ≤ K xs j) (hp : xs[k]? = some p) : Srt (out.push p).toList := by
  rw [Array.toList_push, Srt, List.pairwise_append]
  refine ⟨hs, List.pairwise_singleton _ _, fun q hq r hr => ?_⟩
  obtain rfl := List.mem_singleton.mp hr
  rw [← K_at hp]
  exact hl q hq k (Nat.le_refl _) (by have := Array.getElem?_eq_some_iff.mp hp; exact this.1)
theorem lt_of_at {xs : Array Keyed} {p : Keyed} {k : Nat} (hp : xs[k]? = some p) : k < xs.size := (Array.getElem?_eq_some_iff.mp hp).1
theorem Od.pb (F : Fit a b) (h : Od a b ia ib out) {p : Keyed} (hp : b[ib]? = some p) (hx : ∀ j, ia ≤ j → j < a.size → ks p ≤ K a j) : Od a b ia (ib + 1) (out.push p) := by
  refine ⟨h.laid.b hp, Od.push h.srt h.lb hp, fun q hq j h1 h2 => ?_, fun q hq j h1 h2 => ?_⟩
  · rw [Array.toList_push, List.mem_append, List.mem_singleton] at hq
    rcases hq with hq | rfl
    · exact h.la q hq j h1 h2
    · exact hx j h1 h2
  · rw [Array.toList_push, List.mem_append, List.mem_singleton] at hq
    rcases hq with hq | rfl
    · exact h.lb q hq j (by omega) h2
    · rw [← K_at hp]; exact F.ub _ _ (by omega) (by omega) h2
theorem Od.pa (F : Fit a b) (h : Od a b ia ib out) {p : Keyed} (hp : a[ia]? = some p) (hx : ∀ j, ib ≤ j → j < b.size → ks p ≤ K b j) : Od a b (ia + 1) ib (out.push p) := by
  refine ⟨h.laid.a hp, Od.push h.srt h.la hp, fun q hq j h1 h2 => ?_, fun q hq j h1 h2 => ?_⟩
  · rw [Array.toList_push, List.mem_append, List.mem_singleton] at hq
    rcases hq with hq | rfl
    · exact h.la q hq j (by omega) h2
    · rw [← K_at hp]; exact F.ua _ _ (by omega) (by omega) h2
  · rw [Array.toList_push, List.mem_append, List.mem_singleton] at hq
    rcases hq with hq | rfl
    · exact h.lb q hq j h1 h2
    · exact hx j h1 h2
theorem Od.app {xs : Array Keyed} {k m : Nat} (hs : Srt out.toList) (hl : ∀ p, p ∈ out.toList → ∀ j, k ≤ j → j < xs.size → ks p ≤ K xs j) (hu : Up xs 0 xs.size) (hm : m ≤ xs.size) : Srt (out ++ xs.extract k m).toList := by
  rw [Array.toList_append, Srt, List.pairwise_append]
  refine ⟨hs, ext_srt (fun i j h1 h2 h3 => hu i j (by omega) h2 (by omega)) hm, fun q hq r hr => ?_⟩
  obtain ⟨i, h1, h2, h3, e⟩ := ext_mem hr
  rw [← e]
  exact hl q hq i h1 h3
theorem Od.ak (F : Fit a b) (h : Od a b ia ib out) {k : Nat} (hk : ia + k ≤ a.size) (hx : ∀ i, ia ≤ i → i < ia + k → ∀ j, ib ≤ j → j < b.size → K a i ≤ K b j) : Od a b (ia + k) ib (out ++ a.extract ia (ia + k)) := by
  refine ⟨h.laid.ak k, Od.app h.srt h.la F.ua hk, fun q hq j h1 h2 => ?_, fun q hq j h1 h2 => ?_⟩
  · rw [Array.toList_append, List.mem_append] at hq
    rcases hq with hq | hq
    · exact h.la q hq j (by omega) h2
    · obtain ⟨i, i1, i2, i3, e⟩ := ext_mem hq
      rw [← e]; exact F.ua _ _ (by omega) (by omega) h2
  · rw [Array.toList_append, List.mem_append] at hq
    rcases hq with hq | hq
    · exact h.lb q hq j h1 h2
    · obtain ⟨i, i1, i2, i3, e⟩ := ext_mem hq
      rw [← e]; exact hx i i1 i2 j h1 h2
theorem Od.bk (F : Fit a b) (h : Od a b ia ib out) {k : Nat} (hk : ib + k ≤ b.size) (hx : ∀ j, ib ≤ j → j < ib + k → ∀ i, ia ≤ i → i < a.size → K b j ≤ K a i) : Od a b ia (ib + k) (out ++ b.extract ib (ib + k)) := by
  refine ⟨h.laid.bk k, Od.app h.srt h.lb F.ub hk, fun q hq j h1 h2 => ?_, fun q hq j h1 h2 => ?_⟩
  · rw [Array.toList_append, List.mem_append] at hq
    rcases hq with hq | hq
    · exact h.la q hq j h1 h2
    · obtain ⟨i, i1, i2, i3, e⟩ := ext_mem hq
      rw [← e]; exact hx i i1 i2 j h1 h2
  · rw [Array.toList_append, List.mem_append] at hq
    rcases hq with hq | hq
    · exact h.lb q hq j (by omega) h2
    · obtain ⟨i, i1, i2, i3, e⟩ := ext_mem hq
      rw [← e]; exact F.ub _ _ (by omega) (by omega) h2
/-- what a merge gives -/
def Mg (a b : Array Keyed) (r : Array Keyed) : Prop := r.toList.Perm (a.toList ++ b.toList) ∧ Srt r.toList
theorem Od.fab (F : Fit a b) (h : Od a b ia ib out) (ha : ia ≤ a.size) (hb : ib ≤ b.size) (hx : ∀ i, ia ≤ i → i < a.size → ∀ j, ib ≤ j → j < b.size → K a i ≤ K b j) : Mg a b (out ++ a.extract ia a.size ++ b.extract ib b.size) := by
  refine ⟨h.laid.all ha hb, ?_⟩
  obtain ⟨j, hj⟩ : ∃ j, a.size = ia + j := ⟨a.size - ia, by omega⟩
  have q := (h.ak F (k := j) (by omega) (fun i h1 h2 => hx i h1 (by omega)))
  rw [← hj] at q
  exact Od.app q.srt q.lb F.ub (Nat.le_refl _)
theorem Od.fb (F : Fit a b) (h : Od a b ia ib out) (ha : ia ≤ a.size) (e : ib = b.size) : Mg a b (out ++ a.extract ia a.size ++ b.extract ib b.size) := h.fab F ha (by omega) fun i _ _ j h1 h2 => by omega
theorem Od.fa (F : Fit a b) (h : Od a b ia ib out) (hb : ib ≤ b.size) (e : ia = a.size) : Mg a b (out ++ a.extract ia a.size ++ b.extract ib b.size) := h.fab F (by omega) hb fun i h1 h2 j _ _ => by omega
theorem Od.fl (F : Fit a b) (h : Od a b ia ib out) (hb : ib ≤ b.size) (e : ia + 1 = a.size) : Mg a b (out ++ b.extract ib b.size ++ a.extract ia a.size) := by
  refine ⟨h.laid.all' (by omega) hb, ?_⟩
  obtain ⟨j, hj⟩ : ∃ j, b.size = ib + j := ⟨b.size - ib, by omega⟩
  have q := (h.bk F (k := j) (by omega) (fun i h1 h2 k h3 h4 => by obtain rfl : k = a.size - 1 := by omega
                                                                   exact F.la i (by omega)))
  rw [← hj] at q
  exact Od.app q.srt q.la F.ua (Nat.le_refl _)
theorem gA (F : Fit a b) {p : Keyed} {k : Nat} (hp : b[ib]? = some p) (g : ∀ i, i < k → Ahead false p (K a (ia + i))) : ∀ i, ia ≤ i → i < ia + k → ∀ j, ib ≤ j → j < b.size → K a i ≤ K b j := fun i h1 h2 j h3 h4 => by
  have q : K a (ia + (i - ia)) ≤ ks p := g (i - ia) (by omega)
  rw [show ia + (i - ia) = i by omega, ← K_at hp] at q
  exact Int.le_trans q (F.ub _ _ (by omega) h3 h4)
theorem gB {p q : Keyed} {k : Nat} (hp : b[ib]? = some p) (hq : b[ib]? = some q) (g : ∀ i, k ≤ i → i < a.size - ia → ¬ Ahead false p (K a (ia + i))) : ∀ j, ia + k ≤ j → j < a.size → ks q ≤ K a j := fun j h1 h2 => by
  obtain rfl : p = q := by rw [hp] at hq; exact Option.some.inj hq
  have z : ¬ K a (ia + (j - ia)) ≤ ks p := g (j - ia) (by omega) (by omega)
  rw [show ia + (j - ia) = j by omega] at z
  omega
theorem gA2 (F : Fit a b) {p : Keyed} {k : Nat} (hp : a[ia]? = some p) (g : ∀ i, i < k → Ahead true p (K b (ib + i))) : ∀ j, ib ≤ j → j < ib + k → ∀ i, ia ≤ i → i < a.size → K b j ≤ K a i := fun i h1 h2 j h3 h4 => by
  have q : K b (ib + (i - ib)) < ks p := g (i - ib) (by omega)
  rw [show ib + (i - ib) = i by omega, ← K_at hp] at q
  exact Int.le_trans (Int.le_of_lt q) (F.ua _ _ (by omega) h3 h4)
theorem gB2 {p q : Keyed} {k : Nat} (hp : a[ia]? = some p) (hq : a[ia]? = some q) (g : ∀ i, k ≤ i → i < b.size - ib → ¬ Ahead true p (K b (ib + i))) : ∀ j, ib + k ≤ j → j < b.size → ks q ≤ K b j := fun j h1 h2 => by
  obtain rfl : p = q := by rw [hp] at hq; exact Option.some.inj hq
  have z : ¬ K b (ib + (j - ib)) < ks p := g (j - ib) (by omega) (by omega)
  rw [show ib + (j - ib) = j by omega] at z
  omega
end
end SB

set_option Elab.async false
set_option maxRecDepth 100000
set_option maxHeartbeats 4000000
namespace SB
open PySem PyProof.Rows
section
variable {prog : Program} {w : World} {A : Around} {E : Value → Shared → Prop} {s : Shared} {a0 : Array Keyed}
variable {a b : Array Keyed} {ia ib na nb : Nat} {out : Array Keyed}
theorem ltA (F : Fit a b) {p1 p2 p3 : Keyed} (h1 : b[ib]? = some p1) (h2 : a[ia]? = some p2) (h3 : b[ib]? = some p3) (h : ks p1 < ks p2) : ∀ j, ia ≤ j → j < a.size → ks p3 ≤ K a j := fun j q1 q2 => by
  obtain rfl : p1 = p3 := by rw [h1] at h3; exact Option.some.inj h3
  rw [← K_at h2] at h
  exact Int.le_trans (Int.le_of_lt h) (F.ua _ _ (by omega) q1 q2)
theorem ltB (F : Fit a b) {p1 p2 p3 : Keyed} (h1 : b[ib]? = some p1) (h2 : a[ia]? = some p2) (h3 : a[ia]? = some p3) (h : ¬ ks p1 < ks p2) : ∀ j, ib ≤ j → j < b.size → ks p3 ≤ K b j := fun j q1 q2 => by
  obtain rfl : p2 = p3 := by rw [h2] at h3; exact Option.some.inj h3
  rw [← K_at h1] at h
  exact Int.le_trans (Int.not_lt.mp h) (F.ub _ _ (by omega) q1 q2)
theorem Up.sub {xs : Array Keyed} {i n : Nat} (h : Up xs 0 xs.size) (hn : i + n ≤ xs.size) : Up xs i (i + n) := fun k m _ h2 h3 => h k m (by omega) h2 (by omega)
structure MidO (a b : Array Keyed) (c0 ia ib : Nat) (out : Array Keyed) : Prop where
  laid : Od a b ia ib out
  ha : ia + 1 < a.size
  hb : ib < b.size
  pr : c0 ≤ ia + ib
def MRetO (a b : Array Keyed) (GG : SortSt → Prop) {β : Type} (c : Option (Array Keyed) × β) (st' : SortSt) : Prop := ∃ r y, c = (some r, y) ∧ Mg a b r ∧ GG st'
/-- laid out from behind in order, and not below what is left -/
structure OdH (a b : Array Keyed) (na nb : Nat) (out : Array Keyed) : Prop where
  laid : LaidH a b na nb out
  srt : out.toList.Pairwise fun p q => ks q ≤ ks p
  la : ∀ p, p ∈ out.toList → ∀ j, j < na → K a j ≤ ks p
  lb : ∀ p, p ∈ out.toList → ∀ j, j < nb → K b j ≤ ks p
theorem OdH.pb (F : Fit a b) (h : OdH a b na nb out) (h1 : 1 ≤ nb) {p : Keyed} (hp : b[nb - 1]? = some p) (hx : ∀ j, j < na → K a j ≤ ks p) : OdH a b na (nb - 1) (out.push p) := by
  have hz := lt_of_at hp
  refine ⟨h.laid.b h1 hp, ?_, fun q hq j h2 => ?_, fun q hq j h2 => ?_⟩
  · rw [Array.toList_push, List.pairwise_append]
    refine ⟨h.srt, List.pairwise_singleton _ _, fun q hq r hr => ?_⟩
    obtain rfl := List.mem_singleton.mp hr
    rw [← K_at hp]; exact h.lb q hq _ (by omega)
  · rw [Array.toList_push, List.mem_append, List.mem_singleton] at hq
    rcases hq with hq | rfl
    · exact h.la q hq j h2
    · exact hx j h2
  · rw [Array.toList_push, List.mem_append, List.mem_singleton] at hq
    rcases hq with hq | rfl
    · exact h.lb q hq j (by omega)
    · rw [← K_at hp]; exact F.ub _ _ (by omega) (by omega) (by omega)
theorem OdH.pa (F : Fit a b) (h : OdH a b na nb out) (h1 : 1 ≤ na) {p : Keyed} (hp : a[na - 1]? = some p) (hx : ∀ j, j < nb → K b j ≤ ks p) : OdH a b (na - 1) nb (out.push p) := by
  have hz := lt_of_at hp
  refine ⟨h.laid.a h1 hp, ?_, fun q hq j h2 => ?_, fun q hq j h2 => ?_⟩
  · rw [Array.toList_push, List.pairwise_append]
    refine ⟨h.srt, List.pairwise_singleton _ _, fun q hq r hr => ?_⟩
    obtain rfl := List.mem_singleton.mp hr
    rw [← K_at hp]; exact h.la q hq _ (by omega)
  · rw [Array.toList_push, List.mem_append, List.mem_singleton] at hq
    rcases hq with hq | rfl
    · exact h.la q hq j (by omega)
    · rw [← K_at hp]; exact F.ua _ _ (by omega) (by omega) (by omega)
  · rw [Array.toList_push, List.mem_append, List.mem_singleton] at hq
    rcases hq with hq | rfl
    · exact h.lb q hq j h2
    · exact hx j h2
theorem rev_app {xs : Array Keyed} {k m : Nat} (hs : out.toList.Pairwise fun p q => ks q ≤ ks p) (hl : ∀ p, p ∈ out.toList → ∀ j, j < m → K xs j ≤ ks p) (hu : Up xs 0 xs.size) (hm : m ≤ xs.size) : (out ++ (xs.extract k m).reverse).toList.Pairwise fun p q => ks q ≤ ks p := by
  rw [Array.toList_append, Array.toList_reverse, List.pairwise_append]
  refine ⟨hs, List.pairwise_reverse.mpr (ext_srt (fun i j h1 h2 h3 => hu i j (by omega) h2 (by omega)) hm), fun q hq r hr => ?_⟩
  obtain ⟨i, h1, h2, h3, e⟩ := ext_mem (List.mem_reverse.mp hr)
  rw [← e]
  exact hl q hq i h2
theorem OdH.ak (F : Fit a b) (h : OdH a b na nb out) {k : Nat} (hk : k ≤ na) (hn : na ≤ a.size) (hx : ∀ i, k ≤ i → i < na → ∀ j, j < nb → K b j ≤ K a i) : OdH a b k nb (out ++ (a.extract k na).reverse) := by
  refine ⟨h.laid.ak hk, rev_app h.srt h.la F.ua hn, fun q hq j h2 => ?_, fun q hq j h2 => ?_⟩
  · rw [Array.toList_append, Array.toList_reverse, List.mem_append, List.mem_reverse] at hq
    rcases hq with hq | hq
    · exact h.la q hq j (by omega)
    · obtain ⟨i, i1, i2, i3, e⟩ := ext_mem hq
      rw [← e]; exact F.ua _ _ (by omega) (by omega) i3
  · rw [Array.toList_append, Array.toList_reverse, List.mem_append, List.mem_reverse] at hq
    rcases hq with hq | hq
    · exact h.lb q hq j h2
    · obtain ⟨i, i1, i2, i3, e⟩ := ext_mem hq
      rw [← e]; exact hx i i1 i2 j h2
theorem OdH.bk (F : Fit a b) (h : OdH a b na nb out) {k : Nat} (hk : k ≤ nb) (hn : nb ≤ b.size) (hx : ∀ j, k ≤ j → j < nb → ∀ i, i < na → K a i ≤ K b j) : OdH a b na k (out ++ (b.extract k nb).reverse) := by
  refine ⟨h.laid.bk hk, rev_app h.srt h.lb F.ub hn, fun q hq j h2 => ?_, fun q hq j h2 => ?_⟩
  · rw [Array.toList_append, Array.toList_reverse, List.mem_append, List.mem_reverse] at hq
    rcases hq with hq | hq
    · exact h.la q hq j h2
    · obtain ⟨i, i1, i2, i3, e⟩ := ext_mem hq
      rw [← e]; exact hx i i1 i2 j h2
  · rw [Array.toList_append, Array.toList_reverse, List.mem_append, List.mem_reverse] at hq
    rcases hq with hq | hq
    · exact h.lb q hq j (by omega)
    · obtain ⟨i, i1, i2, i3, e⟩ := ext_mem hq
      rw [← e]; exact F.ub _ _ (by omega) (by omega) i3
theorem srt3 {x y z : List Keyed} (hx : Srt x) (hy : Srt y) (hz : Srt z) (h1 : ∀ p, p ∈ x → ∀ q, q ∈ y → ks p ≤ ks q) (h2 : ∀ p, p ∈ x → ∀ q, q ∈ z → ks p ≤ ks q) (h3 : ∀ p, p ∈ y → ∀ q, q ∈ z → ks p ≤ ks q) : Srt (x ++ y ++ z) := by
  rw [Srt, List.pairwise_append, List.pairwise_append]
  refine ⟨⟨hx, hy, h1⟩, hz, fun p hp q hq => ?_⟩
  rcases List.mem_append.mp hp with hp | hp
  · exact h2 p hp q hq
  · exact h3 p hp q hq
theorem OdH.fab (F : Fit a b) (h : OdH a b na nb out) (ha : na ≤ a.size) (hb : nb ≤ b.size) (hx : ∀ i, i < na → ∀ j, j < nb → K a i ≤ K b j) : Mg a b (a.extract 0 na ++ b.extract 0 nb ++ out.reverse) := by
  refine ⟨h.laid.all, ?_⟩
  rw [Array.toList_append, Array.toList_append, Array.toList_reverse]
  refine srt3 (ext_srt (fun i j h1 h2 h3 => F.ua i j (by omega) h2 (by omega)) ha) (ext_srt (fun i j h1 h2 h3 => F.ub i j (by omega) h2 (by omega)) hb) (List.pairwise_reverse.mpr h.srt) (fun p hp q hq => ?_) (fun p hp q hq => ?_) (fun p hp q hq => ?_)
  · obtain ⟨i, _, i2, _, e⟩ := ext_mem hp
    obtain ⟨j, _, j2, _, e2⟩ := ext_mem hq
    rw [← e, ← e2]; exact hx i i2 j j2
  · obtain ⟨i, _, i2, _, e⟩ := ext_mem hp
    rw [← e]; exact h.la q (List.mem_reverse.mp hq) i i2
  · obtain ⟨i, _, i2, _, e⟩ := ext_mem hp
    rw [← e]; exact h.lb q (List.mem_reverse.mp hq) i i2
theorem OdH.fz (F : Fit a b) (h : OdH a b na nb out) (hb : nb ≤ b.size) (e : na = 0) : Mg a b (a.extract 0 na ++ b.extract 0 nb ++ out.reverse) := h.fab F (by omega) hb fun i hi => by omega
theorem OdH.fn (F : Fit a b) (h : OdH a b na nb out) (ha : na ≤ a.size) (e : nb = 0) : Mg a b (a.extract 0 na ++ b.extract 0 nb ++ out.reverse) := h.fab F ha (by omega) fun i _ j hj => by omega
theorem OdH.fl (F : Fit a b) (h : OdH a b na nb out) (ha : na ≤ a.size) (hb : nb ≤ b.size) (e : nb = 1) : Mg a b (b.extract 0 nb ++ a.extract 0 na ++ out.reverse) := by
  refine ⟨h.laid.all', ?_⟩
  rw [Array.toList_append, Array.toList_append, Array.toList_reverse]
  refine srt3 (ext_srt (fun i j h1 h2 h3 => F.ub i j (by omega) h2 (by omega)) hb) (ext_srt (fun i j h1 h2 h3 => F.ua i j (by omega) h2 (by omega)) ha) (List.pairwise_reverse.mpr h.srt) (fun p hp q hq => ?_) (fun p hp q hq => ?_) (fun p hp q hq => ?_)
  · obtain ⟨i, _, i2, _, e1⟩ := ext_mem hp
    obtain ⟨j, _, j2, _, e2⟩ := ext_mem hq
    obtain rfl : i = 0 := by omega
    rw [← e1, ← e2]; exact F.fb j (by omega)
  · obtain ⟨i, _, i2, _, e⟩ := ext_mem hp
    rw [← e]; exact h.lb q (List.mem_reverse.mp hq) i i2
  · obtain ⟨i, _, i2, _, e⟩ := ext_mem hp
    rw [← e]; exact h.la q (List.mem_reverse.mp hq) i i2
theorem hA1 (F : Fit a b) {p : Keyed} {k : Nat} (hp : b[nb - 1]? = some p) (hb : nb ≤ b.size) (g : ∀ i, k ≤ i → i < na → ¬ Ahead false p (K a (0 + i))) : ∀ i, k ≤ i → i < na → ∀ j, j < nb → K b j ≤ K a i := fun i h1 h2 j h3 => by
  have z : ¬ K a (0 + i) ≤ ks p := g i h1 h2
  rw [Nat.zero_add, ← K_at hp] at z
  have := F.ub j (nb - 1) (by omega) (by omega) (by omega)
  omega
theorem hB1 {p q : Keyed} {k : Nat} (hp : b[nb - 1]? = some p) (hq : b[nb - 1]? = some q) (g : ∀ i, i < k → Ahead false p (K a (0 + i))) : ∀ j, j < k → K a j ≤ ks q := fun j h1 => by
  obtain rfl : p = q := by rw [hp] at hq; exact Option.some.inj hq
  have z : K a (0 + j) ≤ ks p := g j h1
  rwa [Nat.zero_add] at z
theorem hA2 (F : Fit a b) {p : Keyed} {k : Nat} (hp : a[na - 1]? = some p) (ha : na ≤ a.size) (g : ∀ i, k ≤ i → i < nb → ¬ Ahead true p (K b (0 + i))) : ∀ j, k ≤ j → j < nb → ∀ i, i < na → K a i ≤ K b j := fun j h1 h2 i h3 => by
  have z : ¬ K b (0 + j) < ks p := g j h1 h2
  rw [Nat.zero_add, ← K_at hp] at z
  have := F.ua i (na - 1) (by omega) (by omega) (by omega)
  omega
theorem hB2 {p q : Keyed} {k : Nat} (hp : a[na - 1]? = some p) (hq : a[na - 1]? = some q) (g : ∀ i, i < k → Ahead true p (K b (0 + i))) : ∀ j, j < k → K b j ≤ ks q := fun j h1 => by
  obtain rfl : p = q := by rw [hp] at hq; exact Option.some.inj hq
  have z : K b (0 + j) < ks p := g j h1
  rw [Nat.zero_add] at z
  exact Int.le_of_lt z
theorem ltAH (F : Fit a b) {p1 p2 p3 : Keyed} (h1 : b[nb - 1]? = some p1) (h2 : a[na - 1]? = some p2) (h3 : a[na - 1]? = some p3) (hn : nb ≤ b.size) (h : ks p1 < ks p2) : ∀ j, j < nb → K b j ≤ ks p3 := fun j q1 => by
  obtain rfl : p2 = p3 := by rw [h2] at h3; exact Option.some.inj h3
  rw [← K_at h1] at h
  exact Int.le_trans (F.ub _ _ (by omega) (by omega) (by omega)) (Int.le_of_lt h)
theorem ltBH (F : Fit a b) {p1 p2 p3 : Keyed} (h1 : b[nb - 1]? = some p1) (h2 : a[na - 1]? = some p2) (h3 : b[nb - 1]? = some p3) (hn : na ≤ a.size) (h : ¬ ks p1 < ks p2) : ∀ j, j < na → K a j ≤ ks p3 := fun j q1 => by
  obtain rfl : p1 = p3 := by rw [h1] at h3; exact Option.some.inj h3
  rw [← K_at h2] at h
  exact Int.le_trans (F.ua _ _ (by omega) (by omega) (by omega)) (Int.not_lt.mp h)
structure MidHO (a b : Array Keyed) (c0 na nb : Nat) (out : Array Keyed) : Prop where
  laid : OdH a b na nb out
  ha : 1 ≤ na
  ha2 : na ≤ a.size
  hb : 2 ≤ nb
  hb2 : nb ≤ b.size
  pr : c0 + na + nb ≤ a.size + b.size
theorem mergeLo_s {a b : Array Keyed} {pe : Array (Nat × Nat × Nat)} {xs : Array Keyed} {st : SortSt} {Q : Array Keyed → SortSt → Prop} (hB : GX a0 pe xs st) (ha : IntKeys a) (hb : IntKeys b) (ha1 : 1 ≤ a.size) (hb1 : 1 ≤ b.size)
    (F : Fit a b) (h : ∀ out st', GX a0 pe xs st' → Mg a b out → Q out st') : wpS (model prog w) A E s (mergeLo' a b) Q st := by
  show wpS _ _ _ _ (_ >>= _) _ _
  refine wpS_bind (wpS_lift (wpAny_rule ⟨rfl, ?_⟩))
  obtain ⟨b0, e0, _⟩ := ik_at hb (i := 0) (by omega)
  refine wpS_bind (wpS_elem e0 ?_)
  have L0 : Od a b 0 1 #[b0] := by
    refine ⟨?_, List.pairwise_singleton _ _, fun p hp j _ hj => ?_, fun p hp j _ hj => ?_⟩
    · unfold Laid
      rw [take_at e0]; simp
    · obtain rfl := List.mem_singleton.mp hp
      rw [← K_at e0]; exact F.fb j hj
    · obtain rfl := List.mem_singleton.mp hp
      rw [← K_at e0]; exact F.ub _ _ (by omega) (by omega) hj
  dsimp only
  refine wpS_iteB (fun h1 => wpS_pure (h _ _ hB (L0.fb F (by omega) h1))) fun h1 => ?_
  refine wpS_iteB (fun h2 => wpS_pure (h _ _ hB (L0.fl F (by omega) h2))) fun h2 => ?_
  refine wpS_bind (wpS_get ?_)
  refine wpS_bind (wpS_mono (wpS_forRange (I := fun x c st' => ∃ out ia ib mg, c = (none, out, ia, ib, mg) ∧ MidO a b (x + 1) ia ib out ∧ GX a0 pe xs st') (Q := MRetO a b (GX a0 pe xs)) ?step ?fin ⟨_, _, _, _, rfl, ⟨L0, by omega, by omega, by omega⟩, hB⟩) ?post)
  case fin =>
    rintro c st' ⟨out, ia, ib, mg, rfl, m, g⟩
    have := m.ha; have := m.hb; have := m.pr
    exfalso; omega
  case post =>
    rintro c st' ⟨r, y, rfl, p, g⟩
    exact wpS_pure (h _ _ g p)
  case step =>
    rintro x c st1 _ hx ⟨out, ia, ib, mg, rfl, m, g⟩
    dsimp only
    refine wpS_bind (wpS_mono (wpS_forRange (I := fun x2 c st' => ∃ out ia ib ac bc, c = (none, out, ia, ib, ac, bc) ∧ MidO a b (x + 1 + min x2 1) ia ib out ∧ GX a0 pe xs st')
      (Q := fun c st' => MRetO a b (GX a0 pe xs) c st' ∨ ∃ out ia ib ac bc, c = (none, out, ia, ib, ac, bc) ∧ MidO a b (x + 2) ia ib out ∧ GX a0 pe xs st') ?_ ?_ ⟨_, _, _, _, _, rfl, m, g⟩) ?_)
    · rintro x2 c st2 _ hx2 ⟨out, ia, ib, ac, bc, rfl, m, g⟩
      have m1 := m.ha; have m2 := m.hb; have m3 := m.pr
      dsimp only
      refine wpS_bind (wpS_elemB hb (by omega) fun p1 hp1 kp1 => ?_)
      refine wpS_bind (wpS_elemB ha (by omega) fun p2 hp2 kp2 => ?_)
      refine wpS_bind (wpS_ltP g.1.1.kind kp1 kp2 ?_)
      dsimp only
      refine wpS_ite (fun hbw => ?_) (fun hbw => ?_)
      · refine wpS_bind (wpS_elemB hb (by omega) fun p3 hp3 kp3 => ?_)
        have X := ltA F hp1 hp2 hp3 (of_decide_eq_true hbw)
        refine wpS_iteB (fun e => wpS_pure (.inl ⟨_, _, rfl, (m.laid.pb F hp3 X).fb F (by omega) e, g⟩)) fun ne => ?_
        exact wpS_ite (fun _ => wpS_pure (.inr ⟨_, _, _, _, _, rfl, ⟨m.laid.pb F hp3 X, by omega, by omega, by omega⟩, g⟩)) fun _ => wpS_pure ⟨_, _, _, _, _, rfl, ⟨m.laid.pb F hp3 X, by omega, by omega, by omega⟩, g⟩
      · refine wpS_bind (wpS_elemB ha (by omega) fun p3 hp3 kp3 => ?_)
        have X := ltB F hp1 hp2 hp3 fun z => hbw (decide_eq_true z)
        refine wpS_iteB (fun e => wpS_pure (.inl ⟨_, _, rfl, (m.laid.pa F hp3 X).fl F (by omega) e, g⟩)) fun ne => ?_
        exact wpS_ite (fun _ => wpS_pure (.inr ⟨_, _, _, _, _, rfl, ⟨m.laid.pa F hp3 X, by omega, by omega, by omega⟩, g⟩)) fun _ => wpS_pure ⟨_, _, _, _, _, rfl, ⟨m.laid.pa F hp3 X, by omega, by omega, by omega⟩, g⟩
    · rintro c st2 ⟨out, ia, ib, ac, bc, rfl, m, g⟩
      exact .inr ⟨_, _, _, _, _, rfl, ⟨m.laid, m.ha, m.hb, by have := m.pr; omega⟩, g⟩
    · rintro c st2 (⟨r, y, rfl, p, g⟩ | ⟨out, ia, ib, ac, bc, rfl, m, g⟩)
      · exact wpS_pure ⟨_, _, rfl, p, g⟩
      · dsimp only
        refine wpS_bind (wpS_lift (wpAny_rule ⟨rfl, ?_⟩))
        refine wpS_bind (wpS_mono (wpS_forRange (I := fun _ c st' => ∃ out ia ib mg ac bc, c = (none, out, ia, ib, mg, ac, bc) ∧ MidO a b (x + 2) ia ib out ∧ GX a0 pe xs st')
          (Q := fun c st' => MRetO a b (GX a0 pe xs) c st' ∨ ∃ out ia ib mg ac bc, c = (none, out, ia, ib, mg, ac, bc) ∧ MidO a b (x + 2) ia ib out ∧ GX a0 pe xs st') ?_ ?_ ⟨_, _, _, _, _, _, rfl, m, g⟩) ?_)
        · rintro x3 c st3 _ hx3 ⟨out, ia, ib, mg, ac, bc, rfl, m, g⟩
          have m1 := m.ha; have m2 := m.hb; have m3 := m.pr
          have L := m.laid
          dsimp only
          refine wpS_ite (fun hm => ?_) (fun hm => ?_)
          · refine wpS_bind (wpS_setMin g fun st1 g1 => ?_)
            refine wpS_bind (wpS_elemB hb (by omega) fun p hp kp => ?_)
            refine wpS_bind (gallop_s g1.1.1.kind kp ha (by omega) (by omega) (F.ua.sub (by omega)) fun k hk gk1 gk2 => ?_)
            dsimp only
            refine wpS_ite (fun hk0 => ?_) (fun hk0 => ?_)
            · refine wpS_iteB (fun e => wpS_pure (.inl ⟨_, _, rfl, ((L).ak F (k := k) (by omega) (gA F hp gk1)).fl F (by omega) e, g1⟩)) fun ne1 => ?_
              refine wpS_iteB (fun e => wpS_pure (.inl ⟨_, _, rfl, ((L).ak F (k := k) (by omega) (gA F hp gk1)).fa F (by omega) e, g1⟩)) fun ne2 => ?_
              refine wpS_bind (wpS_elemB hb (by omega) fun q1 hq1 kq1 => ?_)
              refine wpS_iteB (fun e => wpS_pure (.inl ⟨_, _, rfl, (((L).ak F (k := k) (by omega) (gA F hp gk1)).pb F hq1 (gB hp hq1 gk2)).fb F (by omega) e, g1⟩)) fun ne3 => ?_
              refine wpS_bind (wpS_elemB ha (by omega) fun q2 hq2 kq2 => ?_)
              refine wpS_bind (gallop_s g1.1.1.kind kq2 hb (by omega) (by omega) (F.ub.sub (by omega)) fun k2 hk2 gk3 gk4 => ?_)
              dsimp only
              refine wpS_ite (fun h22 => ?_) (fun h22 => ?_)
              · refine wpS_iteB (fun e => wpS_pure (.inl ⟨_, _, rfl, ((((L).ak F (k := k) (by omega) (gA F hp gk1)).pb F hq1 (gB hp hq1 gk2)).bk F (k := k2) (by omega) (gA2 F hq2 gk3)).fb F (by omega) e, g1⟩)) fun ne4 => ?_
                refine wpS_bind (wpS_elemB ha (by omega) fun q3 hq3 kq3 => ?_)
                refine wpS_iteB (fun e => wpS_pure (.inl ⟨_, _, rfl, (((((L).ak F (k := k) (by omega) (gA F hp gk1)).pb F hq1 (gB hp hq1 gk2)).bk F (k := k2) (by omega) (gA2 F hq2 gk3)).pa F hq3 (gB2 hq2 hq3 gk4)).fl F (by omega) e, g1⟩)) fun ne5 => ?_
                refine wpS_ite (fun _ => wpS_pure (.inr ⟨_, _, _, _, _, _, rfl, ⟨((((L).ak F (k := k) (by omega) (gA F hp gk1)).pb F hq1 (gB hp hq1 gk2)).bk F (k := k2) (by omega) (gA2 F hq2 gk3)).pa F hq3 (gB2 hq2 hq3 gk4), by omega, by omega, by omega⟩, g1⟩)) fun _ => wpS_pure ⟨_, _, _, _, _, _, rfl, ⟨((((L).ak F (k := k) (by omega) (gA F hp gk1)).pb F hq1 (gB hp hq1 gk2)).bk F (k := k2) (by omega) (gA2 F hq2 gk3)).pa F hq3 (gB2 hq2 hq3 gk4), by omega, by omega, by omega⟩, g1⟩
              · obtain rfl : k2 = 0 := by omega
                refine wpS_bind (wpS_elemB ha (by omega) fun q3 hq3 kq3 => ?_)
                refine wpS_iteB (fun e => wpS_pure (.inl ⟨_, _, rfl, ((((L).ak F (k := k) (by omega) (gA F hp gk1)).pb F hq1 (gB hp hq1 gk2)).pa F hq3 (gB2 (ib := ib + 1) (k := 0) hq2 hq3 gk4)).fl F (by omega) e, g1⟩)) fun ne5 => ?_
                refine wpS_ite (fun _ => wpS_pure (.inr ⟨_, _, _, _, _, _, rfl, ⟨(((L).ak F (k := k) (by omega) (gA F hp gk1)).pb F hq1 (gB hp hq1 gk2)).pa F hq3 (gB2 (ib := ib + 1) (k := 0) hq2 hq3 gk4), by omega, by omega, by omega⟩, g1⟩)) fun _ => wpS_pure ⟨_, _, _, _, _, _, rfl, ⟨(((L).ak F (k := k) (by omega) (gA F hp gk1)).pb F hq1 (gB hp hq1 gk2)).pa F hq3 (gB2 (ib := ib + 1) (k := 0) hq2 hq3 gk4), by omega, by omega, by omega⟩, g1⟩
            · obtain rfl : k = 0 := by omega
              refine wpS_bind (wpS_elemB hb (by omega) fun q1 hq1 kq1 => ?_)
              refine wpS_iteB (fun e => wpS_pure (.inl ⟨_, _, rfl, ((L).pb F hq1 (gB hp hq1 gk2)).fb F (by omega) e, g1⟩)) fun ne3 => ?_
              refine wpS_bind (wpS_elemB ha (by omega) fun q2 hq2 kq2 => ?_)
              refine wpS_bind (gallop_s g1.1.1.kind kq2 hb (by omega) (by omega) (F.ub.sub (by omega)) fun k2 hk2 gk3 gk4 => ?_)
              dsimp only
              refine wpS_ite (fun h22 => ?_) (fun h22 => ?_)
              · refine wpS_iteB (fun e => wpS_pure (.inl ⟨_, _, rfl, (((L).pb F hq1 (gB hp hq1 gk2)).bk F (k := k2) (by omega) (gA2 F hq2 gk3)).fb F (by omega) e, g1⟩)) fun ne4 => ?_
                refine wpS_bind (wpS_elemB ha (by omega) fun q3 hq3 kq3 => ?_)
                refine wpS_iteB (fun e => wpS_pure (.inl ⟨_, _, rfl, ((((L).pb F hq1 (gB hp hq1 gk2)).bk F (k := k2) (by omega) (gA2 F hq2 gk3)).pa F hq3 (gB2 hq2 hq3 gk4)).fl F (by omega) e, g1⟩)) fun ne5 => ?_
                refine wpS_ite (fun _ => wpS_pure (.inr ⟨_, _, _, _, _, _, rfl, ⟨(((L).pb F hq1 (gB hp hq1 gk2)).bk F (k := k2) (by omega) (gA2 F hq2 gk3)).pa F hq3 (gB2 hq2 hq3 gk4), by omega, by omega, by omega⟩, g1⟩)) fun _ => wpS_pure ⟨_, _, _, _, _, _, rfl, ⟨(((L).pb F hq1 (gB hp hq1 gk2)).bk F (k := k2) (by omega) (gA2 F hq2 gk3)).pa F hq3 (gB2 hq2 hq3 gk4), by omega, by omega, by omega⟩, g1⟩
              · obtain rfl : k2 = 0 := by omega
                refine wpS_bind (wpS_elemB ha (by omega) fun q3 hq3 kq3 => ?_)
                refine wpS_iteB (fun e => wpS_pure (.inl ⟨_, _, rfl, (((L).pb F hq1 (gB hp hq1 gk2)).pa F hq3 (gB2 (ib := ib + 1) (k := 0) hq2 hq3 gk4)).fl F (by omega) e, g1⟩)) fun ne5 => ?_
                refine wpS_ite (fun _ => wpS_pure (.inr ⟨_, _, _, _, _, _, rfl, ⟨((L).pb F hq1 (gB hp hq1 gk2)).pa F hq3 (gB2 (ib := ib + 1) (k := 0) hq2 hq3 gk4), by omega, by omega, by omega⟩, g1⟩)) fun _ => wpS_pure ⟨_, _, _, _, _, _, rfl, ⟨((L).pb F hq1 (gB hp hq1 gk2)).pa F hq3 (gB2 (ib := ib + 1) (k := 0) hq2 hq3 gk4), by omega, by omega, by omega⟩, g1⟩
          · refine wpS_bind (wpS_setMin g fun st1 g1 => ?_)
            refine wpS_bind (wpS_elemB hb (by omega) fun p hp kp => ?_)
            refine wpS_bind (gallop_s g1.1.1.kind kp ha (by omega) (by omega) (F.ua.sub (by omega)) fun k hk gk1 gk2 => ?_)
            dsimp only
            refine wpS_ite (fun hk0 => ?_) (fun hk0 => ?_)
            · refine wpS_iteB (fun e => wpS_pure (.inl ⟨_, _, rfl, ((L).ak F (k := k) (by omega) (gA F hp gk1)).fl F (by omega) e, g1⟩)) fun ne1 => ?_
              refine wpS_iteB (fun e => wpS_pure (.inl ⟨_, _, rfl, ((L).ak F (k := k) (by omega) (gA F hp gk1)).fa F (by omega) e, g1⟩)) fun ne2 => ?_
              refine wpS_bind (wpS_elemB hb (by omega) fun q1 hq1 kq1 => ?_)
              refine wpS_iteB (fun e => wpS_pure (.inl ⟨_, _, rfl, (((L).ak F (k := k) (by omega) (gA F hp gk1)).pb F hq1 (gB hp hq1 gk2)).fb F (by omega) e, g1⟩)) fun ne3 => ?_
              refine wpS_bind (wpS_elemB ha (by omega) fun q2 hq2 kq2 => ?_)
              refine wpS_bind (gallop_s g1.1.1.kind kq2 hb (by omega) (by omega) (F.ub.sub (by omega)) fun k2 hk2 gk3 gk4 => ?_)
              dsimp only
              refine wpS_ite (fun h22 => ?_) (fun h22 => ?_)
              · refine wpS_iteB (fun e => wpS_pure (.inl ⟨_, _, rfl, ((((L).ak F (k := k) (by omega) (gA F hp gk1)).pb F hq1 (gB hp hq1 gk2)).bk F (k := k2) (by omega) (gA2 F hq2 gk3)).fb F (by omega) e, g1⟩)) fun ne4 => ?_
                refine wpS_bind (wpS_elemB ha (by omega) fun q3 hq3 kq3 => ?_)
                refine wpS_iteB (fun e => wpS_pure (.inl ⟨_, _, rfl, (((((L).ak F (k := k) (by omega) (gA F hp gk1)).pb F hq1 (gB hp hq1 gk2)).bk F (k := k2) (by omega) (gA2 F hq2 gk3)).pa F hq3 (gB2 hq2 hq3 gk4)).fl F (by omega) e, g1⟩)) fun ne5 => ?_
                refine wpS_ite (fun _ => wpS_pure (.inr ⟨_, _, _, _, _, _, rfl, ⟨((((L).ak F (k := k) (by omega) (gA F hp gk1)).pb F hq1 (gB hp hq1 gk2)).bk F (k := k2) (by omega) (gA2 F hq2 gk3)).pa F hq3 (gB2 hq2 hq3 gk4), by omega, by omega, by omega⟩, g1⟩)) fun _ => wpS_pure ⟨_, _, _, _, _, _, rfl, ⟨((((L).ak F (k := k) (by omega) (gA F hp gk1)).pb F hq1 (gB hp hq1 gk2)).bk F (k := k2) (by omega) (gA2 F hq2 gk3)).pa F hq3 (gB2 hq2 hq3 gk4), by omega, by omega, by omega⟩, g1⟩
              · obtain rfl : k2 = 0 := by omega
                refine wpS_bind (wpS_elemB ha (by omega) fun q3 hq3 kq3 => ?_)
                refine wpS_iteB (fun e => wpS_pure (.inl ⟨_, _, rfl, ((((L).ak F (k := k) (by omega) (gA F hp gk1)).pb F hq1 (gB hp hq1 gk2)).pa F hq3 (gB2 (ib := ib + 1) (k := 0) hq2 hq3 gk4)).fl F (by omega) e, g1⟩)) fun ne5 => ?_
                refine wpS_ite (fun _ => wpS_pure (.inr ⟨_, _, _, _, _, _, rfl, ⟨(((L).ak F (k := k) (by omega) (gA F hp gk1)).pb F hq1 (gB hp hq1 gk2)).pa F hq3 (gB2 (ib := ib + 1) (k := 0) hq2 hq3 gk4), by omega, by omega, by omega⟩, g1⟩)) fun _ => wpS_pure ⟨_, _, _, _, _, _, rfl, ⟨(((L).ak F (k := k) (by omega) (gA F hp gk1)).pb F hq1 (gB hp hq1 gk2)).pa F hq3 (gB2 (ib := ib + 1) (k := 0) hq2 hq3 gk4), by omega, by omega, by omega⟩, g1⟩
            · obtain rfl : k = 0 := by omega
              refine wpS_bind (wpS_elemB hb (by omega) fun q1 hq1 kq1 => ?_)
              refine wpS_iteB (fun e => wpS_pure (.inl ⟨_, _, rfl, ((L).pb F hq1 (gB hp hq1 gk2)).fb F (by omega) e, g1⟩)) fun ne3 => ?_
              refine wpS_bind (wpS_elemB ha (by omega) fun q2 hq2 kq2 => ?_)
              refine wpS_bind (gallop_s g1.1.1.kind kq2 hb (by omega) (by omega) (F.ub.sub (by omega)) fun k2 hk2 gk3 gk4 => ?_)
              dsimp only
              refine wpS_ite (fun h22 => ?_) (fun h22 => ?_)
              · refine wpS_iteB (fun e => wpS_pure (.inl ⟨_, _, rfl, (((L).pb F hq1 (gB hp hq1 gk2)).bk F (k := k2) (by omega) (gA2 F hq2 gk3)).fb F (by omega) e, g1⟩)) fun ne4 => ?_
                refine wpS_bind (wpS_elemB ha (by omega) fun q3 hq3 kq3 => ?_)
                refine wpS_iteB (fun e => wpS_pure (.inl ⟨_, _, rfl, ((((L).pb F hq1 (gB hp hq1 gk2)).bk F (k := k2) (by omega) (gA2 F hq2 gk3)).pa F hq3 (gB2 hq2 hq3 gk4)).fl F (by omega) e, g1⟩)) fun ne5 => ?_
                refine wpS_ite (fun _ => wpS_pure (.inr ⟨_, _, _, _, _, _, rfl, ⟨(((L).pb F hq1 (gB hp hq1 gk2)).bk F (k := k2) (by omega) (gA2 F hq2 gk3)).pa F hq3 (gB2 hq2 hq3 gk4), by omega, by omega, by omega⟩, g1⟩)) fun _ => wpS_pure ⟨_, _, _, _, _, _, rfl, ⟨(((L).pb F hq1 (gB hp hq1 gk2)).bk F (k := k2) (by omega) (gA2 F hq2 gk3)).pa F hq3 (gB2 hq2 hq3 gk4), by omega, by omega, by omega⟩, g1⟩
              · obtain rfl : k2 = 0 := by omega
                refine wpS_bind (wpS_elemB ha (by omega) fun q3 hq3 kq3 => ?_)
                refine wpS_iteB (fun e => wpS_pure (.inl ⟨_, _, rfl, (((L).pb F hq1 (gB hp hq1 gk2)).pa F hq3 (gB2 (ib := ib + 1) (k := 0) hq2 hq3 gk4)).fl F (by omega) e, g1⟩)) fun ne5 => ?_
                refine wpS_ite (fun _ => wpS_pure (.inr ⟨_, _, _, _, _, _, rfl, ⟨((L).pb F hq1 (gB hp hq1 gk2)).pa F hq3 (gB2 (ib := ib + 1) (k := 0) hq2 hq3 gk4), by omega, by omega, by omega⟩, g1⟩)) fun _ => wpS_pure ⟨_, _, _, _, _, _, rfl, ⟨((L).pb F hq1 (gB hp hq1 gk2)).pa F hq3 (gB2 (ib := ib + 1) (k := 0) hq2 hq3 gk4), by omega, by omega, by omega⟩, g1⟩
        · rintro c st3 z; exact .inr z
        · rintro c st3 (⟨r, y, rfl, p, g⟩ | ⟨out, ia, ib, mg, ac, bc, rfl, m, g⟩)
          · exact wpS_pure ⟨_, _, rfl, p, g⟩
          · exact wpS_bind (wpS_setMin g fun st4 g4 => wpS_pure ⟨_, _, _, _, rfl, m, g4⟩)
end
end SB

set_option Elab.async false
set_option maxRecDepth 100000
set_option maxHeartbeats 4000000
namespace SB
open PySem PyProof.Rows
section
variable {prog : Program} {w : World} {A : Around} {E : Value → Shared → Prop} {s : Shared} {a0 : Array Keyed}
theorem mergeHi_s {a b : Array Keyed} {pe : Array (Nat × Nat × Nat)} {xs : Array Keyed} {st : SortSt} {Q : Array Keyed → SortSt → Prop} (hB : GX a0 pe xs st) (ha : IntKeys a) (hb : IntKeys b) (ha1 : 1 ≤ a.size) (hb1 : 1 ≤ b.size)
    (F : Fit a b) (h : ∀ out st', GX a0 pe xs st' → Mg a b out → Q out st') : wpS (model prog w) A E s (mergeHi' a b) Q st := by
  show wpS _ _ _ _ (_ >>= _) _ _
  refine wpS_bind (wpS_lift (wpAny_rule ⟨rfl, ?_⟩))
  obtain ⟨b0, e0, _⟩ := ik_at ha (i := a.size - 1) (by omega)
  refine wpS_bind (wpS_elem e0 ?_)
  have L0 : OdH a b (a.size - 1) b.size #[b0] := by
    refine ⟨?_, List.pairwise_singleton _ _, fun p hp j hj => ?_, fun p hp j hj => ?_⟩
    · unfold LaidH
      rw [drop_at e0, List.drop_of_length_le (by simp; omega), List.drop_of_length_le (by simp)]
      simp
    · obtain rfl := List.mem_singleton.mp hp
      rw [← K_at e0]; exact F.ua _ _ (by omega) (by omega) (by omega)
    · obtain rfl := List.mem_singleton.mp hp
      rw [← K_at e0]; exact F.la j hj
  dsimp only
  refine wpS_iteB (fun h1 => wpS_pure (h _ _ hB (L0.fz F (by omega) h1))) fun h1 => ?_
  refine wpS_iteB (fun h2 => wpS_pure (h _ _ hB (L0.fl F (by omega) (by omega) h2))) fun h2 => ?_
  refine wpS_bind (wpS_get ?_)
  refine wpS_bind (wpS_mono (wpS_forRange (a := 0) (I := fun x c st' => ∃ out na nb mg, c = (none, na, nb, out, mg) ∧ MidHO a b (x + 1) na nb out ∧ GX a0 pe xs st') (Q := MRetO a b (GX a0 pe xs)) ?step ?fin ⟨#[b0], a.size - 1, b.size, gallopOf st, rfl, ⟨L0, by omega, by omega, by omega, by omega, by omega⟩, hB⟩) ?post)
  case fin =>
    rintro c st' ⟨out, na, nb, mg, rfl, m, g⟩
    have := m.ha; have := m.hb; have := m.pr
    exfalso; omega
  case post =>
    rintro c st' ⟨r, y, rfl, p, g⟩
    exact wpS_pure (h _ _ g p)
  case step =>
    rintro x c st1 _ hx ⟨out, na, nb, mg, rfl, m, g⟩
    dsimp only
    refine wpS_bind (wpS_mono (wpS_forRange (I := fun x2 c st' => ∃ out na nb ac bc, c = (none, na, nb, out, ac, bc) ∧ MidHO a b (x + 1 + min x2 1) na nb out ∧ GX a0 pe xs st')
      (Q := fun c st' => MRetO a b (GX a0 pe xs) c st' ∨ ∃ out na nb ac bc, c = (none, na, nb, out, ac, bc) ∧ MidHO a b (x + 2) na nb out ∧ GX a0 pe xs st') ?_ ?_ ⟨_, _, _, _, _, rfl, m, g⟩) ?_)
    · rintro x2 c st2 _ hx2 ⟨out, na, nb, ac, bc, rfl, m, g⟩
      have m1 := m.ha; have m2 := m.hb; have m3 := m.pr; have m4 := m.ha2; have m5 := m.hb2
      dsimp only
      refine wpS_bind (wpS_elemB hb (by omega) fun p1 hp1 kp1 => ?_)
      refine wpS_bind (wpS_elemB ha (by omega) fun p2 hp2 kp2 => ?_)
      refine wpS_bind (wpS_ltP g.1.1.kind kp1 kp2 ?_)
      dsimp only
      refine wpS_ite (fun hbw => ?_) (fun hbw => ?_)
      · refine wpS_bind (wpS_elemB ha (by omega) fun p3 hp3 kp3 => ?_)
        have X := ltAH F hp1 hp2 hp3 m5 (of_decide_eq_true hbw)
        refine wpS_iteB (fun e => wpS_pure (.inl ⟨_, _, rfl, (m.laid.pa F (by omega) hp3 X).fz F (by omega) e, g⟩)) fun ne => ?_
        exact wpS_ite (fun _ => wpS_pure (.inr ⟨_, _, _, _, _, rfl, ⟨m.laid.pa F (by omega) hp3 X, by omega, by omega, by omega, by omega, by omega⟩, g⟩)) fun _ => wpS_pure ⟨_, _, _, _, _, rfl, ⟨m.laid.pa F (by omega) hp3 X, by omega, by omega, by omega, by omega, by omega⟩, g⟩
      · refine wpS_bind (wpS_elemB hb (by omega) fun p3 hp3 kp3 => ?_)
        have X := ltBH F hp1 hp2 hp3 m4 fun z => hbw (decide_eq_true z)
        refine wpS_iteB (fun e => wpS_pure (.inl ⟨_, _, rfl, (m.laid.pb F (by omega) hp3 X).fl F (by omega) (by omega) e, g⟩)) fun ne => ?_
        exact wpS_ite (fun _ => wpS_pure (.inr ⟨_, _, _, _, _, rfl, ⟨m.laid.pb F (by omega) hp3 X, by omega, by omega, by omega, by omega, by omega⟩, g⟩)) fun _ => wpS_pure ⟨_, _, _, _, _, rfl, ⟨m.laid.pb F (by omega) hp3 X, by omega, by omega, by omega, by omega, by omega⟩, g⟩
    · rintro c st2 ⟨out, na, nb, ac, bc, rfl, m, g⟩
      exact .inr ⟨_, _, _, _, _, rfl, ⟨m.laid, m.ha, m.ha2, m.hb, m.hb2, by have := m.pr; omega⟩, g⟩
    · rintro c st2 (⟨r, y, rfl, p, g⟩ | ⟨out, na, nb, ac, bc, rfl, m, g⟩)
      · exact wpS_pure ⟨_, _, rfl, p, g⟩
      · dsimp only
        refine wpS_bind (wpS_lift (wpAny_rule ⟨rfl, ?_⟩))
        refine wpS_bind (wpS_mono (wpS_forRange (I := fun _ c st' => ∃ out na nb mg ac bc, c = (none, na, nb, out, mg, ac, bc) ∧ MidHO a b (x + 2) na nb out ∧ GX a0 pe xs st')
          (Q := fun c st' => MRetO a b (GX a0 pe xs) c st' ∨ ∃ out na nb mg ac bc, c = (none, na, nb, out, mg, ac, bc) ∧ MidHO a b (x + 2) na nb out ∧ GX a0 pe xs st') ?_ ?_ ⟨_, _, _, _, _, _, rfl, m, g⟩) ?_)
        · rintro x3 c st3 _ hx3 ⟨out, na, nb, mg, ac, bc, rfl, m, g⟩
          have m1 := m.ha; have m2 := m.hb; have m3 := m.pr; have m4 := m.ha2; have m5 := m.hb2
          have L := m.laid
          dsimp only
          refine wpS_ite (fun hm => ?_) (fun hm => ?_)
          · refine wpS_bind (wpS_setMin g fun st1 g1 => ?_)
            refine wpS_bind (wpS_elemB hb (by omega) fun p hp kp => ?_)
            refine wpS_bind (gallop_s g1.1.1.kind kp ha (by omega) (by omega) (F.ua.sub (by omega)) fun k hk gk1 gk2 => ?_)
            dsimp only
            refine wpS_ite (fun hk0 => ?_) (fun hk0 => ?_)
            · refine wpS_iteB (fun e => wpS_pure (.inl ⟨_, _, rfl, ((L).ak F hk (by omega) (hA1 F hp (by omega) gk2)).fz F (by omega) e, g1⟩)) fun ne1 => ?_
              refine wpS_bind (wpS_elemB hb (by omega) fun q1 hq1 kq1 => ?_)
              refine wpS_iteB (fun e => wpS_pure (.inl ⟨_, _, rfl, (((L).ak F hk (by omega) (hA1 F hp (by omega) gk2)).pb F (by omega) hq1 (fun j hj => hB1 hp hq1 gk1 j (by omega))).fl F (by omega) (by omega) e, g1⟩)) fun ne3 => ?_
              refine wpS_bind (wpS_elemB ha (by omega) fun q2 hq2 kq2 => ?_)
              refine wpS_bind (gallop_s g1.1.1.kind kq2 hb (by omega) (by omega) (F.ub.sub (by omega)) fun k2 hk2 gk3 gk4 => ?_)
              dsimp only
              refine wpS_ite (fun h22 => ?_) (fun h22 => ?_)
              · refine wpS_iteB (fun e => wpS_pure (.inl ⟨_, _, rfl, ((((L).ak F hk (by omega) (hA1 F hp (by omega) gk2)).pb F (by omega) hq1 (fun j hj => hB1 hp hq1 gk1 j (by omega))).bk F hk2 (by omega) (hA2 F hq2 (by omega) gk4)).fl F (by omega) (by omega) e, g1⟩)) fun ne4 => ?_
                refine wpS_iteB (fun e => wpS_pure (.inl ⟨_, _, rfl, ((((L).ak F hk (by omega) (hA1 F hp (by omega) gk2)).pb F (by omega) hq1 (fun j hj => hB1 hp hq1 gk1 j (by omega))).bk F hk2 (by omega) (hA2 F hq2 (by omega) gk4)).fn F (by omega) e, g1⟩)) fun ne4b => ?_
                refine wpS_bind (wpS_elemB ha (by omega) fun q3 hq3 kq3 => ?_)
                refine wpS_iteB (fun e => wpS_pure (.inl ⟨_, _, rfl, (((((L).ak F hk (by omega) (hA1 F hp (by omega) gk2)).pb F (by omega) hq1 (fun j hj => hB1 hp hq1 gk1 j (by omega))).bk F hk2 (by omega) (hA2 F hq2 (by omega) gk4)).pa F (by omega) hq3 (fun j hj => hB2 hq2 hq3 gk3 j (by omega))).fz F (by omega) e, g1⟩)) fun ne5 => ?_
                refine wpS_ite (fun _ => wpS_pure (.inr ⟨_, _, _, _, _, _, rfl, ⟨((((L).ak F hk (by omega) (hA1 F hp (by omega) gk2)).pb F (by omega) hq1 (fun j hj => hB1 hp hq1 gk1 j (by omega))).bk F hk2 (by omega) (hA2 F hq2 (by omega) gk4)).pa F (by omega) hq3 (fun j hj => hB2 hq2 hq3 gk3 j (by omega)), by omega, by omega, by omega, by omega, by omega⟩, g1⟩)) fun _ => wpS_pure ⟨_, _, _, _, _, _, rfl, ⟨((((L).ak F hk (by omega) (hA1 F hp (by omega) gk2)).pb F (by omega) hq1 (fun j hj => hB1 hp hq1 gk1 j (by omega))).bk F hk2 (by omega) (hA2 F hq2 (by omega) gk4)).pa F (by omega) hq3 (fun j hj => hB2 hq2 hq3 gk3 j (by omega)), by omega, by omega, by omega, by omega, by omega⟩, g1⟩
              · refine wpS_bind (wpS_elemB ha (by omega) fun q3 hq3 kq3 => ?_)
                refine wpS_iteB (fun e => wpS_pure (.inl ⟨_, _, rfl, ((((L).ak F hk (by omega) (hA1 F hp (by omega) gk2)).pb F (by omega) hq1 (fun j hj => hB1 hp hq1 gk1 j (by omega))).pa F (by omega) hq3 (fun j hj => hB2 hq2 hq3 gk3 j (by omega))).fz F (by omega) e, g1⟩)) fun ne5 => ?_
                refine wpS_ite (fun _ => wpS_pure (.inr ⟨_, _, _, _, _, _, rfl, ⟨(((L).ak F hk (by omega) (hA1 F hp (by omega) gk2)).pb F (by omega) hq1 (fun j hj => hB1 hp hq1 gk1 j (by omega))).pa F (by omega) hq3 (fun j hj => hB2 hq2 hq3 gk3 j (by omega)), by omega, by omega, by omega, by omega, by omega⟩, g1⟩)) fun _ => wpS_pure ⟨_, _, _, _, _, _, rfl, ⟨(((L).ak F hk (by omega) (hA1 F hp (by omega) gk2)).pb F (by omega) hq1 (fun j hj => hB1 hp hq1 gk1 j (by omega))).pa F (by omega) hq3 (fun j hj => hB2 hq2 hq3 gk3 j (by omega)), by omega, by omega, by omega, by omega, by omega⟩, g1⟩
            · refine wpS_bind (wpS_elemB hb (by omega) fun q1 hq1 kq1 => ?_)
              refine wpS_iteB (fun e => wpS_pure (.inl ⟨_, _, rfl, ((L).pb F (by omega) hq1 (fun j hj => hB1 hp hq1 gk1 j (by omega))).fl F (by omega) (by omega) e, g1⟩)) fun ne3 => ?_
              refine wpS_bind (wpS_elemB ha (by omega) fun q2 hq2 kq2 => ?_)
              refine wpS_bind (gallop_s g1.1.1.kind kq2 hb (by omega) (by omega) (F.ub.sub (by omega)) fun k2 hk2 gk3 gk4 => ?_)
              dsimp only
              refine wpS_ite (fun h22 => ?_) (fun h22 => ?_)
              · refine wpS_iteB (fun e => wpS_pure (.inl ⟨_, _, rfl, (((L).pb F (by omega) hq1 (fun j hj => hB1 hp hq1 gk1 j (by omega))).bk F hk2 (by omega) (hA2 F hq2 (by omega) gk4)).fl F (by omega) (by omega) e, g1⟩)) fun ne4 => ?_
                refine wpS_iteB (fun e => wpS_pure (.inl ⟨_, _, rfl, (((L).pb F (by omega) hq1 (fun j hj => hB1 hp hq1 gk1 j (by omega))).bk F hk2 (by omega) (hA2 F hq2 (by omega) gk4)).fn F (by omega) e, g1⟩)) fun ne4b => ?_
                refine wpS_bind (wpS_elemB ha (by omega) fun q3 hq3 kq3 => ?_)
                refine wpS_iteB (fun e => wpS_pure (.inl ⟨_, _, rfl, ((((L).pb F (by omega) hq1 (fun j hj => hB1 hp hq1 gk1 j (by omega))).bk F hk2 (by omega) (hA2 F hq2 (by omega) gk4)).pa F (by omega) hq3 (fun j hj => hB2 hq2 hq3 gk3 j (by omega))).fz F (by omega) e, g1⟩)) fun ne5 => ?_
                refine wpS_ite (fun _ => wpS_pure (.inr ⟨_, _, _, _, _, _, rfl, ⟨(((L).pb F (by omega) hq1 (fun j hj => hB1 hp hq1 gk1 j (by omega))).bk F hk2 (by omega) (hA2 F hq2 (by omega) gk4)).pa F (by omega) hq3 (fun j hj => hB2 hq2 hq3 gk3 j (by omega)), by omega, by omega, by omega, by omega, by omega⟩, g1⟩)) fun _ => wpS_pure ⟨_, _, _, _, _, _, rfl, ⟨(((L).pb F (by omega) hq1 (fun j hj => hB1 hp hq1 gk1 j (by omega))).bk F hk2 (by omega) (hA2 F hq2 (by omega) gk4)).pa F (by omega) hq3 (fun j hj => hB2 hq2 hq3 gk3 j (by omega)), by omega, by omega, by omega, by omega, by omega⟩, g1⟩
              · refine wpS_bind (wpS_elemB ha (by omega) fun q3 hq3 kq3 => ?_)
                refine wpS_iteB (fun e => wpS_pure (.inl ⟨_, _, rfl, (((L).pb F (by omega) hq1 (fun j hj => hB1 hp hq1 gk1 j (by omega))).pa F (by omega) hq3 (fun j hj => hB2 hq2 hq3 gk3 j (by omega))).fz F (by omega) e, g1⟩)) fun ne5 => ?_
                refine wpS_ite (fun _ => wpS_pure (.inr ⟨_, _, _, _, _, _, rfl, ⟨((L).pb F (by omega) hq1 (fun j hj => hB1 hp hq1 gk1 j (by omega))).pa F (by omega) hq3 (fun j hj => hB2 hq2 hq3 gk3 j (by omega)), by omega, by omega, by omega, by omega, by omega⟩, g1⟩)) fun _ => wpS_pure ⟨_, _, _, _, _, _, rfl, ⟨((L).pb F (by omega) hq1 (fun j hj => hB1 hp hq1 gk1 j (by omega))).pa F (by omega) hq3 (fun j hj => hB2 hq2 hq3 gk3 j (by omega)), by omega, by omega, by omega, by omega, by omega⟩, g1⟩
          · refine wpS_bind (wpS_setMin g fun st1 g1 => ?_)
            refine wpS_bind (wpS_elemB hb (by omega) fun p hp kp => ?_)
            refine wpS_bind (gallop_s g1.1.1.kind kp ha (by omega) (by omega) (F.ua.sub (by omega)) fun k hk gk1 gk2 => ?_)
            dsimp only
            refine wpS_ite (fun hk0 => ?_) (fun hk0 => ?_)
            · refine wpS_iteB (fun e => wpS_pure (.inl ⟨_, _, rfl, ((L).ak F hk (by omega) (hA1 F hp (by omega) gk2)).fz F (by omega) e, g1⟩)) fun ne1 => ?_
              refine wpS_bind (wpS_elemB hb (by omega) fun q1 hq1 kq1 => ?_)
              refine wpS_iteB (fun e => wpS_pure (.inl ⟨_, _, rfl, (((L).ak F hk (by omega) (hA1 F hp (by omega) gk2)).pb F (by omega) hq1 (fun j hj => hB1 hp hq1 gk1 j (by omega))).fl F (by omega) (by omega) e, g1⟩)) fun ne3 => ?_
              refine wpS_bind (wpS_elemB ha (by omega) fun q2 hq2 kq2 => ?_)
              refine wpS_bind (gallop_s g1.1.1.kind kq2 hb (by omega) (by omega) (F.ub.sub (by omega)) fun k2 hk2 gk3 gk4 => ?_)
              dsimp only
              refine wpS_ite (fun h22 => ?_) (fun h22 => ?_)
              · refine wpS_iteB (fun e => wpS_pure (.inl ⟨_, _, rfl, ((((L).ak F hk (by omega) (hA1 F hp (by omega) gk2)).pb F (by omega) hq1 (fun j hj => hB1 hp hq1 gk1 j (by omega))).bk F hk2 (by omega) (hA2 F hq2 (by omega) gk4)).fl F (by omega) (by omega) e, g1⟩)) fun ne4 => ?_
                refine wpS_iteB (fun e => wpS_pure (.inl ⟨_, _, rfl, ((((L).ak F hk (by omega) (hA1 F hp (by omega) gk2)).pb F (by omega) hq1 (fun j hj => hB1 hp hq1 gk1 j (by omega))).bk F hk2 (by omega) (hA2 F hq2 (by omega) gk4)).fn F (by omega) e, g1⟩)) fun ne4b => ?_
                refine wpS_bind (wpS_elemB ha (by omega) fun q3 hq3 kq3 => ?_)
                refine wpS_iteB (fun e => wpS_pure (.inl ⟨_, _, rfl, (((((L).ak F hk (by omega) (hA1 F hp (by omega) gk2)).pb F (by omega) hq1 (fun j hj => hB1 hp hq1 gk1 j (by omega))).bk F hk2 (by omega) (hA2 F hq2 (by omega) gk4)).pa F (by omega) hq3 (fun j hj => hB2 hq2 hq3 gk3 j (by omega))).fz F (by omega) e, g1⟩)) fun ne5 => ?_
                refine wpS_ite (fun _ => wpS_pure (.inr ⟨_, _, _, _, _, _, rfl, ⟨((((L).ak F hk (by omega) (hA1 F hp (by omega) gk2)).pb F (by omega) hq1 (fun j hj => hB1 hp hq1 gk1 j (by omega))).bk F hk2 (by omega) (hA2 F hq2 (by omega) gk4)).pa F (by omega) hq3 (fun j hj => hB2 hq2 hq3 gk3 j (by omega)), by omega, by omega, by omega, by omega, by omega⟩, g1⟩)) fun _ => wpS_pure ⟨_, _, _, _, _, _, rfl, ⟨((((L).ak F hk (by omega) (hA1 F hp (by omega) gk2)).pb F (by omega) hq1 (fun j hj => hB1 hp hq1 gk1 j (by omega))).bk F hk2 (by omega) (hA2 F hq2 (by omega) gk4)).pa F (by omega) hq3 (fun j hj => hB2 hq2 hq3 gk3 j (by omega)), by omega, by omega, by omega, by omega, by omega⟩, g1⟩
              · refine wpS_bind (wpS_elemB ha (by omega) fun q3 hq3 kq3 => ?_)
                refine wpS_iteB (fun e => wpS_pure (.inl ⟨_, _, rfl, ((((L).ak F hk (by omega) (hA1 F hp (by omega) gk2)).pb F (by omega) hq1 (fun j hj => hB1 hp hq1 gk1 j (by omega))).pa F (by omega) hq3 (fun j hj => hB2 hq2 hq3 gk3 j (by omega))).fz F (by omega) e, g1⟩)) fun ne5 => ?_
                refine wpS_ite (fun _ => wpS_pure (.inr ⟨_, _, _, _, _, _, rfl, ⟨(((L).ak F hk (by omega) (hA1 F hp (by omega) gk2)).pb F (by omega) hq1 (fun j hj => hB1 hp hq1 gk1 j (by omega))).pa F (by omega) hq3 (fun j hj => hB2 hq2 hq3 gk3 j (by omega)), by omega, by omega, by omega, by omega, by omega⟩, g1⟩)) fun _ => wpS_pure ⟨_, _, _, _, _, _, rfl, ⟨(((L).ak F hk (by omega) (hA1 F hp (by omega) gk2)).pb F (by omega) hq1 (fun j hj => hB1 hp hq1 gk1 j (by omega))).pa F (by omega) hq3 (fun j hj => hB2 hq2 hq3 gk3 j (by omega)), by omega, by omega, by omega, by omega, by omega⟩, g1⟩
            · refine wpS_bind (wpS_elemB hb (by omega) fun q1 hq1 kq1 => ?_)
              refine wpS_iteB (fun e => wpS_pure (.inl ⟨_, _, rfl, ((L).pb F (by omega) hq1 (fun j hj => hB1 hp hq1 gk1 j (by omega))).fl F (by omega) (by omega) e, g1⟩)) fun ne3 => ?_
              refine wpS_bind (wpS_elemB ha (by omega) fun q2 hq2 kq2 => ?_)
              refine wpS_bind (gallop_s g1.1.1.kind kq2 hb (by omega) (by omega) (F.ub.sub (by omega)) fun k2 hk2 gk3 gk4 => ?_)
              dsimp only
              refine wpS_ite (fun h22 => ?_) (fun h22 => ?_)
              · refine wpS_iteB (fun e => wpS_pure (.inl ⟨_, _, rfl, (((L).pb F (by omega) hq1 (fun j hj => hB1 hp hq1 gk1 j (by omega))).bk F hk2 (by omega) (hA2 F hq2 (by omega) gk4)).fl F (by omega) (by omega) e, g1⟩)) fun ne4 => ?_
                refine wpS_iteB (fun e => wpS_pure (.inl ⟨_, _, rfl, (((L).pb F (by omega) hq1 (fun j hj => hB1 hp hq1 gk1 j (by omega))).bk F hk2 (by omega) (hA2 F hq2 (by omega) gk4)).fn F (by omega) e, g1⟩)) fun ne4b => ?_
                refine wpS_bind (wpS_elemB ha (by omega) fun q3 hq3 kq3 => ?_)
                refine wpS_iteB (fun e => wpS_pure (.inl ⟨_, _, rfl, ((((L).pb F (by omega) hq1 (fun j hj => hB1 hp hq1 gk1 j (by omega))).bk F hk2 (by omega) (hA2 F hq2 (by omega) gk4)).pa F (by omega) hq3 (fun j hj => hB2 hq2 hq3 gk3 j (by omega))).fz F (by omega) e, g1⟩)) fun ne5 => ?_
                refine wpS_ite (fun _ => wpS_pure (.inr ⟨_, _, _, _, _, _, rfl, ⟨(((L).pb F (by omega) hq1 (fun j hj => hB1 hp hq1 gk1 j (by omega))).bk F hk2 (by omega) (hA2 F hq2 (by omega) gk4)).pa F (by omega) hq3 (fun j hj => hB2 hq2 hq3 gk3 j (by omega)), by omega, by omega, by omega, by omega, by omega⟩, g1⟩)) fun _ => wpS_pure ⟨_, _, _, _, _, _, rfl, ⟨(((L).pb F (by omega) hq1 (fun j hj => hB1 hp hq1 gk1 j (by omega))).bk F hk2 (by omega) (hA2 F hq2 (by omega) gk4)).pa F (by omega) hq3 (fun j hj => hB2 hq2 hq3 gk3 j (by omega)), by omega, by omega, by omega, by omega, by omega⟩, g1⟩
              · refine wpS_bind (wpS_elemB ha (by omega) fun q3 hq3 kq3 => ?_)
                refine wpS_iteB (fun e => wpS_pure (.inl ⟨_, _, rfl, (((L).pb F (by omega) hq1 (fun j hj => hB1 hp hq1 gk1 j (by omega))).pa F (by omega) hq3 (fun j hj => hB2 hq2 hq3 gk3 j (by omega))).fz F (by omega) e, g1⟩)) fun ne5 => ?_
                refine wpS_ite (fun _ => wpS_pure (.inr ⟨_, _, _, _, _, _, rfl, ⟨((L).pb F (by omega) hq1 (fun j hj => hB1 hp hq1 gk1 j (by omega))).pa F (by omega) hq3 (fun j hj => hB2 hq2 hq3 gk3 j (by omega)), by omega, by omega, by omega, by omega, by omega⟩, g1⟩)) fun _ => wpS_pure ⟨_, _, _, _, _, _, rfl, ⟨((L).pb F (by omega) hq1 (fun j hj => hB1 hp hq1 gk1 j (by omega))).pa F (by omega) hq3 (fun j hj => hB2 hq2 hq3 gk3 j (by omega)), by omega, by omega, by omega, by omega, by omega⟩, g1⟩
        · rintro c st3 z; exact .inr z
        · rintro c st3 (⟨r, y, rfl, p, g⟩ | ⟨out, na, nb, mg, ac, bc, rfl, m, g⟩)
          · exact wpS_pure ⟨_, _, rfl, p, g⟩
          · exact wpS_bind (wpS_setMin g fun st4 g4 => wpS_pure ⟨_, _, _, _, rfl, m, g4⟩)

end
end SB

set_option Elab.async false
set_option maxRecDepth 100000
set_option maxHeartbeats 4000000
namespace SB
open PySem PyProof.Rows
section
variable {prog : Program} {w : World} {A : Around} {E : Value → Shared → Prop} {s : Shared} {a0 : Array Keyed}
theorem K_ext {xs : Array Keyed} {i j m : Nat} (hm : i + m < j) (hj : j ≤ xs.size) : K (xs.extract i j) m = K xs (i + m) := by
  have h : (xs.extract i j)[m]? = xs[i + m]? := by
    rw [Array.getElem?_extract, if_pos (by omega)]
  exact K_congr h
theorem K_list (xs : Array Keyed) (i : Nat) : K xs i = ((xs.toList[i]?).map ks).getD 0 := by
  unfold K
  rw [Array.getElem?_toList]
  cases xs[i]? <;> rfl
theorem put_up {xs ys out : Array Keyed} {sa m1 m2 e : Nat} (hl : ys.toList = xs.toList.take m1 ++ out.toList ++ xs.toList.drop m2) (h12 : m1 ≤ m2) (h2 : m2 ≤ xs.size) (ho : out.size = m2 - m1) (hs : Srt out.toList)
    (u1 : Up xs sa m1) (u2 : Up xs m2 e) (c1 : ∀ i, sa ≤ i → i < m1 → ∀ p, p ∈ out.toList → K xs i ≤ ks p) (c2 : ∀ j, m2 ≤ j → j < e → ∀ p, p ∈ out.toList → ks p ≤ K xs j)
    (c3 : ∀ i j, sa ≤ i → i < m1 → m2 ≤ j → j < e → K xs i ≤ K xs j) : Up ys sa e ∧ ∀ k, k < m1 ∨ m2 ≤ k → K ys k = K xs k := by
  have lt : (xs.toList.take m1).length = m1 := by rw [List.length_take, Array.length_toList]; omega
  have lo : out.toList.length = m2 - m1 := by rw [Array.length_toList]; exact ho
  have e1 : ∀ k, k < m1 → K ys k = K xs k := fun k hk => by
    rw [K_list, K_list, hl, List.append_assoc, List.getElem?_append_left (by omega), List.getElem?_take_of_lt hk]
  have e2 : ∀ k, m2 ≤ k → K ys k = K xs k := fun k hk => by
    rw [K_list, K_list, hl, List.getElem?_append_right (by rw [List.length_append]; omega), List.getElem?_drop, List.length_append, lt, lo, show m2 + (k - (m1 + (m2 - m1))) = k by omega]
  have e3 : ∀ k, m1 ≤ k → k < m2 → ∃ h : k - m1 < out.toList.length, K ys k = ks (out.toList[k - m1]) := fun k h3 h4 => by
    refine ⟨by omega, ?_⟩
    rw [K_list, hl, List.append_assoc, List.getElem?_append_right (by omega), lt, List.getElem?_append_left (by omega), List.getElem?_eq_getElem (by omega)]
    rfl
  refine ⟨fun i j h3 h4 h5 => ?_, fun k hk => hk.elim (e1 k) (e2 k)⟩
  by_cases i1 : i < m1
  · rw [e1 i i1]
    by_cases j1 : j < m1
    · rw [e1 j j1]; exact u1 i j h3 h4 j1
    by_cases j2 : j < m2
    · obtain ⟨q, e⟩ := e3 j (by omega) j2
      rw [e]; exact c1 i h3 i1 _ (List.getElem_mem _)
    · rw [e2 j (by omega)]; exact c3 i j h3 i1 (by omega) h5
  by_cases i2 : i < m2
  · obtain ⟨q, e⟩ := e3 i (by omega) i2
    rw [e]
    by_cases j2 : j < m2
    · obtain ⟨q2, e'⟩ := e3 j (by omega) j2
      rw [e']
      by_cases eq : i = j
      · subst eq; exact Int.le_refl _
      · exact List.pairwise_iff_getElem.mp hs _ _ q q2 (by omega)
    · rw [e2 j (by omega)]; exact c2 j (by omega) h5 _ (List.getElem_mem _)
  · rw [e2 i (by omega), e2 j (by omega)]; exact u2 i j (by omega) h4 h5
theorem Up.join {xs : Array Keyed} {i m j : Nat} (h1 : Up xs i m) (h2 : Up xs m j) (c : i < m → m < j → K xs (m - 1) ≤ K xs m) : Up xs i j := fun k n q1 q2 q3 => by
  by_cases n1 : n < m
  · exact h1 k n q1 q2 n1
  by_cases k1 : k < m
  · have z1 := h1 k (m - 1) q1 (by omega) (by omega)
    have z2 := h2 m n (Nat.le_refl _) (by omega) q3
    have z3 := c (by omega) (by omega)
    omega
  · exact h2 k n (by omega) q2 q3
/-- what a merge of two runs leaves -/
def After (xs : Array Keyed) (sa e : Nat) (st' : SortSt) : Prop := Up (arrOf st') sa e ∧ ∀ k, k < sa ∨ e ≤ k → K (arrOf st') k = K xs k
theorem merged_s {xs : Array Keyed} {sa k sb nb k2 : Nat} {out : Array Keyed} {ys : Array Keyed} {q1 q2 : Keyed} (hz : sb + nb ≤ xs.size) (hk : sa + k < sb) (hk2 : k2 ≤ nb) (h1 : 1 ≤ k2) (U1 : Up xs sa sb) (U2 : Up xs sb (sb + nb))
    (e1 : xs[sb]? = some q1) (e2 : xs[sb - 1]? = some q2) (g1 : ∀ i, i < k → Ahead false q1 (K xs (sa + i))) (g4 : ∀ i, k2 ≤ i → i < nb → ¬ Ahead true q2 (K xs (sb + i)))
    (M : Mg (xs.extract (sa + k) sb) (xs.extract sb (sb + k2)) out) (hl : ys.toList = xs.toList.take (sa + k) ++ out.toList ++ xs.toList.drop (sb + k2)) :
    Up ys sa (sb + nb) ∧ ∀ i, i < sa ∨ sb + nb ≤ i → K ys i = K xs i := by
  have ho : out.size = sb + k2 - (sa + k) := by
    rw [← Array.length_toList, M.1.length_eq, List.length_append, Array.length_toList, Array.length_toList, Array.size_extract, Array.size_extract]; omega
  have mem : ∀ p, p ∈ out.toList → (∃ i, sa + k ≤ i ∧ i < sb ∧ K xs i = ks p) ∨ ∃ i, sb ≤ i ∧ i < sb + k2 ∧ K xs i = ks p := fun p hp => by
    rcases List.mem_append.mp (M.1.mem_iff.mp hp) with z | z
    · obtain ⟨i, i1, i2, _, e⟩ := ext_mem z
      exact .inl ⟨i, i1, i2, e⟩
    · obtain ⟨i, i1, i2, _, e⟩ := ext_mem z
      exact .inr ⟨i, i1, i2, e⟩
  have low : ∀ i, sa ≤ i → i < sa + k → K xs i ≤ K xs sb := fun i h3 h4 => by
    have z : K xs (sa + (i - sa)) ≤ ks q1 := g1 (i - sa) (by omega)
    rwa [show sa + (i - sa) = i by omega, ← K_at e1] at z
  have hig : ∀ j, sb + k2 ≤ j → j < sb + nb → K xs (sb - 1) ≤ K xs j := fun j h3 h4 => by
    have z : ¬ K xs (sb + (j - sb)) < ks q2 := g4 (j - sb) (by omega) (by omega)
    rw [show sb + (j - sb) = j by omega, ← K_at e2] at z
    omega
  have c1 : ∀ i, sa ≤ i → i < sa + k → ∀ p, p ∈ out.toList → K xs i ≤ ks p := fun i h3 h4 p hp => by
    rcases mem p hp with ⟨m, m1, m2, e⟩ | ⟨m, m1, m2, e⟩
    · rw [← e]; exact U1 i m h3 (by omega) m2
    · rw [← e]; exact Int.le_trans (low i h3 h4) (U2 _ _ (by omega) m1 (by omega))
  have c2 : ∀ j, sb + k2 ≤ j → j < sb + nb → ∀ p, p ∈ out.toList → ks p ≤ K xs j := fun j h3 h4 p hp => by
    rcases mem p hp with ⟨m, m1, m2, e⟩ | ⟨m, m1, m2, e⟩
    · rw [← e]; exact Int.le_trans (U1 m (sb - 1) (by omega) (by omega) (by omega)) (hig j h3 h4)
    · rw [← e]; exact U2 m j m1 (by omega) h4
  have c3 : ∀ i j, sa ≤ i → i < sa + k → sb + k2 ≤ j → j < sb + nb → K xs i ≤ K xs j := fun i j h3 h4 h5 h6 => Int.le_trans (low i h3 h4) (U2 sb j (by omega) (by omega) h6)
  obtain ⟨r1, r2⟩ := put_up (xs := xs) (ys := ys) (out := out) (sa := sa) (m1 := sa + k) (m2 := sb + k2) (e := sb + nb) hl (by omega) (by omega) ho M.2 (fun i j a b c => U1 i j a b (by omega)) (fun i j a b c => U2 i j (by omega) b c) c1 c2 c3
  exact ⟨r1, fun i hi => r2 i (by omega)⟩
theorem fit_s {xs : Array Keyed} {sa k sb nb k2 : Nat} {q1 q2 : Keyed} (hz : sb + nb ≤ xs.size) (hk : sa + k < sb) (hk2 : k2 ≤ nb) (h1 : 1 ≤ k2) (U1 : Up xs sa sb) (U2 : Up xs sb (sb + nb))
    (e1 : xs[sb]? = some q1) (e2 : xs[sb - 1]? = some q2) (g2 : ∀ i, k ≤ i → i < sb - sa → ¬ Ahead false q1 (K xs (sa + i))) (g3 : ∀ i, i < k2 → Ahead true q2 (K xs (sb + i))) :
    Fit (xs.extract (sa + k) sb) (xs.extract sb (sb + k2)) := by
  have z1 : (xs.extract (sa + k) sb).size = sb - (sa + k) := by rw [Array.size_extract]; omega
  have z2 : (xs.extract sb (sb + k2)).size = k2 := by rw [Array.size_extract]; omega
  refine ⟨fun i j a b c => ?_, fun i j a b c => ?_, fun j hj => ?_, fun j hj => ?_⟩
  · rw [z1] at c
    rw [K_ext (by omega) (by omega), K_ext (by omega) (by omega)]
    exact U1 _ _ (by omega) (by omega) (by omega)
  · rw [z2] at c
    rw [K_ext (by omega) (by omega), K_ext (by omega) (by omega)]
    exact U2 _ _ (by omega) (by omega) (by omega)
  · rw [z1] at hj
    rw [K_ext (by omega) (by omega), K_ext (by omega) (by omega), Nat.add_zero, K_at e1]
    have z : ¬ K xs (sa + (k + j)) ≤ ks q1 := g2 (k + j) (by omega) (by omega)
    rw [show sa + k + j = sa + (k + j) by omega]
    omega
  · rw [z2] at hj
    rw [z1, K_ext (by omega) (by omega), K_ext (by omega) (by omega), show sa + k + (sb - (sa + k) - 1) = sb - 1 by omega, K_at e2]
    exact Int.le_of_lt (show K xs (sb + j) < ks q2 from g3 j hj)
theorem mergeAt_s {i : Nat} {pe : Array (Nat × Nat × Nat)} {st : SortSt} {Q : Bool → SortSt → Prop} {sa na pw sb nb pw2 : Nat} (h0 : IntKeys a0) (hB : G a0 pe st) (h1 : pe[i]? = some (sa, na, pw)) (h2 : pe[i + 1]? = some (sb, nb, pw2))
    (hs : sb = sa + na) (hn1 : 1 ≤ na) (hn2 : 1 ≤ nb) (hz : sb + nb ≤ a0.size) (U1 : Up (arrOf st) sa (sa + na)) (U2 : Up (arrOf st) sb (sb + nb))
    (h : ∀ st', G a0 ((pe.setIfInBounds i (sa, na + nb, pw)).eraseIdxIfInBounds (i + 1)) st' → After (arrOf st) sa (sb + nb) st' → Q true st') : wpS (model prog w) A E s (mergeAt' i) Q st := by
  show wpS _ _ _ _ (_ >>= _) _ _
  refine wpS_bind (wpS_get ?_)
  have hpe : pendingOf st = pe := hB.2
  have hsz := hB.1.size
  have hk := hB.1.keys h0
  rw [show (sortPriv% PySem.Builtin.SortState.pending) st = pe from hB.2, h1, h2]
  dsimp only
  have hxs : arrOf st = arrOf st := rfl
  have hsz2 : ((sortPriv% PySem.Builtin.SortState.a) st).size = a0.size := hsz
  have hpa : ∀ p, (pe.setIfInBounds i (sa, na + nb, pw)).eraseIdxIfInBounds (i + 1) = p → G a0 p (setPending st p) := fun p _ => ⟨⟨hB.1.perm, hB.1.kind, hB.1.failed⟩, rfl⟩
  generalize hp : (pe.setIfInBounds i (sa, na + nb, pw)).eraseIdxIfInBounds (i + 1) = p at *
  have g1 := hpa p rfl
  refine wpS_bind (wpS_set ?_)
  refine wpS_bind (wpS_elemB hk (by omega) fun q1 hq1 kq1 => ?_)
  refine wpS_bind (gallop_s g1.1.kind kq1 hk (by omega) (by omega) U1 fun k hkn gk1 gk2 => ?_)
  dsimp only
  have hzz : sb + nb ≤ (arrOf st).size := by rw [hsz]; exact hz
  refine wpS_iteB (fun e => wpS_pure (h _ g1 ⟨?_, fun _ _ => rfl⟩)) fun ne1 => ?_
  · refine Up.join (m := sb) (by rw [hs]; exact U1) U2 fun _ _ => ?_
    have z : K (arrOf st) (sa + (na - 1)) ≤ ks q1 := gk1 (na - 1) (by omega)
    rwa [show sa + (na - 1) = sb - 1 by omega, ← K_at hq1] at z
  refine wpS_bind (wpS_elemB hk (by omega) fun q2 hq2 kq2 => ?_)
  have hq2' : (arrOf st)[sb - 1]? = some q2 := by rw [← hq2]; congr 1; omega
  refine wpS_bind (gallop_s g1.1.kind kq2 hk (by omega) (by omega) U2 fun k2 hk2 gk3 gk4 => ?_)
  dsimp only
  have fin : ∀ (out : Array Keyed) (st2 : SortSt), k2 ≠ 0 → GX a0 p (arrOf st) st2 → Mg ((arrOf st).extract (sa + k) sb) ((arrOf st).extract sb (sb + k2)) out →
      Q (failedOf (setArr st2 (out.toList.zipIdx.foldl (fun a (x : Keyed × Nat) => a.setIfInBounds (sa + k + x.2) x.1) (arrOf st2)))).isNone (setArr st2 (out.toList.zipIdx.foldl (fun a (x : Keyed × Nat) => a.setIfInBounds (sa + k + x.2) x.1) (arrOf st2))) := by
    intro out st2 ne2 g2 MM
    have p2 := MM.1
    have hf : failedOf st2 = none := g2.1.1.failed
    have hq : Q (failedOf st2).isNone (setArr st2 (out.toList.zipIdx.foldl (fun a (x : Keyed × Nat) => a.setIfInBounds (sa + k + x.2) x.1) (arrOf st2))) := by
      rw [hf]
      refine h _ ⟨⟨?_, g2.1.1.kind, g2.1.1.failed⟩, g2.1.2⟩ ?_
      case refine_2 =>
        refine merged_s (xs := arrOf st) (sa := sa) (k := k) (sb := sb) (k2 := k2) (out := out) hzz (by omega) hk2 (by omega) (by rw [hs]; exact U1) U2 hq1 hq2' gk1 gk4 MM ?_
        show (out.toList.zipIdx.foldl (fun a (x : Keyed × Nat) => a.setIfInBounds (sa + k + x.2) x.1) (arrOf st2)).toList = _
        rw [g2.2]
        have hlen : out.toList.length = sb + k2 - (sa + k) := by
          rw [p2.length_eq, List.length_append, Array.length_toList, Array.length_toList, Array.size_extract, Array.size_extract]; omega
        have e := put_at out.toList 0 (sa + k) (arrOf st) (by omega)
        rw [e, show sa + k + 0 + out.toList.length = sb + k2 by omega, Nat.add_zero]
      refine Array.Perm.trans ?_ g2.1.1.perm
      show (out.toList.zipIdx.foldl (fun a (x : Keyed × Nat) => a.setIfInBounds (sa + k + x.2) x.1) (arrOf st2)).Perm (arrOf st2)
      rw [g2.2]
      rw [Array.perm_iff_toList_perm]
      have hlen : out.toList.length = sb + k2 - (sa + k) := by
        rw [p2.length_eq, List.length_append, Array.length_toList, Array.length_toList, Array.size_extract, Array.size_extract]; omega
      have e := put_at out.toList 0 (sa + k) (arrOf st) (by omega)
      rw [e]
      rw [ext_list, ext_list] at p2
      have e2 : sa + k + 0 + out.toList.length = sb + k2 := by omega
      rw [e2, Nat.add_zero]
      exact three_perm (by omega) (by omega) p2
    exact hq
  refine wpS_iteB (fun e => wpS_pure (h _ g1 ⟨?_, fun _ _ => rfl⟩)) fun ne2 => ?_
  · refine Up.join (m := sb) (by rw [hs]; exact U1) U2 fun _ _ => ?_
    have z : ¬ K (arrOf st) (sb + 0) < ks q2 := gk4 0 (by omega) (by omega)
    rw [Nat.add_zero, ← K_at hq2'] at z
    exact Int.not_lt.mp z
  have FF : Fit ((arrOf st).extract (sa + k) sb) ((arrOf st).extract sb (sb + k2)) := fit_s (nb := nb) hzz (by omega) hk2 (by omega) (by rw [hs]; exact U1) U2 hq1 hq2' (fun i a b => gk2 i a (by omega)) gk3
  refine wpS_ite (fun _ => ?_) fun _ => ?_
  · refine wpS_bind (mergeLo_s (a0 := a0) (xs := arrOf st) ⟨g1, hxs⟩ (keys_ext hk _ _) (keys_ext hk _ _) (by rw [Array.size_extract]; omega) (by rw [Array.size_extract]; omega) FF fun out st2 g2 p2 => ?_)
    refine wpS_bind (wpS_modify (wpS_bind (wpS_get (wpS_pure ?_))))
    exact fin out st2 ne2 g2 p2
  · refine wpS_bind (mergeHi_s (a0 := a0) (xs := arrOf st) ⟨g1, hxs⟩ (keys_ext hk _ _) (keys_ext hk _ _) (by rw [Array.size_extract]; omega) (by rw [Array.size_extract]; omega) FF fun out st2 g2 p2 => ?_)
    refine wpS_bind (wpS_modify (wpS_bind (wpS_get (wpS_pure ?_))))
    exact fin out st2 ne2 g2 p2

end
end SB

set_option Elab.async false
set_option maxRecDepth 100000
set_option maxHeartbeats 4000000
namespace SB
open PySem PyProof.Rows
section
variable {prog : Program} {w : World} {A : Around} {E : Value → Shared → Prop} {s : Shared} {a0 : Array Keyed}
/-- the runs stand one behind the other, each of them sorted -/
def SU (xs : Array Keyed) : Nat → List (Nat × Nat × Nat) → Nat → Prop
  | s, [], e => s = e
  | s, (a, n, _) :: r, e => a = s ∧ 1 ≤ n ∧ Up xs s (s + n) ∧ SU xs (s + n) r e
theorem SU.le {xs : Array Keyed} : ∀ {s : Nat} {l : List (Nat × Nat × Nat)} {e : Nat}, SU xs s l e → s + l.length ≤ e
  | _, [], _, h => Nat.le_of_eq h
  | s, (_, n, _) :: r, e, h => by have := SU.le h.2.2.2; simp only [List.length_cons]; have := h.2.1; omega
theorem SU.keep {xs ys : Array Keyed} : ∀ {s : Nat} {l : List (Nat × Nat × Nat)} {e : Nat}, SU xs s l e → (∀ k, s ≤ k → k < e → K ys k = K xs k) → SU ys s l e
  | _, [], _, h, _ => h
  | s, (_, n, _) :: r, e, h, hk => by
    have q := SU.le h.2.2.2
    exact ⟨h.1, h.2.1, h.2.2.1.eqK fun k h1 h2 => hk k h1 (by omega), SU.keep h.2.2.2 fun k h1 h2 => hk k (by omega) h2⟩
theorem SU.at {xs : Array Keyed} : ∀ {s : Nat} {l : List (Nat × Nat × Nat)} {e i : Nat} {x : Nat × Nat × Nat}, SU xs s l e → l[i]? = some x → s ≤ x.1 ∧ 1 ≤ x.2.1 ∧ x.1 + x.2.1 ≤ e ∧ Up xs x.1 (x.1 + x.2.1)
  | _, [], _, _, _, _, h1 => by simp at h1
  | s, (a, n, p) :: r, e, 0, x, h, h1 => by
    simp at h1
    subst h1
    have q := SU.le h.2.2.2
    obtain ⟨rfl, h3, h4, h5⟩ := h
    exact ⟨Nat.le_refl _, h3, by show a + n ≤ e; omega, h4⟩
  | s, (a, n, p) :: r, e, i + 1, x, h, h1 => by
    obtain ⟨q1, q2, q3, q4⟩ := SU.at (i := i) (x := x) h.2.2.2 (by simpa using h1)
    exact ⟨by omega, q2, q3, q4⟩
theorem SU.two {xs ys : Array Keyed} : ∀ {s : Nat} {l : List (Nat × Nat × Nat)} {e i : Nat} {x y : Nat × Nat × Nat}, SU xs s l e → l[i]? = some x → l[i + 1]? = some y →
    y.1 = x.1 + x.2.1 ∧ (Up ys x.1 (y.1 + y.2.1) → (∀ k, k < x.1 ∨ y.1 + y.2.1 ≤ k → K ys k = K xs k) → SU ys s ((l.set i (x.1, x.2.1 + y.2.1, x.2.2)).eraseIdx (i + 1)) e)
  | _, [], _, _, _, _, _, h1, _ => by simp at h1
  | _, [_], _, 0, _, _, _, _, h2 => by simp at h2
  | s, (a, n, p) :: (b, m, q) :: r, e, 0, x, y, h, h1, h2 => by
    simp at h1 h2
    subst h1 h2
    obtain ⟨rfl, h3, h6, rfl, h4, h7, h5⟩ := h
    refine ⟨rfl, fun u hk => ?_⟩
    show SU ys a ((a, n + m, p) :: r) e
    have e1 : a + (n + m) = a + n + m := by omega
    refine ⟨rfl, by omega, ?_, ?_⟩
    · rw [e1]; exact u
    · rw [e1]; exact h5.keep fun k h1 h2 => hk k (.inr h1)
  | s, (a, n, p) :: r, e, i + 1, x, y, h, h1, h2 => by
    obtain ⟨rfl, h3, h6, h5⟩ := h
    obtain ⟨q1, q5⟩ := SU.two (ys := ys) (i := i) (x := x) (y := y) h5 (by simpa using h1) (by simpa using h2)
    have q := SU.at (i := i) (x := x) h5 (by simpa using h1)
    exact ⟨q1, fun u hk => ⟨rfl, h3, h6.eqK fun k h1 h2 => hk k (.inl (by omega)), q5 u hk⟩⟩
theorem SU.mod {xs : Array Keyed} (pw : Nat) : ∀ {s : Nat} {l : List (Nat × Nat × Nat)} {e : Nat} (i : Nat), SU xs s l e → SU xs s (l.modify i fun (st, len, _) => (st, len, pw)) e
  | _, [], _, i, h => by cases i <;> exact h
  | _, (_, _, _) :: _, _, 0, h => h
  | _, (_, _, _) :: _, _, i + 1, h => ⟨h.1, h.2.1, h.2.2.1, SU.mod pw i h.2.2.2⟩
theorem SU.snoc {xs : Array Keyed} (n p : Nat) (hn : 1 ≤ n) : ∀ {s : Nat} {l : List (Nat × Nat × Nat)} {e : Nat}, SU xs s l e → Up xs e (e + n) → SU xs s (l ++ [(e, n, p)]) (e + n)
  | s, [], e, h, u => by
    obtain rfl : s = e := h
    exact ⟨rfl, hn, u, rfl⟩
  | _, (_, _, _) :: _, _, h, u => ⟨h.1, h.2.1, h.2.2.1, SU.snoc n p hn h.2.2.2 u⟩
/-- a good state whose runs reach to e; from e on the keys are those of ys up to f -/
def GS (a0 : Array Keyed) (e : Nat) (st : SortSt) : Prop := SI a0 st ∧ SU (arrOf st) 0 (pendingOf st).toList e
theorem merge_s {i e : Nat} {st : SortSt} {Q : Bool → SortSt → Prop} (h0 : IntKeys a0) (hB : GS a0 e st) (he : e ≤ a0.size) (hi : i + 1 < (pendingOf st).size)
    (h : ∀ st', GS a0 e st' → (pendingOf st').size + 1 = (pendingOf st).size → (∀ k, e ≤ k → K (arrOf st') k = K (arrOf st) k) → Q true st') : wpS (model prog w) A E s (mergeAt' i) Q st := by
  obtain ⟨⟨sa, na, pw⟩, hx⟩ : ∃ x, (pendingOf st)[i]? = some x := ⟨_, getElem?_pos _ i (by omega)⟩
  obtain ⟨⟨sb, nb, pw2⟩, hy⟩ : ∃ x, (pendingOf st)[i + 1]? = some x := ⟨_, getElem?_pos _ (i + 1) hi⟩
  obtain ⟨x1, x2, x3, x4⟩ := hB.2.at (i := i) (x := (sa, na, pw)) (by simpa using hx)
  obtain ⟨y1, y2, y3, y4⟩ := hB.2.at (i := i + 1) (x := (sb, nb, pw2)) (by simpa using hy)
  have q1 := (hB.2.two (ys := arrOf st) (i := i) (x := (sa, na, pw)) (y := (sb, nb, pw2)) (by simpa using hx) (by simpa using hy)).1
  refine mergeAt_s h0 ⟨hB.1, rfl⟩ hx hy q1 x2 y2 (Nat.le_trans y3 he) x4 y4 fun st' g af => h st' ⟨g.1, ?_⟩ ?_ fun k hk => af.2 k (.inr (Nat.le_trans y3 hk))
  · rw [g.2, Array.toList_eraseIdxIfInBounds, Array.toList_setIfInBounds]
    exact (hB.2.two (ys := arrOf st') (i := i) (x := (sa, na, pw)) (y := (sb, nb, pw2)) (by simpa using hx) (by simpa using hy)).2 af.1 af.2
  · rw [g.2, ← Array.length_toList, Array.toList_eraseIdxIfInBounds, Array.toList_setIfInBounds, List.length_eraseIdx, if_pos (by rw [List.length_set, Array.length_toList]; omega), List.length_set, Array.length_toList]
    omega
theorem runs_s {st : SortSt} {Q : Unit → SortSt → Prop} (h0 : IntKeys a0) (hB : SI a0 st) (hp : pendingOf st = #[]) (h : ∀ st', SI a0 st' → Up (arrOf st') 0 a0.size → Q () st') : wpS (model prog w) A E s sortRuns' Q st := by
  rw [sortRuns'_eq]
  refine wpS_bind (wpS_get ?_)
  dsimp only
  rw [hB.size]
  generalize minRun' a0.size a0.size 0 = mr
  refine wpS_bind (wpS_mono (wpS_forRange (I := fun x c st' => ∃ lo, c = (none, lo) ∧ lo ≤ a0.size ∧ x ≤ lo ∧ GS a0 lo st') (Q := fun c st' => ∃ lo, c = (none, lo) ∧ lo = a0.size ∧ GS a0 lo st') ?step ?fin ⟨0, rfl, by omega, by omega, hB, by rw [hp]; rfl⟩) ?post)
  case fin => rintro c st' ⟨lo, rfl, h1, h2, g⟩; exact ⟨lo, rfl, by omega, g⟩
  case step =>
    rintro x c st1 _ hx ⟨lo, rfl, hlo, hxl, g⟩
    dsimp only
    refine wpS_ite (fun hge => wpS_pure ⟨lo, rfl, by omega, g⟩) fun hlt => ?_
    refine wpS_bind (count_s h0 (by omega) (by omega) (pe := pendingOf st1) (ys := arrOf st1) ⟨⟨g.1, rfl⟩, Low.refl _ _⟩ fun m st2 g2 hm1 hm2 hU => ?_)
    have G2 : GS a0 lo st2 := ⟨g2.1.1, by rw [g2.1.2]; exact g.2.keep fun k _ hk => g2.2 k hk⟩
    dsimp only
    refine wpS_ite (fun hmr => ?_) fun hmr => ?_
    · refine wpS_bind (wpS_lift (wpAny_rule ⟨rfl, ?_⟩))
      refine wpS_bind (bins_s h0 (by omega) (by omega) g2 hU fun st' g3 hU3 => ?_)
      have G3 : GS a0 lo st' := ⟨g3.1.1, by rw [g3.1.2]; exact g.2.keep fun k _ hk => g3.2 k hk⟩
      rw [if_neg (by decide)]
      obtain ⟨nn, hnn⟩ : ∃ nn, nn = min (a0.size - lo) mr := ⟨_, rfl⟩
      rw [← hnn]
      have hn1 : 1 ≤ nn := by omega
      have hn2 : lo + nn ≤ a0.size := by omega
      have hV : Up (arrOf st') lo (lo + nn) := by rw [hnn]; exact hU3
      refine wpS_bind (wpS_get ?_)
      have fin : ∀ st2 : SortSt, GS a0 lo st2 → Up (arrOf st2) lo (lo + nn) → GS a0 (lo + nn) (setPending st2 ((pendingOf st2).push (lo, nn, 0))) := fun st2 g2 u2 => by
        refine ⟨⟨g2.1.perm, g2.1.kind, g2.1.failed⟩, ?_⟩
        show SU (arrOf st2) 0 ((pendingOf st2).push (lo, nn, 0)).toList (lo + nn)
        rw [Array.toList_push]
        exact g2.2.snoc nn 0 hn1 u2
      cases hbk : (pendingOf st').back? with
      | none => exact wpS_bind (wpS_modify (wpS_pure ⟨_, rfl, hn2, by omega, fin _ G3 hV⟩))
      | some t =>
        obtain ⟨s1, n1, p1⟩ := t
        dsimp only
        refine wpS_bind (wpS_mono (wpS_forRange (I := fun _ c st2 => c = (none, ()) ∧ GS a0 lo st2 ∧ Up (arrOf st2) lo (lo + nn)) (Q := fun c st2 => c = (none, ()) ∧ GS a0 lo st2 ∧ Up (arrOf st2) lo (lo + nn)) ?_ ?_ ⟨rfl, G3, hV⟩) ?_)
        · rintro y c st2 _ _ ⟨rfl, g2, u2⟩
          refine wpS_bind (wpS_get ?_)
          by_cases hp1 : (pendingOf st2).size > 1
          · rw [if_pos hp1]
            obtain ⟨⟨a1, a2, older⟩, hx⟩ : ∃ x, (pendingOf st2)[(pendingOf st2).size - 2]? = some x := ⟨_, getElem?_pos _ _ (by omega)⟩
            rw [hx]
            dsimp only
            refine wpS_ite (fun _ => wpS_pure ⟨rfl, g2, u2⟩) fun _ => ?_
            refine wpS_bind (merge_s h0 g2 hlo (by omega) fun st3 g3 _ k3 => ?_)
            exact wpS_pure ⟨rfl, g3, u2.eqK fun k h1 _ => k3 k h1⟩
          · rw [if_neg hp1]
            exact wpS_pure ⟨rfl, g2, u2⟩
        · rintro c st2 z; exact z
        · rintro c st2 ⟨rfl, g2, u2⟩
          refine wpS_bind (wpS_modify (wpS_bind (wpS_modify (wpS_pure ⟨_, rfl, hn2, by omega, fin _ ⟨⟨g2.1.perm, g2.1.kind, g2.1.failed⟩, ?_⟩ u2⟩))))
          show SU (arrOf st2) 0 ((pendingOf st2).modify _ _).toList lo
          rw [Array.toList_modify]
          exact g2.2.mod _ _
    · obtain ⟨nn, hnn⟩ : ∃ nn, nn = m := ⟨_, rfl⟩
      rw [← hnn]
      have hn1 : 1 ≤ nn := by omega
      have hn2 : lo + nn ≤ a0.size := by omega
      obtain ⟨st', hst'⟩ : ∃ st', st' = st2 := ⟨_, rfl⟩
      rw [← hst'] at G2 ⊢
      have hV : Up (arrOf st') lo (lo + nn) := by rw [hnn, hst']; exact hU
      refine wpS_bind (wpS_get ?_)
      have fin : ∀ st2 : SortSt, GS a0 lo st2 → Up (arrOf st2) lo (lo + nn) → GS a0 (lo + nn) (setPending st2 ((pendingOf st2).push (lo, nn, 0))) := fun st2 g2 u2 => by
        refine ⟨⟨g2.1.perm, g2.1.kind, g2.1.failed⟩, ?_⟩
        show SU (arrOf st2) 0 ((pendingOf st2).push (lo, nn, 0)).toList (lo + nn)
        rw [Array.toList_push]
        exact g2.2.snoc nn 0 hn1 u2
      cases hbk : (pendingOf st').back? with
      | none => exact wpS_bind (wpS_modify (wpS_pure ⟨_, rfl, hn2, by omega, fin _ G2 hV⟩))
      | some t =>
        obtain ⟨s1, n1, p1⟩ := t
        dsimp only
        refine wpS_bind (wpS_mono (wpS_forRange (I := fun _ c st2 => c = (none, ()) ∧ GS a0 lo st2 ∧ Up (arrOf st2) lo (lo + nn)) (Q := fun c st2 => c = (none, ()) ∧ GS a0 lo st2 ∧ Up (arrOf st2) lo (lo + nn)) ?_ ?_ ⟨rfl, G2, hV⟩) ?_)
        · rintro y c st2 _ _ ⟨rfl, g2, u2⟩
          refine wpS_bind (wpS_get ?_)
          by_cases hp1 : (pendingOf st2).size > 1
          · rw [if_pos hp1]
            obtain ⟨⟨a1, a2, older⟩, hx⟩ : ∃ x, (pendingOf st2)[(pendingOf st2).size - 2]? = some x := ⟨_, getElem?_pos _ _ (by omega)⟩
            rw [hx]
            dsimp only
            refine wpS_ite (fun _ => wpS_pure ⟨rfl, g2, u2⟩) fun _ => ?_
            refine wpS_bind (merge_s h0 g2 hlo (by omega) fun st3 g3 _ k3 => ?_)
            exact wpS_pure ⟨rfl, g3, u2.eqK fun k h1 _ => k3 k h1⟩
          · rw [if_neg hp1]
            exact wpS_pure ⟨rfl, g2, u2⟩
        · rintro c st2 z; exact z
        · rintro c st2 ⟨rfl, g2, u2⟩
          refine wpS_bind (wpS_modify (wpS_bind (wpS_modify (wpS_pure ⟨_, rfl, hn2, by omega, fin _ ⟨⟨g2.1.perm, g2.1.kind, g2.1.failed⟩, ?_⟩ u2⟩))))
          show SU (arrOf st2) 0 ((pendingOf st2).modify _ _).toList lo
          rw [Array.toList_modify]
          exact g2.2.mod _ _
  case post =>
    rintro c st1 ⟨lo, rfl, hlo, g⟩
    have hlo' := hlo
    have hln : (pendingOf st1).size ≤ a0.size := by have := g.2.le; rw [Array.length_toList] at this; omega
    dsimp only
    refine wpS_bind (wpS_mono (wpS_forRange (I := fun x c st2 => c = (none, ()) ∧ GS a0 lo st2 ∧ (pendingOf st2).size + x ≤ a0.size + 1) (Q := fun c st2 => c = (none, ()) ∧ GS a0 lo st2 ∧ (pendingOf st2).size ≤ 1) ?_ ?_ ⟨rfl, g, by omega⟩) ?_)
    · rintro y c st2 _ _ ⟨rfl, g2, n2⟩
      refine wpS_bind (wpS_get ?_)
      refine wpS_ite (fun h1 => wpS_pure ⟨rfl, g2, h1⟩) fun hsz => ?_
      refine wpS_bind (merge_s h0 g2 (by omega) (ite_lt2 (by omega) (by omega)) fun st3 g3 e3 _ => ?_)
      exact wpS_pure ⟨rfl, g3, by omega⟩
    · rintro c st2 ⟨rfl, g2, n2⟩; exact ⟨rfl, g2, by omega⟩
    · rintro c st2 ⟨rfl, g2, n2⟩
      refine wpS_pure (h _ g2.1 ?_)
      have q := g2.2
      rw [← Array.length_toList] at n2
      rw [← hlo]
      match hl : (pendingOf st2).toList with
      | [] =>
        rw [hl] at q
        obtain rfl : 0 = lo := q
        exact fun k m h1 h2 h3 => by omega
      | [(x, n, p)] =>
        rw [hl] at q
        obtain ⟨rfl, h3, h4, h5⟩ := q
        obtain rfl : 0 + n = lo := h5
        exact h4
      | _ :: _ :: _ =>
        rw [hl] at n2
        simp only [List.length_cons] at n2
        omega

theorem sort_s {a : Addr} {vs : List Value} {ns : List Int} {n : Nat} {P : PySem.Fin → Shared → Prop} (ho : s.heap.get? a = some (seqObj "list" vs.toArray n))
    (hI : IntsAre vs ns) (h64 : vs.length ≤ 1000)
    (h : ∀ (out : Array Value) (ns' : List Int), IntsAre out.toList ns' → ns'.Perm ns → ns'.Pairwise (· ≤ ·) → P (.done (.ret .none)) { s with heap := sortedHeap s.heap a vs out }) :
    wpAny (model prog w) A (Builtin.«list.sort» ⟨[.ref a], []⟩) P E s := by
  rw [list_sort_plain]
  have ha : a < s.heap.objs.size := Heap.lt_size ho
  refine wpAny_bind (listItems_at ho rfl ?_)
  refine wpAny_bind (listUpdate_at ho rfl ?_ (by rw [sizeLine_eq]; simp; omega) (by simp))
  obtain ⟨e1, ho1⟩ : ∃ e1, (s.heap.update a (Obj.mapSeq fun _ => #[])).get? a = some (seqObj "list" #[] e1) := ⟨_, get?_update_seq ho (fun _ => #[])⟩
  refine wpAny_bind (seqEpoch_at ho1 rfl ?_)
  refine wpAny_bind (wpAny_newTuple ?_ (by rw [sizeLine_eq]; simp; omega))
  refine wpAny_bind (wpAny_newList ?_)
  refine wpAny_holding ?_
  have ho6 : (((s.heap.update a (Obj.mapSeq fun _ => #[])).push (seqObj "tuple" vs.toArray 0)).push (seqObj "list" #[] 0)).get? a = some (seqObj "list" #[] e1) := by
    rw [Heap.get?_push_ne _ _ _ (by rw [size_push', Heap.size_update]; exact Nat.ne_of_lt (Nat.lt_succ_of_lt ha)), Heap.get?_push_ne _ _ _ (by rw [Heap.size_update]; exact Nat.ne_of_lt ha)]
    exact ho1
  show wpAny (model prog w) A _ P E { s with heap := ((s.heap.update a (Obj.mapSeq fun _ => #[])).push (seqObj "tuple" vs.toArray 0)).push (seqObj "list" #[] 0) }
  dsimp only
  have hsz : vs.toArray.size = vs.length := by simp
  have fin : ∀ st' : SortSt, (arrOf st').Perm (pairsOf vs) → Up (arrOf st') 0 (pairsOf vs).size → P (.done (.ret .none)) { s with heap := sortedHeap s.heap a vs ((arrOf st').map (·.2)) } := by
    intro st' hp hu
    obtain ⟨ns', h1, h2, h3⟩ := sorted_out hI hp fun i j q1 q2 => hu i j (Nat.zero_le _) q1 q2
    exact h _ ns' h1 h2 h3
  by_cases h2 : vs.toArray.size < 2
  · rw [if_pos h2, if_pos h2]
    refine wpAny_bind (wpAny_pure ?_)
    rw [StateT.run_pure]
    refine wpAny_bind (wpAny_pure ?_)
    dsimp only
    refine wpAny_bind (seqEpoch_at ho6 rfl ?_)
    refine wpAny_bind (listUpdate_at ho6 rfl ?_ (hsz2 := by rw [Array.size_map]; show (pairsOf vs).size ≤ _; rw [pairsOf_size, sizeLine_eq]; omega))
    simp only [bne_self_eq_false, Bool.false_eq_true, if_false]
    exact wpAny_pure (fin (SortSt.mk' general' (vs.toArray.zip vs.toArray) #[] 7 none) (Array.Perm.refl _) fun i j _ q1 q2 => by
      rw [pairsOf_size] at q2
      obtain rfl : i = j := by omega
      exact Int.le_refl _)
  · rw [if_neg h2, if_neg h2]
    obtain ⟨v₁, v₂, rest, rfl⟩ : ∃ v₁ v₂ rest, vs = v₁ :: v₂ :: rest := by
      match vs, hsz, h2 with
      | [], _, h2 => simp at h2
      | [_], _, h2 => simp at h2
      | v₁ :: v₂ :: rest, _, _ => exact ⟨v₁, v₂, rest, rfl⟩
    rw [keyKind_ints hI]
    refine wpAny_bind (wpAny_pure ?_)
    refine wpAny_bind (wpAny_mono (runs_s (a0 := pairsOf (v₁ :: v₂ :: rest)) (st := SortSt.mk' oneType' ((v₁ :: v₂ :: rest).toArray.zip (v₁ :: v₂ :: rest).toArray) #[] 7 none)
      (Q := fun _ st' => SI (pairsOf (v₁ :: v₂ :: rest)) st' ∧ Up (arrOf st') 0 (pairsOf (v₁ :: v₂ :: rest)).size)
      hI.intKeys ⟨Array.Perm.refl _, rfl, rfl⟩ rfl fun st' a1 a2 => ⟨a1, a2⟩) ?_ fun _ _ e => e)
    rintro ⟨⟨⟩, st'⟩ s' ⟨rfl, hS, hS2⟩
    have hp := hS.perm
    have hf := hS.failed
    dsimp only
    refine wpAny_bind (seqEpoch_at ho6 rfl ?_)
    refine wpAny_bind (listUpdate_at ho6 rfl ?_ (hsz2 := by refine Nat.le_trans (Nat.le_of_eq ((Array.size_map ..).trans (hp.size_eq.trans (pairsOf_size _)))) ?_; rw [sizeLine_eq]; omega))
    rw [hf]
    simp only [bne_self_eq_false, Bool.false_eq_true, if_false]
    exact wpAny_pure (fin st' hp hS2)
theorem sorted_s {l : Addr} {vs : List Value} {ns : List Int} {Q : Value → Shared → Prop} (hl : s.heap.IsList l vs.toArray) (hI : IntsAre vs ns) (h64 : vs.length ≤ 1000)
    (h : ∀ (out : Array Value) (ns' : List Int), IntsAre out.toList ns' → ns'.Perm ns → ns'.Pairwise (· ≤ ·) → Q (.ref (s.heap.objs.size + 1)) { s with heap := sortedAll s.heap vs out }) :
    wpAny (model prog w) A (call (.builtin "sorted") [.ref l]) Q E s := by
  refine Calls.call_function_entry kind_sorted plain_sorted entry_sorted (args_sorted1 _) ?_
  unfold Builtin.«sorted»
  refine wpAny_bind (m := checkCount "sorted" 1 1 _) (wpAny_pure ?_)
  refine wpAny_bind (collect_list hl ?_ (by rw [sizeLine_eq]; omega))
  refine wpAny_bind (wpAny_newList ?_ (by rw [sizeLine_eq]; omega))
  have hsz : ((s.heap.push (seqObj "list" #[] 0)).update s.heap.objs.size (Obj.mapSeq (· ++ vs.toArray))).objs.size = s.heap.objs.size + 1 := by
    rw [Heap.size_update, size_push']
  have hoL : (((s.heap.push (seqObj "list" #[] 0)).update s.heap.objs.size (Obj.mapSeq (· ++ vs.toArray))).push (seqObj "list" vs.toArray 0)).get? (s.heap.objs.size + 1) = some (seqObj "list" vs.toArray 0) := by
    rw [← hsz]; exact Heap.get?_push_size _ rfl
  show wpAny _ _ _ _ _ { s with heap := ((s.heap.push (seqObj "list" #[] 0)).update s.heap.objs.size (Obj.mapSeq (· ++ vs.toArray))).push (seqObj "list" vs.toArray 0) }
  rw [hsz]
  refine wpAny_bind (wpAny_holding (wpAny_call_entry slot_list_sort ⟨_, hoL, rfl⟩ entry_list_sort (sort_s hoL hI h64 fun out ns' a1 a2 a3 => ⟨_, rfl, ?_⟩) (args_list_sort _)))
  exact wpAny_pure ⟨_, rfl, h out ns' a1 a2 a3⟩
end
end SB

set_option Elab.async false
set_option maxRecDepth 100000
set_option maxHeartbeats 4000000
namespace L2
open PySem PySem.Spec PyProof.Rows
section
variable {X : Cx}
/-! ### floor division by a number that is not too great -/
theorem log2_small {y : Int} (h0 : 0 < y) (h : y < 2 ^ 200) : y.natAbs.log2 < 9000 := by
  have h1 : y.natAbs ≠ 0 := by omega
  have h2 : y.natAbs.log2 < 200 := (Nat.log2_lt h1).mpr (by omega)
  omega
theorem op_fdivL : OpR X (binaryOp .FloorDiv) (rI (fun _ j => 0 < j ∧ j < 2 ^ 200) fun i j => .int (i / j)) := opI fun i j _ _ _ _ _ hc q => by
  refine floordiv_int (by omega) ?_ (.inl (PyProof.noPylong_of_log2 (log2_small hc.1 hc.2)))
  rw [Int.fdiv_eq_ediv_of_nonneg i (by omega)]
  exact q
/-! ### sum, max, min, sorted of a list of ints -/
theorem call_sum (hc : X.calm = true) : CallR X (.builtin "sum") (fun xs H Q => ∃ (p : Addr) (ns : List Int), xs = [.ref p] ∧ SqL X.K H p (ns.map V.int) ∧ Q (.int ns.sum) H) := by
  intro pins s σ H xs us Q I r h
  obtain ⟨p, ns, rfl, hq, q⟩ := h
  obtain ⟨u, rfl, rx⟩ := vals1 r
  cases rx
  obtain ⟨its, r', pl, hz⟩ := I.list hq
  have hi := intsAre_of r'
  obtain ⟨xs, e⟩ := hi.allInts.items
  have hns : ns = xs.toList.map (·.1) := by rw [← hi.numsOf, ← nums_intItems, ← e]
  have hl := pl.isList
  rw [e] at hl
  refine sum_intListG (I.ok.hd hc) hl fun h' tk t' hk => ⟨.int ns.sum, H, I.kept hk, ⟨t', ?_⟩, q⟩
  rw [preSum_eq, List.take_of_length_le (by simp), hns]
theorem call_max (hc : X.calm = true) : CallR X (.builtin "max") (fun xs H Q => ∃ (p : Addr) (ns : List Int), xs = [.ref p] ∧ SqL X.K H p (ns.map V.int) ∧ ns ≠ [] ∧ ∀ M, M ∈ ns → (∀ a, a ∈ ns → a ≤ M) → Q (.int M) H) := by
  intro pins s σ H xs us Q I r h
  obtain ⟨p, ns, rfl, hq, hne, q⟩ := h
  obtain ⟨u, rfl, rx⟩ := vals1 r
  cases rx
  obtain ⟨its, r', pl, hz⟩ := I.list hq
  have hi := intsAre_of r'
  obtain ⟨xs, e⟩ := hi.allInts.items
  have hns : ns = xs.toList.map (·.1) := by rw [← hi.numsOf, ← nums_intItems, ← e]
  have hl := pl.isList
  rw [e] at hl
  have hsz : 0 < xs.size := by
    have h3 := List.length_pos_iff.mpr hne; rw [hns, List.length_map, Array.length_toList] at h3; exact h3
  refine max_intList (I.ok.hd hc) hl hsz fun v h' tk hv hk => ?_
  obtain ⟨t, rfl⟩ := intItems_at hv
  obtain ⟨h1, h2⟩ := argBest_gt (numAt xs) (xs.size - 1)
  refine ⟨.int _, H, I.kept hk, ⟨t, rfl⟩, q _ ?_ fun a ha => ?_⟩
  · rw [hns, numAt_eq]; exact getD_mem (by rw [List.length_map, Array.length_toList]; omega)
  · rw [hns] at ha
    obtain ⟨j, hj, rfl⟩ := mem_getD ha
    rw [List.length_map, Array.length_toList] at hj
    rw [← numAt_eq]; exact h2 j (by omega)
theorem call_min (hc : X.calm = true) : CallR X (.builtin "min") (fun xs H Q => ∃ (p : Addr) (ns : List Int), xs = [.ref p] ∧ SqL X.K H p (ns.map V.int) ∧ ns ≠ [] ∧ ∀ M, M ∈ ns → (∀ a, a ∈ ns → M ≤ a) → Q (.int M) H) := by
  intro pins s σ H xs us Q I r h
  obtain ⟨p, ns, rfl, hq, hne, q⟩ := h
  obtain ⟨u, rfl, rx⟩ := vals1 r
  cases rx
  obtain ⟨its, r', pl, hz⟩ := I.list hq
  have hi := intsAre_of r'
  obtain ⟨xs, e⟩ := hi.allInts.items
  have hns : ns = xs.toList.map (·.1) := by rw [← hi.numsOf, ← nums_intItems, ← e]
  have hl := pl.isList
  rw [e] at hl
  have hsz : 0 < xs.size := by
    have h3 := List.length_pos_iff.mpr hne; rw [hns, List.length_map, Array.length_toList] at h3; exact h3
  refine min_intList (I.ok.hd hc) hl hsz fun v h' tk hv hk => ?_
  obtain ⟨t, rfl⟩ := intItems_at hv
  obtain ⟨h1, h2⟩ := argBest_lt (numAt xs) (xs.size - 1)
  refine ⟨.int _, H, I.kept hk, ⟨t, rfl⟩, q _ ?_ fun a ha => ?_⟩
  · rw [hns, numAt_eq]; exact getD_mem (by rw [List.length_map, Array.length_toList]; omega)
  · rw [hns] at ha
    obtain ⟨j, hj, rfl⟩ := mem_getD ha
    rw [List.length_map, Array.length_toList] at hj
    rw [← numAt_eq]; exact h2 j (by omega)
theorem call_sorted : CallR X (.builtin "sorted") (fun xs H Q => ∃ (p : Addr) (ns : List Int), xs = [.ref p] ∧ SqL X.K H p (ns.map V.int) ∧ ns.length ≤ 1000 ∧ ∀ (l : Addr) (ns' : List Int), H l = none → ns'.Perm ns → ns'.Pairwise (· ≤ ·) → Q (.ref l) (upd H l (.lst (ns'.map V.int)))) := by
  intro pins s σ H xs us Q I r h
  obtain ⟨p, ns, rfl, hq, hle, q⟩ := h
  obtain ⟨u, rfl, rx⟩ := vals1 r
  cases rx
  obtain ⟨its, r', pl, hz⟩ := I.list hq
  have hi := intsAre_of r'
  have hlen := r'.length
  rw [List.length_map] at hlen
  refine SB.sorted_s pl.isList hi (by omega) fun out ns' a1 a2 a3 => ?_
  obtain ⟨e, he⟩ := sortedAll_at s.heap its out
  have hn : H (s.heap.objs.size + 1) = none := I.hok.fresh (Nat.le_succ _)
  refine ⟨.ref (s.heap.objs.size + 1), _, ?_, rfl, q _ ns' hn a2 a3⟩
  refine I.laid (t' := s.toks) (fun _ _ => sortedAll_old) (Nat.le_succ _) (show ObjOk X.prog X.w _ _ _ (.lst _) from ⟨?_, out.toList, e, vals_ints a1, he⟩)
  rw [List.length_map, a2.length_eq, sizeLine_eq]; omega
/-! ### repr -/
/-- what a value reads as, n deep -/
def RV : Nat → Hp → V → PyData → Prop
  | _, _, .non, d => d = .none
  | _, _, .bl b, d => d = .bool b
  | _, _, .int i, d => d = .int i
  | _, _, .str x, d => d = .str x
  | n + 1, H, .ref a, d => (∃ xs ds, Rd H a (.lst xs) ∧ d = .list ds ∧ Paired (RV n H) xs ds) ∨ ∃ xs ds, Rd H a (.tup xs) ∧ d = .tuple ds ∧ Paired (RV n H) xs ds
  | _, _, _, _ => False
/-- a thing whose repr may be asked -/
structure Shw (d : PyData) : Prop where
  sh : d.showable = true
  nd : d.hasDict = false
  dp : d.depth ≤ 30
  sz : d.shown.length ≤ sizeLine
end
end L2

set_option Elab.async false
set_option maxRecDepth 100000
set_option maxHeartbeats 4000000
namespace L2
open PySem PySem.Spec PyProof.Rows
/-! ### comprehensions -/
/-- the context of a comprehension's block: s0, H0 the state with the new list laid, C its names, fp the iterator's records -/
abbrev cxComp (X : Cx) (pins : List (Addr × Obj)) (N' : List Str) (scope : Scope) (cl : List (Str × Addr)) (C : Addr) (s0 : Shared) (H0 : Hp) (fp : List Addr) : Cx :=
  { X with N := N', s₀ := s0, H₀ := H0, env := compEnvC scope cl C X.env, outer := X.stack, ex := fp, fn := fun _ => false, pn := X.pn ++ pins, xe := fun _ _ => False }
theorem find_names {k : NameKind} : ∀ {names : List (Str × NameKind)} {x : Str}, names.lookup x = some k → (x, k) ∈ names
  | (n, j) :: r, x, h => by
    rw [List.lookup_cons] at h
    cases e : x == n with
    | true =>
      rw [e] at h
      cases h
      rw [eq_of_beq e]
      exact List.mem_cons_self
    | false =>
      rw [e] at h
      exact List.mem_cons_of_mem _ (find_names h)
/-- the cells that a block takes along -/
structure Clo (scope : Scope) (env : Env) (cl : List (Str × Addr)) : Prop where
  eq : closureFor scope env = pure cl
  sub : ∀ x c, cl.lookup x = some c → env.cells.lookup x = some c
  has : ∀ x, (x, NameKind.free) ∈ scope.names → ∃ c, cl.lookup x = some c
theorem clo_go {env : Env} : ∀ (names : List (Str × NameKind)) (acc : List (Str × Addr)), (∀ x, (x, NameKind.free) ∈ names → ∃ c, env.cells.lookup x = some c) → (∀ x c, acc.lookup x = some c → env.cells.lookup x = some c) →
    ∃ cl, (forIn names acc fun (y : Str × NameKind) cs => (if y.2 == NameKind.free then do let c ← cellOf env y.1; pure (ForInStep.yield ((y.1, c) :: cs)) else pure (ForInStep.yield cs) : Sem (ForInStep (List (Str × Addr))))) = pure cl ∧
      (∀ x c, cl.lookup x = some c → env.cells.lookup x = some c) ∧ (∀ x, (x, NameKind.free) ∈ names → ∃ c, cl.lookup x = some c) ∧ ∀ x, (∃ c, acc.lookup x = some c) → ∃ c, cl.lookup x = some c
  | [], acc, _, hs => ⟨acc, rfl, hs, fun _ h => by simp at h, fun _ h => h⟩
  | (n, k) :: r, acc, hh, hs => by
    by_cases hk : k = NameKind.free
    · subst hk
      obtain ⟨c, hc⟩ := hh n List.mem_cons_self
      obtain ⟨cl, e, h1, h2, h3⟩ := clo_go r ((n, c) :: acc) (fun x hx => hh x (List.mem_cons_of_mem _ hx)) (fun x c' hx => by
        rw [List.lookup_cons] at hx
        cases en : x == n with
        | true => rw [en] at hx; cases hx; rw [eq_of_beq en]; exact hc
        | false => rw [en] at hx; exact hs x c' hx)
      refine ⟨cl, ?_, h1, fun x hx => ?_, fun x ⟨c', hx⟩ => ?_⟩
      · rw [List.forIn_cons]
        have ec : cellOf env n = pure c := by unfold cellOf; rw [hc]
        simp only [beq_self_eq_true, if_true, ec, pure_bind]
        exact e
      · rcases List.mem_cons.mp hx with hx | hx
        · cases hx
          exact h3 n ⟨c, by rw [List.lookup_cons]; simp⟩
        · exact h2 x hx
      · refine h3 x ?_
        cases en : x == n with
        | true => exact ⟨c, by rw [List.lookup_cons, en]⟩
        | false => exact ⟨c', by rw [List.lookup_cons, en]; exact hx⟩
    · obtain ⟨cl, e, h1, h2, h3⟩ := clo_go r acc (fun x hx => hh x (List.mem_cons_of_mem _ hx)) hs
      refine ⟨cl, ?_, h1, fun x hx => ?_, h3⟩
      · rw [List.forIn_cons]
        have hb : (k == NameKind.free) = false := by simpa using hk
        simp only [hb, Bool.false_eq_true, if_false, pure_bind]
        exact e
      · rcases List.mem_cons.mp hx with hx | hx
        · cases hx; exact absurd rfl hk
        · exact h2 x hx
theorem clo_mk {scope : Scope} {env : Env} (h : ∀ x, (x, NameKind.free) ∈ scope.names → ∃ c, env.cells.lookup x = some c) : ∃ cl, Clo scope env cl := by
  obtain ⟨cl, e, h1, h2, _⟩ := clo_go (env := env) scope.names [] h (fun x c hx => by simp at hx)
  exact ⟨cl, by unfold closureFor; exact (by simpa using e), h1, h2⟩
/-- which slot of the outer names a block's slot takes: all checks on the text -/
def capOk (N' : List Str) (caps : List (Option Nat)) (N : List Str) (names names' : List (Str × NameKind)) : Bool :=
  (N'.length == caps.length) && (N'.zip caps).all (fun p => match p.2 with
    | none => true
    | some j => N[j]? == some p.1 && names'.lookup p.1 == some .free) &&
  names'.all (fun p => p.2 != NameKind.cell && (p.2 != NameKind.free || names.lookup p.1 == some .cell || names.lookup p.1 == some .free) && (p.2 != NameKind.local || names'.lookup p.1 == some .local))
def capSt (caps : List (Option Nat)) (σ : St) : St := caps.map fun o => match o with
  | none => none
  | some j => (σ[j]?).join
theorem relabel_free {env : Env} : ∀ {names : List (Str × NameKind)} {x : Str}, names.lookup x = some .free →
    (names.map fun (n, k) => if (k == NameKind.free && env.scope.kind == .function && env.kindOf n == some .cell) then (n, NameKind.cell) else (n, k)).lookup x = some .cell ∨
    (names.map fun (n, k) => if (k == NameKind.free && env.scope.kind == .function && env.kindOf n == some .cell) then (n, NameKind.cell) else (n, k)).lookup x = some .free
  | (n, k) :: r, x, h => by
    have ih := @relabel_free env r x
    show List.lookup x ((if (k == NameKind.free && env.scope.kind == .function && env.kindOf n == some .cell) = true then (n, NameKind.cell) else (n, k)) :: _) = _ ∨
      List.lookup x ((if (k == NameKind.free && env.scope.kind == .function && env.kindOf n == some .cell) = true then (n, NameKind.cell) else (n, k)) :: _) = _
    cases hx : x == n with
    | true =>
      simp only [List.lookup_cons, hx] at h
      cases h
      by_cases hc : (NameKind.free == NameKind.free && env.scope.kind == .function && env.kindOf n == some .cell) = true
      · rw [if_pos hc]; simp [List.lookup_cons, hx]
      · rw [if_neg hc]; simp [List.lookup_cons, hx]
    | false =>
      simp only [List.lookup_cons, hx] at h
      by_cases hc : (k == NameKind.free && env.scope.kind == .function && env.kindOf n == some .cell) = true
      · rw [if_pos hc]; simp only [List.lookup_cons, hx]; exact ih h
      · rw [if_neg hc]; simp only [List.lookup_cons, hx]; exact ih h
theorem relabel_back {env : Env} : ∀ {names : List (Str × NameKind)} {x : Str}, (∀ p ∈ names, p.2 ≠ .cell) →
    ((names.map fun (n, k) => if (k == NameKind.free && env.scope.kind == .function && env.kindOf n == some .cell) then (n, NameKind.cell) else (n, k)).lookup x = some .cell ∨
     (names.map fun (n, k) => if (k == NameKind.free && env.scope.kind == .function && env.kindOf n == some .cell) then (n, NameKind.cell) else (n, k)).lookup x = some .free) → (x, NameKind.free) ∈ names
  | [], x, _, h => by simp at h
  | (n, k) :: r, x, hc0, h => by
    have ih := @relabel_back env r x (fun p hp => hc0 p (List.mem_cons_of_mem _ hp))
    have hk0 : k ≠ .cell := hc0 (n, k) List.mem_cons_self
    rw [List.map_cons] at h
    generalize (r.map fun (x : Str × NameKind) => match x with | (n, k) => if (k == NameKind.free && env.scope.kind == ScopeKind.function && env.kindOf n == some NameKind.cell) = true then (n, NameKind.cell) else (n, k)) = R at h ih
    dsimp only at h
    by_cases hc : (k == NameKind.free && env.scope.kind == .function && env.kindOf n == some .cell) = true
    · rw [if_pos hc] at h
      cases hx : x == n with
      | true =>
        have hkf : k = .free := by
          rw [Bool.and_eq_true, Bool.and_eq_true] at hc
          exact eq_of_beq hc.1.1
        rw [eq_of_beq hx, hkf]; exact List.mem_cons_self
      | false =>
        rw [List.lookup_cons, hx] at h
        exact List.mem_cons_of_mem _ (ih h)
    · rw [if_neg hc] at h
      cases hx : x == n with
      | true =>
        rw [List.lookup_cons, hx] at h
        rcases h with h | h
        · exact absurd (Option.some.inj h) hk0
        · rw [eq_of_beq hx, Option.some.inj h]; exact List.mem_cons_self
      | false =>
        rw [List.lookup_cons, hx] at h
        exact List.mem_cons_of_mem _ (ih h)
section
variable {X : Cx} {pins : List (Addr × Obj)} {σ : St} {H : Hp} {s : Shared}
/-- at a block's entry -/
theorem comp_start {N' : List Str} {caps : List (Option Nat)} {scope : Scope} {cl : List (Str × Addr)} {fp : List Addr} {h1 : Heap} {tk : Nat} (I : Inv X pins σ H s) (hfp : ∀ b ∈ fp, FpOk X pins H b) (hfo : ∀ b ∈ fp, ∃ o, s.heap.get? b = some o)
    (hcap : capOk N' caps X.N X.env.scope.names scope.names = true) (hkind : scope.kind = .function) (hC : Clo scope X.env cl)
    (hns : h1.Ns (s.heap.objs.size + 1) fun _ => none) (hsb : Heap.SameBut (s.heap.objs.size + 1) ((s.heap.push { cls := .type "list", data := .seq #[] }).push { cls := .type "dict", data := .dict #[] }) h1) :
    Inv (cxComp X pins N' scope cl (s.heap.objs.size + 1) { s with heap := s.heap.push { cls := .type "list", data := .seq #[] } } (upd H s.heap.objs.size (.lst [])) fp) [] (capSt caps σ) (upd H s.heap.objs.size (.lst [])) { s with heap := h1, toks := tk } := by
  have hn : H s.heap.objs.size = none := I.hok.fresh (Nat.le_refl _)
  have hz : (s.heap.push { cls := .type "list", data := .seq #[] }).objs.size = s.heap.objs.size + 1 := Heap.size_push ..
  have up1 : ∀ b o, s.heap.get? b = some o → (s.heap.push { cls := .type "list", data := .seq #[] }).get? b = some o := fun b o e => Heap.get?_push_of_some _ e
  have up2 : ∀ b o, (s.heap.push { cls := .type "list", data := .seq #[] }).get? b = some o → h1.get? b = some o := fun b o e => by
    have hb : b < s.heap.objs.size + 1 := by rw [← hz]; exact Heap.lt_size e
    exact hsb.extBut b o (Nat.ne_of_lt hb) (Heap.get?_push_of_some _ e)
  have I1 : Inv X pins σ (upd H s.heap.objs.size (.lst [])) { s with heap := s.heap.push { cls := .type "list", data := .seq #[] }, toks := s.toks } :=
    I.laid (t' := s.toks) up1 (Nat.le_refl _) (show ObjOk X.prog X.w _ _ _ (.lst []) from ⟨Nat.zero_le _, [], 0, .nil, Heap.get?_push_size _ rfl⟩)
  obtain ⟨hcap1, hcap3⟩ := Bool.and_eq_true_iff.mp hcap
  obtain ⟨hcap1, hcap2⟩ := Bool.and_eq_true_iff.mp hcap1
  have hlen : N'.length = caps.length := by simpa using hcap1
  have hcap3' := List.all_eq_true.mp hcap3
  have nocell : ∀ p ∈ scope.names, p.2 ≠ NameKind.cell := fun p hp => by
    have := hcap3' p hp
    simp only [Bool.and_eq_true, bne_iff_ne] at this
    exact this.1.1
  have hsub := I.stkSub
  have ltS : ∀ b o, s.heap.get? b = some o → b < s.heap.objs.size := fun b o e => Heap.lt_size e
  refine ⟨⟨I.ok.mod, hkind, I.ok.glob, I.ok.blt, Nat.le_of_eq hz, fun x y c e1 e2 => I.ok.inj x y c (hC.sub x c e1) (hC.sub y c e2), fun x hx => ?_, fun x c hf => absurd (show false = true from hf) Bool.false_ne_true, I.ok.hd, I.ok.frames, .inl rfl, fun b hb => ?_, fun b o e => ?_, ?_, fun b o e hb => ?_, fun b hb hf => ?_, ?_, fun b hb => ?_⟩,
    rfl, I.bare, Un.kept up2, ⟨_, hns, fun i x v e1 e2 e3 => ?_⟩, fun x c e => ?_, ?_, fun x c e => ?_, fun p hp => ?_, I1.hok.kept up2, ?_⟩
  · exact hC.has x (relabel_back nocell hx)
  · obtain ⟨o, ho⟩ := hfo b hb
    obtain ⟨f0, f1, f2, f3, f4, f5⟩ := hfp b hb
    exact ⟨Nat.ne_of_lt (Nat.lt_succ_of_lt (ltS b o ho)), fun x c e => f4 x c (hC.sub x c e)⟩
  · have q := I1.bs b o e
    exact q
  · show X.base.objs.size ≤ (s.heap.push _).objs.size
    rw [hz]
    exact Nat.le_trans (Nat.le_trans I.ok.bsz I.sz) (Nat.le_succ _)
  · obtain ⟨f0, f1, f2, f3, f4, f5⟩ := hfp b hb
    rcases f3 with f3 | f3
    · exact I.ok.noex b o e f3
    · exact absurd (Nat.lt_of_lt_of_le (Heap.lt_size e) (Nat.le_trans I.ok.bsz f3)) (Nat.lt_irrefl _)
  · obtain ⟨f0, f1, f2, f3, f4, f5⟩ := hfp b hb
    rcases List.mem_cons.mp (hsub b hf) with z | z
    · exact f1 z
    · exact f2 z
  · exact I1.stack
  · exact I1.stkFree b hb
  · -- the captured names
    have e2' : ∃ o, caps[i]? = some o ∧ (match o with | none => none | some j => (σ[j]?).join) = some v := by
      unfold capSt at e2
      rw [List.getElem?_map] at e2
      cases q : caps[i]? with
      | none => rw [q] at e2; cases e2
      | some o => rw [q] at e2; exact ⟨o, rfl, Option.some.inj e2⟩
    obtain ⟨o, ho, hv⟩ := e2'
    cases o with
    | none => cases hv
    | some j =>
      have hv' : (σ[j]?).join = some v := hv
      have hσ : σ[j]? = some (some v) := by
        cases q : σ[j]? with
        | none => rw [q] at hv'; cases hv'
        | some w => rw [q] at hv'; rw [show w = some v from hv']
      have hzip : (x, some j) ∈ N'.zip caps := by
        refine List.mem_iff_getElem?.mpr ⟨i, ?_⟩
        rw [List.getElem?_zip_eq_some]
        exact ⟨e1, ho⟩
      have q := List.all_eq_true.mp hcap2 _ hzip
      simp only [Bool.and_eq_true, beq_iff_eq] at q
      obtain ⟨q1, q2⟩ := q
      have q3 := hcap3' _ (find_names q2)
      have q4 : X.env.scope.names.lookup x = some .cell ∨ X.env.scope.names.lookup x = some .free := by
        simp only [bne_self_eq_false, Bool.false_or, Bool.and_eq_true, Bool.or_eq_true, beq_iff_eq] at q3
        exact q3.1.2
      obtain ⟨m, _, hl⟩ := I.loc
      obtain ⟨u, ru, lk⟩ := hl j x v q1 hσ (.inr q4)
      refine ⟨u, ru, .inr ⟨relabel_free q2, ?_⟩⟩
      have q5 : X.env.kindOf x = some .cell ∨ X.env.kindOf x = some .free := q4
      rcases lk with ⟨k, _⟩ | ⟨_, c, ec, hc⟩
      · rcases q5 with q5 | q5 <;> (rw [q5] at k; cases k)
      · obtain ⟨c', ec'⟩ := hC.has x (find_names q2)
        have := hC.sub x c' ec'
        rw [ec] at this
        cases this
        obtain ⟨oc, hoc, hdc⟩ := hc
        exact ⟨c, ec', oc, up2 _ _ (up1 _ _ hoc), hdc⟩
  · obtain ⟨v, oc, hoc, hdc⟩ := I.cell x c (hC.sub x c e)
    exact ⟨v, oc, up2 _ _ (up1 _ _ hoc), hdc⟩
  · show upd H _ _ (s.heap.objs.size + 1) = none
    rw [upd_ne (Nat.ne_of_gt (Nat.lt_succ_self _))]
    exact I.hok.fresh (Nat.le_succ _)
  · exact I1.freeC x c (hC.sub x c e)
  · have hp' : p ∈ X.pn ++ pins := by simpa using hp
    obtain ⟨a1, a2, a3, a4, a5⟩ := I1.pin p hp'
    obtain ⟨b1, _, _, _, _⟩ := I.pin p hp'
    refine ⟨up2 _ _ a1, a2, Nat.ne_of_lt (Nat.lt_succ_of_lt (ltS _ _ b1)), fun hf => ?_, a5⟩
    rcases List.mem_cons.mp (hsub p.1 hf) with z | z
    · exact a3 z
    · exact a4 z
  · show (capSt caps σ).length = N'.length
    unfold capSt
    rw [List.length_map, hlen]
/-- behind a block: the outer context again -/
theorem comp_back {N' : List Str} {scope : Scope} {cl : List (Str × Addr)} {fp : List Addr} {C : Addr} {pins' : List (Addr × Obj)} {σ' : St} {H' : Hp} {s' : Shared} (I : Inv X pins σ H s) (hfp : ∀ b ∈ fp, FpOk X pins H b)
    (J : Inv (cxComp X pins N' scope cl C { s with heap := s.heap.push { cls := .type "list", data := .seq #[] } } (upd H s.heap.objs.size (.lst [])) fp) pins' σ' H' s') : Inv X pins σ H' s' := by
  have hn : H s.heap.objs.size = none := I.hok.fresh (Nat.le_refl _)
  refine I.call' (ch := fp) J.os ?_ J.hok J.bare fun b hb => ?_
  · exact (Un.laid (fun b o e => Heap.get?_push_of_some _ e) (Nat.le_refl _) hn).trans J.base
  · obtain ⟨f0, f1, f2, f3, f4, f5⟩ := hfp b hb
    exact ⟨f3, f1, f4, f5⟩
end
end L2
namespace L2
open PySem PySem.Spec PyProof.Rows
/-- the tests of a comprehension -/
def PIfs (X : Cx) (ifs : List Expr) (t : TT) : Prop :=
  ∀ (pins : List (Addr × Obj)) (s : Shared) (σ : St) (H : Hp) (Q : Bool → Hp → Prop), Inv X pins σ H s → t σ H Q →
    wpAny (model X.prog X.w) X.A (forIn ifs true fun c r => if r = true then do let ok ← isTrue c X.env (eval c X.env); pure (ForInStep.yield ok) else pure (ForInStep.yield r)) (TP X pins σ Q) X.xe s
def tYes : TT := fun _ H Q => Q true H
theorem pifs_nil {X : Cx} : PIfs X [] tYes := fun _ _ _ H _ I h => wpAny_tests_nil ⟨H, I, h⟩
/-- a turn of a comprehension, from an iterator on -/
def compRead (J : It) (D : Addr) (g : TG) (tt : TT) (te : TE) (σ0 : St) (H0 : Hp) (Q : Hp → Prop) : Prop :=
  ∃ W : Nat → Nat → St → Hp → Prop, (∃ m, W 0 m σ0 H0) ∧ ∀ i m σ' H', W i m σ' H' →
    (J.stop i H' ∧ Q H') ∨ (J.go i H' ∧ ∃ N : St → Hp → Prop, (∀ σ' H', N σ' H' → ∃ m', m' < m ∧ W (i + 1) m' σ' H') ∧ ∀ x H2, J.yld i H' x H2 → g x σ' H2 fun σ2 H3 => tt σ2 H3 fun b H4 =>
      if b = true then te σ2 H4 fun v H5 => ∃ ys, H5 D = some (.lst ys) ∧ ys.length < sizeLine ∧ N σ2 (upd H5 D (.lst (ys ++ [v]))) else N σ2 H4)
/-- a list comprehension: the new list at D -/
def tComp (caps : List (Option Nat)) (wi : TI) (g : TG) (tt : TT) (te : TE) : TE := fun σ H Q => wi σ H fun J H1 => ∀ D, H1 D = none → compRead J D g tt te (capSt caps σ) (upd H1 D (.lst [])) fun H2 => Q (.ref D) H2
section
variable {X : Cx} {tg elt iter : Expr} {ifs : List Expr} {scope : Scope} {pos : Pos}
theorem comp_loop {X' : Cx} {fp : List Addr} {it D : Addr} {tn : Nat → Heap → Prop} {J : It} {g : TG} {tt : TT} {te : TE} {σ0 : St} {H0 : Hp} {s : Shared} {R : Result → Shared → Prop} {Qe : Hp → Prop} (hc : X'.calm = true) (hxe : X'.xe = fun _ _ => False)
    (T : Turn X'.prog X'.w X'.K tg J fp it tn) (hg : PG X' tg g) (ht : PIfs X' ifs tt) (he : PE X' elt te) (I : Inv X' [] σ0 H0 s) (hf : ∀ b ∈ fp, FpOk X' [] H0 b) (st : tn 0 s.heap) (q : compRead J D g tt te σ0 H0 Qe)
    (hR : ∀ s' σ' H', Inv X' [] σ' H' s' → Qe H' → R (.ok .next) s') :
    codeAny (model X'.prog X'.w) X'.A (.compLoop (.ListComp elt [⟨tg, iter, ifs, 0⟩] scope pos) 0 (.ref it) (.ref D) X'.env) R s := by
  obtain ⟨W, ⟨m0, w0⟩, turn⟩ := q
  have stat : ∀ {H' : Hp}, (∀ b ∈ fp, H' b = none) → ∀ b ∈ fp, FpOk X' [] H' b := fun hn b hb => ⟨hn b hb, (hf b hb).2⟩
  refine codeAny_loop rfl (fun n s' => ∃ i σ' H', Inv X' [] σ' H' s' ∧ tn i s'.heap ∧ (∀ b ∈ fp, H' b = none) ∧ W i n σ' H') ?_ m0 ⟨0, σ0, H0, I, st, fun b hb => (hf b hb).1, w0⟩
  rintro n s3 ⟨i, σ3, H3, I3, st3, fr3, w3⟩
  show wpAny _ X'.A ((compTurn (.ListComp elt [⟨tg, iter, ifs, 0⟩] scope pos) 0 (.ref it) (.ref D) X'.env).onRaise (fun x => do noteFrame x X'.env; theTreesLotGoes x)) _ _ s3
  refine wpAny_noted ?_
  rw [compTurn_list]
  have no : ∀ {α : Type} {t : Sem α} {Q : α → Shared → Prop} {s' : Shared} {E' : Value → Shared → Prop}, wpAny (model X'.prog X'.w) X'.A t Q X'.xe s' → wpAny (model X'.prog X'.w) X'.A t Q E' s' := fun h => wpAny_mono h (fun _ _ x => x) fun _ _ x => by rw [hxe] at x; exact x.elim
  refine wpAny_bind (wpAny_standAt ?_)
  rcases turn i n σ3 H3 w3 with ⟨stop, qn⟩ | ⟨go, N, hN, step⟩
  · refine wpAny_bind (thn (T.done X' rfl rfl rfl hc i [] s3 σ3 H3 _ I3 (stat fr3) st3 stop) fun r s4 ⟨hr, I4⟩ => ?_)
    subst hr
    exact wpAny_pure (hR _ _ _ I4 qn)
  · refine wpAny_bind (thn (T.item X' rfl rfl rfl hc i [] s3 σ3 H3 _ I3 (stat fr3) st3 go) fun r s4 ⟨u, hr, h4⟩ => ?_)
    subst hr
    refine wpAny_bind (thn h4 fun _ s5 ⟨x, H5, I5, r5, y5, st5, fr5⟩ => ?_)
    have I5' := I5.pinned (stat fr5) (T.obj _ _ st5)
    have again : ∀ {σ7 : St} {H7 : Hp} {s7 : Shared}, Inv X' ([] ++ pinsAt fp s5.heap) σ7 H7 s7 → N σ7 H7 → ∃ m, m < n ∧ ∃ i σ' H', Inv X' [] σ' H' s7 ∧ tn i s7.heap ∧ (∀ b ∈ fp, H' b = none) ∧ W i m σ' H' := fun {σ7 H7 s7} I7 n7 => by
      obtain ⟨m', hm, w7⟩ := hN σ7 H7 n7
      refine ⟨m', hm, i + 1, σ7, H7, I7.unpinned, T.keep _ _ _ st5 fun b hb o e => (I7.pin (b, o) (List.mem_append_right _ (List.mem_append_right _ (mem_pinsAt hb e)))).1, fun b hb => ?_, w7⟩
      obtain ⟨o, e, d⟩ := T.obj _ _ st5 b hb
      exact (I7.pin (b, o) (List.mem_append_right _ (List.mem_append_right _ (mem_pinsAt hb e)))).2.1
    refine wpAny_bind (thn (no (hg _ s5 σ3 H5 x u _ I5' r5 (step x H5 y5))) fun _ s6 ⟨σ6, H6, I6, q6⟩ => ?_)
    refine wpAny_bind (thn (no (ht _ s6 σ6 H6 _ I6 q6)) fun b s7 ⟨H7, I7, q7⟩ => ?_)
    cases b with
    | false => exact wpAny_pure ⟨rfl, again I7 q7⟩
    | true =>
      refine wpAny_bind (wpAny_bind (thn (no (he _ s7 σ6 H7 _ I7 q7)) fun v s8 ⟨y, H8, I8, r8, q8⟩ => ?_))
      obtain ⟨ys, hD, hsz, q8⟩ := q8
      refine wpAny_bind (thn (no (mt_append (X := X') _ s8 σ6 H8 (.ref D) [y] (Value.ref D) [v] (fun _ H9 => N σ6 H9) I8 rfl (.cons r8 .nil) ⟨D, ys, y, rfl, rfl, hD, hsz, q8⟩)) fun _ s9 ⟨z, H9, I9, _, q9⟩ => ?_)
      exact wpAny_pure (wpAny_pure ⟨rfl, again I9 q9⟩)
theorem vis_free {N' : List Str} {caps : List (Option Nat)} {N : List Str} {names names' : List (Str × NameKind)} (h : capOk N' caps N names names' = true) : (∀ p ∈ names', p.2 ≠ NameKind.cell) ∧ (∀ x, (x, NameKind.free) ∈ names' → names.lookup x = some .cell ∨ names.lookup x = some .free) ∧ ∀ p ∈ names', p.2 = .local → names'.lookup p.1 = some .local := by
  have h3 := List.all_eq_true.mp (Bool.and_eq_true_iff.mp h).2
  refine ⟨fun p hp => ?_, fun x hx => ?_, fun p hp hl => ?_⟩
  · have := h3 p hp
    simp only [Bool.and_eq_true, bne_iff_ne] at this
    exact this.1.1
  · have := h3 _ hx
    simp only [bne_self_eq_false, Bool.false_or, Bool.and_eq_true, Bool.or_eq_true, beq_iff_eq] at this
    exact this.1.2
  · have := h3 p hp
    rw [hl] at this
    simp only [bne_self_eq_false, Bool.false_or, Bool.and_eq_true, beq_iff_eq] at this
    exact this.2
/-- the block, from the iterator on -/
theorem comp_block {N' : List Str} {caps : List (Option Nat)} {pins : List (Addr × Obj)} {σ : St} {H : Hp} {s : Shared} {J : It} {fp : List Addr} {it : Addr} {tn : Nat → Heap → Prop} {g : TG} {tt : TT} {te : TE} {cl : List (Str × Addr)} {RR : Value → Addr → Result → Shared → Prop} {Qe : Addr → Hp → Prop}
    (hc : X.calm = true) (hcap : capOk N' caps X.N X.env.scope.names scope.names = true) (hkind : scope.kind = .function) (hC : Clo scope X.env cl)
    (hg : ∀ C s0 H0 fp, PG (cxComp X pins N' scope cl C s0 H0 fp) tg g) (ht : ∀ C s0 H0 fp, PIfs (cxComp X pins N' scope cl C s0 H0 fp) ifs tt) (he : ∀ C s0 H0 fp, PE (cxComp X pins N' scope cl C s0 H0 fp) elt te)
    (I : Inv X pins σ H s) (T : Turn X.prog X.w X.K tg J fp it tn) (st : tn 0 s.heap) (hf : ∀ b ∈ fp, FpOk X pins H b) (q : ∀ D, H D = none → compRead J D g tt te (capSt caps σ) (upd H D (.lst [])) (Qe D))
    (hR : ∀ (D C : Addr) (s' : Shared) (H' : Hp), Inv X pins σ H' s' → Qe D H' → D ≠ C → (∃ o m, s'.heap.get? C = some o ∧ (∀ v, o.data ≠ .cell v) ∧ (∀ h2 : Heap, h2.get? C = some o → h2.Ns C m)) → H' C = none → s.heap.objs.size ≤ C → RR (.ref D) C (.ok .next) s') :
    wpAny (model X.prog X.w) X.A (newList []) (fun acc s₃ => wpAny (model X.prog X.w) X.A (newFunctionEnv scope X.env.globals cl [] X.env.qual none .none (some X.env)) (fun cenv s₄ =>
      codeAny (model X.prog X.w) X.A (.compStart (.ListComp elt [⟨tg, iter, ifs, 0⟩] scope pos) 0 (.ref it) acc { cenv with scope := relabel scope X.env }) (RR acc cenv.locals) s₄) X.xe s₃) X.xe s := by
  refine wpAny_newObj_type (wpAny_newFunctionEnv (vis_free hcap).1 (by intro y hy; simp at hy) (fun h₁ hns₁ hsb₁ => ?_) hkind)
  have hz : (s.heap.push { cls := .type "list", data := .seq #[] }).objs.size = s.heap.objs.size + 1 := Heap.size_push ..
  have hns : h₁.Ns (s.heap.objs.size + 1) fun _ => none := by rw [← hz]; exact hns₁
  have hsb : Heap.SameBut (s.heap.objs.size + 1) ((s.heap.push { cls := .type "list", data := .seq #[] }).push { cls := .type "dict", data := .dict #[] }) h₁ := by rw [← hz]; exact hsb₁
  have hfo : ∀ b ∈ fp, ∃ o, s.heap.get? b = some o := fun b hb => let ⟨o, e, _⟩ := T.obj 0 _ st b hb; ⟨o, e⟩
  have I1 := comp_start (tk := s.toks + ([] : List (Str × Value)).length) I hf hfo hcap hkind hC hns hsb
  have hn : H s.heap.objs.size = none := I.hok.fresh (Nat.le_refl _)
  have up : ∀ b o, s.heap.get? b = some o → h₁.get? b = some o := fun b o e =>
    hsb.extBut b o (Nat.ne_of_lt (Nat.lt_succ_of_lt (Heap.lt_size e))) (Heap.get?_push_of_some _ (Heap.get?_push_of_some _ e))
  have st1 : tn 0 h₁ := T.keep _ _ _ st fun b _ o e => up b o e
  have f1 : ∀ b ∈ fp, FpOk (cxComp X pins N' scope cl (s.heap.objs.size + 1) { s with heap := s.heap.push { cls := .type "list", data := .seq #[] } } (upd H s.heap.objs.size (.lst [])) fp) [] (upd H s.heap.objs.size (.lst [])) b := fun b hb => by
    obtain ⟨a0, a1, a2, a3, a4, a5⟩ := hf b hb
    obtain ⟨o, ho⟩ := hfo b hb
    have hlt := Heap.lt_size ho
    refine ⟨by rw [upd_ne (Nat.ne_of_lt hlt)]; exact a0, Nat.ne_of_lt (Nat.lt_succ_of_lt hlt), fun z => ?_, .inl hb, fun x c e => a4 x c (hC.sub x c e), fun p hp => a5 p (by simpa using hp)⟩
    rcases List.mem_cons.mp (I.stkSub b z) with z | z
    · exact a1 z
    · exact a2 z
  have loop : codeAny (model X.prog X.w) X.A (.compLoop (.ListComp elt [⟨tg, iter, ifs, 0⟩] scope pos) 0 (.ref it) (.ref s.heap.objs.size) (compEnvC scope cl (s.heap.objs.size + 1) X.env))
      (RR (.ref s.heap.objs.size) (s.heap.objs.size + 1)) { s with heap := h₁, toks := s.toks + ([] : List (Str × Value)).length } := by
    refine comp_loop (X' := cxComp X pins N' scope cl (s.heap.objs.size + 1) { s with heap := s.heap.push { cls := .type "list", data := .seq #[] } } (upd H s.heap.objs.size (.lst [])) fp) hc rfl T (hg _ _ _ _) (ht _ _ _ _) (he _ _ _ _) I1 f1 st1 (q _ hn) fun s' σ' H' J' qe => ?_
    have B := comp_back I hf J'
    obtain ⟨m, hnC, _⟩ := J'.loc
    obtain ⟨o, es, ep, ho, hd, r⟩ := id hnC
    exact hR _ _ s' H' B qe (Nat.ne_of_lt (Nat.lt_succ_self _)) ⟨o, m, ho, (fun v z => by rw [hd] at z; cases z), fun h2 e2 => ⟨o, es, ep, e2, hd, r⟩⟩ J'.free (Nat.le_succ _)
  have fin := codeAny_compStart_list loop (T.self _ _ _ _ _ st1 loop)
  have hz2 : (s.heap.push { cls := .type "list", dict := none, data := .seq ([] : List Value).toArray }).objs.size = s.heap.objs.size + 1 := hz
  show codeAny _ _ (.compStart _ 0 _ _ { (newEnv scope (s.heap.push { cls := .type "list", dict := none, data := .seq ([] : List Value).toArray }).objs.size X.env.globals cl X.env.qual none .none (some X.env) _) with scope := relabel scope X.env }) (RR _ (s.heap.push { cls := .type "list", dict := none, data := .seq ([] : List Value).toArray }).objs.size) _
  rw [hz2]
  exact fin
theorem clo_of {N' : List Str} {caps : List (Option Nat)} {pins : List (Addr × Obj)} {σ : St} {H : Hp} {s : Shared} (I : Inv X pins σ H s) (hcap : capOk N' caps X.N X.env.scope.names scope.names = true) : ∃ cl, Clo scope X.env cl :=
  clo_mk fun x hx => I.ok.has x ((vis_free hcap).2.1 x hx)
/-- [elt for tg in iter if ..] -/
theorem pe_comp (N' : List Str) (caps : List (Option Nat)) {wi : TI} {g : TG} {tt : TT} {te : TE} (hc : X.calm = true) (hi : PI X tg iter wi)
    (hg : ∀ pins cl C s0 H0 fp, PG (cxComp X pins N' scope cl C s0 H0 fp) tg g) (ht : ∀ pins cl C s0 H0 fp, PIfs (cxComp X pins N' scope cl C s0 H0 fp) ifs tt) (he : ∀ pins cl C s0 H0 fp, PE (cxComp X pins N' scope cl C s0 H0 fp) elt te)
    (hcap : capOk N' caps X.N X.env.scope.names scope.names = true := by rfl) (hkind : scope.kind = .function := by rfl) (hs : ∀ x, foldedSetIterable iter X.env x = pure x := by intro _; rfl) :
    PE X (.ListComp elt [⟨tg, iter, ifs, 0⟩] scope pos) (tComp caps wi g tt te) := by
  intro pins s σ H Q I h
  obtain ⟨cl, hC⟩ := clo_of I hcap
  rw [eval_ListComp]
  refine wpAny_comprehension_free (use := none) rfl hs hC.eq hkind (vis_free hcap).2.2 (thn (hi pins s σ H _ I h) fun v s1 h1 => thn h1 fun itv s2 h2 => ?_)
  obtain ⟨it, fp, tn, J, H2, e, I2, T, st2, f2, q2⟩ := h2
  subst e
  refine comp_block (RR := fun acc C => compPost (model X.prog X.w) X.A X.xe none (EP X pins σ Q) acc C) (Qe := fun D H' => Q (.ref D) H') hc hcap hkind hC (hg pins cl) (ht pins cl) (he pins cl) I2 T st2 f2 q2 fun D C s' H' I' q' hDC hCo hCn hCs => ?_
  obtain ⟨o, m, ho, hd, hns⟩ := hCo
  refine ⟨m, hns _ ho, fun h' hsb => ⟨.ref D, H', ?_, rfl, q'⟩⟩
  obtain ⟨hp', g', d', t', os'⟩ := s'
  have hC0 : X.s₀.heap.objs.size ≤ C := Nat.le_trans I2.sz hCs
  exact I'.turned (t' := t') (it := C) (fun b o hb e => hsb.extBut b o hb e) hCn (fun z => by
    have := I2.lt; rw [← z] at this; exact absurd (Nat.lt_of_lt_of_le this hCs) (Nat.lt_irrefl _)) (.inr hC0) (fun x c e z => by
    obtain ⟨v, q⟩ := I2.cell x c e
    exact absurd (Nat.lt_of_lt_of_le q.lt (by rw [z]; exact hCs)) (Nat.lt_irrefl _)) (fun p hp z => by
    exact absurd (Nat.lt_of_lt_of_le (Heap.lt_size (I2.pin p hp).1) (by rw [z]; exact hCs)) (Nat.lt_irrefl _))
end
end L2

set_option Elab.async false
set_option maxRecDepth 100000
set_option maxHeartbeats 4000000
namespace L2
open PySem PySem.Spec PyProof.Rows
section
variable {X : Cx}
/-! ### isinstance against a builtin type -/
def isTy (t : String) (c : String) : Bool := t == c || (t == "bool" && c == "int")
theorem kit_ty {K : PySem.W.Frag} (t c : String) (ht : t ∈ ["NoneType", "bool", "int", "str", "list", "tuple", "dict"]) (hc : c ∈ ["bool", "int", "str", "list", "tuple", "dict"]) : PySem.W.kitOne K (.type t) (.type c) = some (isTy t c) := by
  simp only [List.mem_cons, List.not_mem_nil, or_false] at ht hc
  rcases ht with rfl | rfl | rfl | rfl | rfl | rfl | rfl <;> rcases hc with rfl | rfl | rfl | rfl | rfl | rfl <;> rfl
theorem call_isinstance : CallR X (.builtin "isinstance") (fun xs H Q => ∃ x t c, xs = [x, .ty c] ∧ TyOf X.K H x (.type t) ∧ t ∈ ["NoneType", "bool", "int", "str", "list", "tuple", "dict"] ∧ c ∈ ["bool", "int", "str", "list", "tuple", "dict"] ∧ Q (.bl (isTy t c)) H) := by
  intro pins s σ H xs us Q I r h
  obtain ⟨x, t, c, rfl, ty, ht, hc, q⟩ := h
  obtain ⟨u, w', rfl, rx, ry⟩ := vals2 r
  cases ry
  exact isinst_ok I rx ty (kit_ty t c ht hc) fun tk => ⟨.bl _, H, I.tok tk, rfl, q⟩
/-- a type's own name as a value -/
theorem pe_tyn {x : Str} {T : String} {pos : Pos} (hg : Gl X x) (hm : X.mg x = none) (hv : bootBuiltins x = some (.type T)) (hn : x ≠ "__name__" := by decide) (hd : (x == ("__debug__" : Str)) = false := by decide) : PE X (.Name x pos) (tC (.ty T)) :=
  pe_bltn hg hm hv rfl hn hd
/-! ### two lists of ints compared -/
end
end L2
namespace L2
open PySem PySem.Spec PyProof.Rows
section
variable {X : Cx}
theorem all_range_eq : ∀ (ns ms : List Int), ns.length = ms.length → ((List.range ns.length).all fun j => decide (ns.getD j 0 = ms.getD j 0)) = decide (ns = ms) := by
  intro ns ms hl
  by_cases h : ns = ms
  · subst h; simp
  · rw [decide_eq_false h]
    cases hc : ((List.range ns.length).all fun j => decide (ns.getD j 0 = ms.getD j 0)) with
    | false => rfl
    | true =>
      exfalso
      apply h
      rw [List.all_eq_true] at hc
      apply List.ext_getElem hl
      intro i h1 h2
      have := hc i (List.mem_range.mpr h1)
      have e := of_decide_eq_true this
      rw [List.getD_eq_getElem?_getD, List.getD_eq_getElem?_getD, List.getElem?_eq_getElem h1, List.getElem?_eq_getElem h2] at e
      exact e
theorem ints_at {ns : List Int} : ∀ {us : List Value}, IntsAre us ns → ∀ (j : Nat) (h : j < us.toArray.size), ∃ t, us.toArray[j] = .int (ns.getD j 0) t := by
  induction ns with
  | nil => intro us h j hj; cases h; simp at hj
  | cons n ns ih =>
    intro us h j hj
    cases h with
    | cons _ t h =>
      cases j with
      | zero => exact ⟨t, by simp⟩
      | succ j =>
        obtain ⟨t', e⟩ := ih h j (by simpa using hj)
        exact ⟨t', by simpa using e⟩
/-- == of two lists of ints -/
def rEqI (K : PySem.W.Frag) (neg : Bool) : R2 := fun x y H Q => ∃ (p q : Addr) (ns ms : List Int), x = .ref p ∧ y = .ref q ∧ SqL K H p (ns.map V.int) ∧ SqL K H q (ms.map V.int) ∧ Q (.bl (if neg then !decide (ns = ms) else decide (ns = ms))) H
theorem op_eqI {k : Nat} (hr : Room k X.A) : OpR X (compareOp .Eq) (rEqI X.K false) := by
  intro pins s σ H x y v u Q I rx ry h
  obtain ⟨p, q, ns, ms, rfl, rfl, h1, h2, qq⟩ := h
  cases rx; cases ry
  obtain ⟨its, r1, p1, _⟩ := I.list h1
  obtain ⟨its2, r2, p2, _⟩ := I.list h2
  have i1 := intsAre_of r1
  have i2 := intsAre_of r2
  have l1 := r1.length
  have l2 := r2.length
  rw [List.length_map] at l1 l2
  by_cases hl : ns.length = ms.length
  · refine SeqAt.eq_listAt (e := fun j => decide (ns.getD j 0 = ms.getD j 0)) p1.isList p2.isList (by simp only [List.size_toArray]; omega) hr.units0 (fun j a1 a2 => ?_) ?_
    · obtain ⟨t1, e1⟩ := ints_at i1 j a1
      obtain ⟨t2, e2⟩ := ints_at i2 j a2
      rw [e1, e2]
      have := SeqAt.EqAt.int_int (A := X.A.in1) (s := s) (ns.getD j 0) t1 (ms.getD j 0) t2
      rw [Bool.beq_eq_decide_eq] at this
      exact this
    · rw [show its.toArray.size = ns.length by simp only [List.size_toArray]; omega, all_range_eq ns ms hl]
      exact ⟨.bl _, H, I, rfl, qq⟩
  · refine SeqAt.eq_list_lengthsAt p1.isList p2.isList (by simp only [List.size_toArray, bne_iff_ne]; omega) hr.units0 ⟨.bl false, H, I, rfl, ?_⟩
    have : decide (ns = ms) = false := decide_eq_false fun e => hl (by rw [e])
    rw [this] at qq
    exact qq
/-! ### range by -1 -/
/-! ### the forms of a comprehension that one uses -/
theorem comp_list {K : PySem.W.Frag} {a : Addr} {xs : List V} {D : Addr} {g : TG} {tt : TT} {te : TE} {σ0 : St} {H0 : Hp} {Q : Hp → Prop} (Pv : Nat → St → Hp → Prop) (h0 : Pv 0 σ0 H0) (hl : ∀ i σ H, i ≤ xs.length → Pv i σ H → SqL K H a xs)
    (hs : ∀ i x σ H, xs[i]? = some x → Pv i σ H → g x σ H fun σ2 H3 => tt σ2 H3 fun b H4 => if b = true then te σ2 H4 fun v H5 => ∃ ys, H5 D = some (.lst ys) ∧ ys.length < sizeLine ∧ Pv (i + 1) σ2 (upd H5 D (.lst (ys ++ [v]))) else Pv (i + 1) σ2 H4)
    (hd : ∀ σ H, Pv xs.length σ H → Q H) : compRead (Itl K a) D g tt te σ0 H0 Q := by
  refine ⟨fun i m σ H => m = xs.length - i ∧ i ≤ xs.length ∧ Pv i σ H, ⟨xs.length, by simp, Nat.zero_le _, h0⟩, ?_⟩
  rintro i m σ H ⟨rfl, hi, p⟩
  have q := hl i σ H hi p
  by_cases hlt : i < xs.length
  · refine .inr ⟨⟨xs, xs[i], q, by simp [hlt]⟩, Pv (i + 1), fun σ' H' p' => ⟨xs.length - (i + 1), by omega, rfl, hlt, p'⟩, fun x H' y => ?_⟩
    obtain ⟨e, y⟩ := y
    subst e
    exact hs i x σ _ (y xs q) p
  · have e : i = xs.length := by omega
    subst e
    exact .inl ⟨⟨xs, q, Nat.le_refl _⟩, hd σ H p⟩
end
end L2

set_option Elab.async false
set_option maxRecDepth 100000
set_option maxHeartbeats 4000000
namespace L2
open PySem PySem.Spec PyProof.Rows
/-! ### enumerate over a list -/
def Ite (K : PySem.W.Frag) (a : Addr) : It :=
  ⟨fun i H => ∃ xs x, SqL K H a xs ∧ xs[i]? = some x,
   fun i H x H' => ∃ (T : Addr) (v : V), H T = none ∧ x = .ref T ∧ H' = upd H T (.tup [.int i, v]) ∧ ∀ xs, SqL K H a xs → xs[i]? = some v,
   fun i H => ∃ xs, SqL K H a xs ∧ xs.length ≤ i⟩
theorem turn_enum {P : Program} {w : World} {K : PySem.W.Frag} {elts : List Expr} {x1 : Nat} {pos : Pos} (a e it : Addr) (hne : e ≠ it) :
    Turn P w K (.Tuple elts x1 pos) (Ite K a) [e, it] e (fun i h => (∃ old, IsEnum h e it i old) ∧ h.IsListIter it a i) where
  mem := by simp
  obj := fun i h st b hb => by
    rcases List.mem_cons.mp hb with rfl | hb
    · obtain ⟨⟨old, q⟩, _⟩ := st
      exact ⟨_, q, fun v z => by
        have z' : Data.fields _ = Data.cell v := z
        cases z'⟩
    · have e' : b = it := by simpa using hb
      subst e'
      obtain ⟨_, o, q, c, d⟩ := st
      exact ⟨o, q, fun v z => by rw [d] at z; cases z⟩
  keep := fun i h h' st k => by
    obtain ⟨⟨old, q⟩, st⟩ := st
    exact ⟨⟨old, k e (by simp) _ q⟩, st.at fun o e => k it (by simp) o e⟩
  item := by
    intro X hP hw hK hc i pins s σ H E I hf st hg
    subst hP hw hK
    obtain ⟨⟨old, he⟩, hit⟩ := st
    obtain ⟨xs, x, hq, hx⟩ := hg
    obtain ⟨its, rv, p, hz⟩ := I.list hq
    obtain ⟨u, hu, ru⟩ := rv.get hx
    obtain ⟨f0, f1, f2, f3, f4, f5⟩ := hf e (by simp)
    obtain ⟨g0, g1, g2, g3, g4, g5⟩ := hf it (by simp)
    refine wpAny_pyNext_enum_item he hit p.isList (x := u) (by simpa using hu) hne fun h₁ heo hit₁ ht₁ hz₁ hk₁ => ?_
    refine ⟨_, rfl, wpAny_letOwnedTupleGo_enum heo fun h₂ he₂ hs₂ => ?_⟩
    replace hs₂ : Heap.SameBut e h₁ h₂ := hs₂
    have hel : e < s.heap.objs.size := Heap.lt_size he
    have hT : H s.heap.objs.size = none := I.hok.fresh (Nat.le_refl _)
    have ht₂ : h₂.get? s.heap.objs.size = some { cls := .type "tuple", data := .seq #[.int i s.toks, u] } := (hs₂.2 _ (Nat.ne_of_gt hel)).trans ht₁
    have kk : ∀ b o, b ≠ e → b ≠ it → s.heap.get? b = some o → h₂.get? b = some o := fun b o h1 h2 q => (hs₂.2 b h1).trans (hk₁ b o h1 h2 q)
    have nT : ∀ b o, s.heap.get? b = some o → b ≠ s.heap.objs.size := fun b o q => Nat.ne_of_lt (Heap.lt_size q)
    have nch : ∀ b, b ∉ [e, it] → b ≠ e ∧ b ≠ it := fun b hb => ⟨fun z => hb (by simp [z]), fun z => hb (by simp [z])⟩
    have nE : ∀ b o, H b = some o → b ≠ e ∧ b ≠ it := fun b o q => ⟨fun z => (by rw [z, f0] at q; cases q), fun z => (by rw [z, g0] at q; cases q)⟩
    have I1 : Inv X pins σ (upd H s.heap.objs.size (.tup [.int i, x])) { s with heap := h₂, gens := s.gens, drawn := s.drawn, toks := s.toks + 1 } := by
      refine I.step (ch := [e, it]) (fun b hb => ?_) (fun b o _ _ hc q _ => kk b o (nch b hc).1 (nch b hc).2 q) (fun b o _ _ hc q _ => ⟨o.slots, kk b o (nch b hc).1 (nch b hc).2 q⟩) (fun b o _ q n => by rw [upd_ne (nT b o q)]; exact n)
        (fun b o hc q => ⟨o, kk b o (nch b hc).1 (nch b hc).2 q⟩) (fun b ys q => by rw [upd_ne (ne_of_none q hT)]; exact q) (fun b o z q => by rw [upd_ne (ne_of_none q hT)]; exact q) (fun b ps q => ⟨#[], by rw [upd_ne (ne_of_none q hT), q]; simp⟩) (fun m hm => ?_) (fun b z q => ?_) I.bare
      · rcases List.mem_cons.mp hb with rfl | hb
        · exact ⟨f3, f1, f4, f5⟩
        · have e' : b = it := by simpa using hb
          subst e'
          exact ⟨g3, g1, g4, g5⟩
      · obtain ⟨o, es, ep, ho, r⟩ := hm
        exact ⟨o, es, ep, kk _ o (Ne.symm f1) (Ne.symm g1) ho, r⟩
      · by_cases hb : b = s.heap.objs.size
        · subst hb
          rw [upd_same] at q
          cases q
          exact ⟨(by show 2 ≤ sizeLine; rw [sizeLine_eq]; decide), [.int i s.toks, u], .cons ⟨_, rfl⟩ (.cons ru .nil), _, ht₂, rfl, 0, rfl⟩
        · rw [upd_ne hb] at q
          refine (I.hok b z q).stay (fun c v hc q' => ?_) (fun c q' => by rw [upd_ne (ne_of_none q' hT)]; exact q') fun c ys q' => by rw [upd_ne (ne_of_none q' hT)]; exact q'
          rcases hc with rfl | hc
          · exact kk c v (nE c z q).1 (nE c z q).2 q'
          · exact kk c v (nE c _ hc).1 (nE c _ hc).2 q'
    refine ⟨.ref s.heap.objs.size, _, I1, rfl, ⟨s.heap.objs.size, x, hT, rfl, rfl, fun ys hy => by rw [I.list_inj hy hq]; exact hx⟩, ⟨⟨u, ?_⟩, ?_⟩, fun b hb => ?_⟩
    · have : ((i + 1 : Nat) : Int) = (i : Int) + 1 := by push_cast; rfl
      rw [this]; exact he₂
    · exact hit₁.extBut hs₂.extBut (Ne.symm hne)
    · have hbl : b < s.heap.objs.size := by
        rcases List.mem_cons.mp hb with rfl | hb
        · exact hel
        · have e' : b = it := by simpa using hb
          subst e'
          obtain ⟨o, q, _⟩ := hit
          exact Heap.lt_size q
      rw [upd_ne (Nat.ne_of_lt hbl)]
      exact (hf b hb).1
  done := by
    intro X hP hw hK hc i pins s σ H E I hf st hg
    subst hP hw hK
    obtain ⟨⟨old, he⟩, hit⟩ := st
    obtain ⟨xs, hq, hx⟩ := hg
    obtain ⟨its, rv, p, hz⟩ := I.list hq
    obtain ⟨g0, g1, g2, g3, g4, g5⟩ := hf it (by simp)
    have hl := rv.length
    exact wpAny_pyNext_enum_end (I.ok.hd hc) he hit p.isList (by simp; omega) fun h' eb => ⟨rfl, I.turned (t' := s.toks) (fun b o hb e => eb b o hb e) g0 g1 g3 g4 g5⟩
  self := fun A i s Q E st h => by
    obtain ⟨⟨old, he⟩, _⟩ := st
    exact wpAny_pyIter_enum he h
section
variable {X : Cx}
def iEnum (K : PySem.W.Frag) (ta : TA) : TI := fun σ H R => ta σ H fun vs H1 => ∃ a, vs = [.ref a] ∧ (∃ xs, SqL K H1 a xs) ∧ R (Ite K a) H1
theorem boot_enum : bootBuiltins "enumerate" = some (.type "enumerate") := by decide +kernel
theorem pi_enum {elts : List Expr} {x1 : Nat} {tpos : Pos} {l : Expr} {ta : TA} {p pos : Pos} (hg : Gl X "enumerate") (hm : X.mg "enumerate" = none) (ha : PA X [l] ta) (hs : starEach [l] X.env = [(false, eval l X.env)] := by rfl) : PI X (.Tuple elts x1 tpos) (.Call (.Name "enumerate" p) [l] [] pos) (iEnum X.K ta) := by
  intro pins s σ H R I h
  refine Call_ (ld_blt I hg hm boot_enum (PyProof.Rows.callWith_type1 (thn (ha pos pins s σ H _ I h) fun us s1 ⟨vs, H1, I1, r1, q1⟩ => ?_) hs rfl))
  obtain ⟨a, e, ⟨xs, hxs⟩, q⟩ := q1
  subst e
  obtain ⟨u, rfl, ru⟩ := vals1 r1
  cases ru
  obtain ⟨its, rv, pl, hz⟩ := I1.list hxs
  refine call_enumerate_list pl.isList fun h' he hit hsz hk => ?_
  have I2 : Inv X pins σ H1 { s1 with heap := h' } := I1.kept (t' := s1.toks) hk
  refine wpAny_pyIter_enum he ⟨s1.heap.objs.size + 1, [s1.heap.objs.size + 1, s1.heap.objs.size], _, Ite X.K a, H1, rfl, I2, turn_enum a _ _ (Nat.ne_of_gt (Nat.lt_succ_self _)), ⟨⟨_, he⟩, hit⟩, fun b hb => ?_, q⟩
  rcases List.mem_cons.mp hb with rfl | hb
  · exact I1.fpOk (Nat.le_succ _) (I1.hok.fresh (Nat.le_succ _))
  · have e' : b = s1.heap.objs.size := by simpa using hb
    subst e'
    exact I1.fpOk (Nat.le_refl _) (I1.hok.fresh (Nat.le_refl _))
/-- over enumerate(list), the list left as it is -/
theorem for_enum {K : PySem.W.Frag} {a : Addr} {xs : List V} {g : TG} {tb : TS} {D : Ends} {σ : St} {H : Hp} (Pv : Nat → St → Hp → Prop) (h0 : Pv 0 σ H) (hl : ∀ i σ H, i ≤ xs.length → Pv i σ H → SqL K H a xs)
    (hs : ∀ i x σ H T, xs[i]? = some x → Pv i σ H → H T = none → g (.ref T) σ (upd H T (.tup [.int i, x])) fun σ2 H2 => tb { D with nx := Pv (i + 1), ct := Pv (i + 1), bk := D.nx } σ2 H2) (hd : ∀ σ H, Pv xs.length σ H → D.nx σ H) :
    ∃ W : Nat → Nat → St → Hp → Prop, (∃ m, W 0 m σ H) ∧ ∀ i m σ H, W i m σ H →
      ((Ite K a).stop i H ∧ D.nx σ H) ∨ ((Ite K a).go i H ∧ ∃ N : St → Hp → Prop, (∀ σ' H', N σ' H' → ∃ m', m' < m ∧ W (i + 1) m' σ' H') ∧ ∀ x H', (Ite K a).yld i H x H' → g x σ H' fun σ2 H2 => tb { D with nx := N, ct := N, bk := D.nx } σ2 H2) := by
  refine ⟨fun i m σ H => m = xs.length - i ∧ i ≤ xs.length ∧ Pv i σ H, ⟨xs.length, by simp, Nat.zero_le _, h0⟩, ?_⟩
  rintro i m σ H ⟨rfl, hi, p⟩
  have q := hl i σ H hi p
  by_cases hlt : i < xs.length
  · refine .inr ⟨⟨xs, xs[i], q, by simp [hlt]⟩, Pv (i + 1), fun σ' H' p' => ⟨xs.length - (i + 1), by omega, rfl, hlt, p'⟩, fun x H' y => ?_⟩
    obtain ⟨T, v, hT, rfl, rfl, y⟩ := y
    exact hs i v σ H T (y xs q) p hT
  · have e : i = xs.length := by omega
    subst e
    exact .inl ⟨⟨xs, q, Nat.le_refl _⟩, hd σ H p⟩
end
end L2

set_option Elab.async false
set_option maxRecDepth 100000
set_option maxHeartbeats 4000000
namespace L2
open PySem PySem.Spec PyProof.Rows
/-! ### list(enumerate(list)) -/
section
variable {prog : Program} {w : World} {A : Around} {E : Value → Shared → Prop} {s : Shared}
/-- an enumerate whose tuple at a is out -/
def EnX (h : Heap) (e it : Addr) (i : Int) (old : Value) (a : Addr) (f : Bool) : Prop :=
  h.get? e = some { cls := .type "enumerate", dict := none, data := .fields #[rawInt a, .bool f, .ref it, rawInt i, .none, old], slots := #[] }
theorem fld {e : Addr} {vs : Array Value} {n : Nat} {x : Value} {Q : Value → Shared → Prop} (he : s.heap.get? e = some { cls := .type "enumerate", dict := none, data := .fields vs, slots := #[] }) (hx : vs[n]? = some x) (h : Q x s) :
    wpAny (model prog w) A (field (.ref e) n) Q E s := wpAny_field he rfl hx h
theorem enx_next {e it l a : Addr} {i : Nat} {items : Array Value} {x old : Value} {f : Bool} {oa : Obj} {Q : Option Value → Shared → Prop} (he : EnX s.heap e it i old a f) (ha : s.heap.get? a = some oa) (hae : a ≠ e) (hai : a ≠ it)
    (hit : s.heap.IsListIter it l i) (hl : s.heap.IsList l items) (hx : items[i]? = some x) (hne : e ≠ it)
    (hQ : ∀ h', EnX h' e it ((i : Int) + 1) old a true → h'.IsListIter it l (i + 1) → h'.get? s.heap.objs.size = some { cls := .type "tuple", data := .seq #[.int i s.toks, x] } → h'.objs.size = s.heap.objs.size + 1 →
      (∀ b o, b ≠ e → b ≠ it → s.heap.get? b = some o → h'.get? b = some o) → Q (some (.ref s.heap.objs.size)) { s with heap := h', toks := s.toks + 1 }) :
    wpAny (model prog w) A (pyNext (.ref e)) Q E s := by
  obtain ⟨hp, gg, dd, tk, oo⟩ := s
  have ty : Shared.TypeIs ⟨hp, gg, dd, tk, oo⟩ (.ref e) "enumerate" := ⟨_, he, rfl⟩
  unfold pyNext
  refine wpAny_bind (wpAny_attempt (wpAny_callSpecial?_slot (name := Str.ofString "__next__") ty F.slot_enumerate_next (wpAny_call_entry F.slot_enumerate_next ty F.entry_enumerate_next ?_ (F.args_enumerate_next_1 _))))
  show wpAny _ _ (field (.ref e) 2 >>= _) _ _ _
  refine wpAny_bind (fld he (x := .ref it) rfl (wpAny_bind (wpAny_nextOf_list_item hit hl hx fun k1 j1 sb1 => ?_)))
  have sb1' : Heap.SameBut it hp k1 := sb1
  have e1 : EnX k1 e it i old a f := (sb1'.2 e hne).trans he
  show wpAny _ _ (field (.ref e) 3 >>= _) _ _ ⟨k1, gg, dd, tk, oo⟩
  refine wpAny_bind (fld e1 (x := rawInt i) rfl (wpAny_bind (fld e1 (x := .none) rfl ?_)))
  show wpAny _ _ (mkInt i >>= _) _ _ ⟨k1, gg, dd, tk, oo⟩
  refine wpAny_bind (wpAny_mkInt ?_)
  show wpAny _ _ (setField (.ref e) 3 (rawInt ((i : Int) + 1)) >>= _) _ _ ⟨k1, gg, dd, tk + 1, oo⟩
  refine wpAny_bind (wpAny_setField_rec e1 (by simp) fun k2 e2 sb2 => ?_)
  have sb2' : Heap.SameBut e k1 k2 := sb2
  have e2' : EnX k2 e it ((i : Int) + 1) old a f := e2
  show wpAny _ _ (setField (.ref e) 4 .none >>= _) _ _ ⟨k2, gg, dd, tk + 1, oo⟩
  refine wpAny_bind (wpAny_setField_rec e2' (by simp) fun k3 e3 sb3 => ?_)
  have sb3' : Heap.SameBut e k2 k3 := sb3
  have e3' : EnX k3 e it ((i : Int) + 1) old a f := e3
  show wpAny _ _ (newTuple [.int i tk, x] >>= _) _ _ ⟨k3, gg, dd, tk + 1, oo⟩
  refine wpAny_bind (wpAny_newTuple ?_)
  have z3 : k3.objs.size = hp.objs.size := by rw [sb3'.1, sb2'.1, sb1'.1]
  have elt : e < hp.objs.size := Heap.lt_size he
  have kp : ∀ b o, b ≠ e → b ≠ it → hp.get? b = some o → k3.get? b = some o := fun b o b1 b2 q => sb3'.extBut b o b1 (sb2'.extBut b o b1 (sb1'.extBut b o b2 q))
  have fin : ∀ k5 : Heap, EnX k5 e it ((i : Int) + 1) old a true → Heap.SameBut e (k3.push { cls := .type "tuple", data := .seq #[.int i tk, x] }) k5 → Q (some (.ref hp.objs.size)) ⟨k5, gg, dd, tk + 1, oo⟩ := fun k5 e5 sb5 => by
    refine hQ k5 e5 ?_ (sb5.extBut _ _ (Nat.ne_of_gt elt) (by rw [← z3]; exact Heap.get?_push_size _ rfl)) (by rw [sb5.1, Heap.size_push, z3]) fun b o b1 b2 q => sb5.extBut b o b1 (Heap.get?_push_of_some _ (kp b o b1 b2 q))
    obtain ⟨o, ho, r⟩ := (j1.extBut sb2'.extBut (Ne.symm hne)).extBut sb3'.extBut (Ne.symm hne)
    exact ⟨o, sb5.extBut it o (Ne.symm hne) (Heap.get?_push_of_some _ ho), r⟩
  have e4 : EnX (k3.push { cls := .type "tuple", data := .seq #[.int i tk, x] }) e it ((i : Int) + 1) old a f := Heap.get?_push_of_some _ e3'
  have a4 : (k3.push { cls := .type "tuple", data := .seq #[.int i tk, x] }).get? a = some oa := Heap.get?_push_of_some _ (kp a oa hae hai ha)
  show wpAny _ _ (Builtin.SmallTypes.ownedTupleIsFree (.ref e) >>= _) _ _ ⟨k3.push { cls := .type "tuple", data := .seq #[.int i tk, x] }, gg, dd, tk + 1, oo⟩
  rw [z3]
  refine wpAny_bind ?_
  unfold Builtin.SmallTypes.ownedTupleIsFree
  refine wpAny_bind (fld e4 (x := rawInt a) rfl ?_)
  show wpAny _ _ (loadIfAlive ((a : Int).toNat) >>= _) _ _ _
  rw [Int.toNat_natCast]
  refine wpAny_bind (PySem.W.kdx_alive a4 ?_)
  simp only [Option.isNone_some, Bool.false_eq_true, if_false]
  refine wpAny_bind (fld e4 (x := .bool f) rfl ?_)
  cases f with
  | true => exact wpAny_pure (wpAny_pure ⟨_, rfl, wpAny_pure (fin _ e4 (Heap.SameBut.refl _ _))⟩)
  | false => exact wpAny_bind (wpAny_setField_rec e4 (by simp) fun k5 e5 sb5 => wpAny_pure (wpAny_pure ⟨_, rfl, wpAny_pure (fin k5 e5 sb5)⟩))
theorem enx_end {e it l a : Addr} {i : Nat} {items : Array Value} {old : Value} {f : Bool} {Q : Option Value → Shared → Prop} (hh : A.handled = none) (he : EnX s.heap e it i old a f)
    (hit : s.heap.IsListIter it l i) (hl : s.heap.IsList l items) (hx : items[i]? = none) (hQ : ∀ h', Heap.ExtBut it s.heap h' → Q none { s with heap := h' }) : wpAny (model prog w) A (pyNext (.ref e)) Q E s := by
  have ty : s.TypeIs (.ref e) "enumerate" := ⟨_, he, rfl⟩
  unfold pyNext
  refine wpAny_bind (wpAny_attempt (wpAny_callSpecial?_slot (name := Str.ofString "__next__") ty F.slot_enumerate_next (wpAny_call_entry F.slot_enumerate_next ty F.entry_enumerate_next ?_ (F.args_enumerate_next_1 _))))
  show wpAny _ _ (field (.ref e) 2 >>= _) _ _ _
  refine wpAny_bind (fld he (x := .ref it) rfl (wpAny_bind (wpAny_nextOf_list_end hh hit hl hx fun h' y q1 q2 => ?_)))
  obtain ⟨o, ho, hc⟩ := q2
  exact wpAny_bind (wpAny_isInstance (T := "StopIteration") (b := true) ⟨o, ho, hc⟩ isSubtype_stop (wpAny_pure (hQ _ q1)))
end
end L2
namespace L2
open PySem PySem.Spec PyProof.Rows
/-- the enumerate at turn i; its tuples are not the list S that is filled -/
def EnSt (h : Heap) (e it l S : Addr) (i : Nat) : Prop :=
  ((i = 0 ∧ ∃ old, IsEnum h e it 0 old) ∨ ∃ old a f oa, EnX h e it i old a f ∧ h.get? a = some oa ∧ a ≠ e ∧ a ≠ it ∧ a ≠ S) ∧ h.IsListIter it l i
section
variable {prog : Program} {w : World} {A : Around} {s : Shared} {R : Result → Shared → Prop}
end
section
variable {prog : Program} {w : World} {A : Around} {E : Value → Shared → Prop} {s : Shared}
end
end L2
namespace L2
open PySem PySem.Spec PyProof.Rows
section
variable {X : Cx} {pins : List (Addr × Obj)} {σ : St} {H H' : Hp} {s : Shared} {h' : Heap}
end
section
variable {X : Cx}
/-- not a starred one -/
def plainE : Expr → Bool
  | .Starred .. => false
  | _ => true
theorem star_plain {e : Expr} {es : List Expr} {env : Env} (h : plainE e = true) : starEach (e :: es) env = (false, eval e env) :: starEach es env := by
  cases e <;> first | rfl | cases h
theorem pac {e : Expr} {es : List Expr} {te : TE} {t : TA} (ha : PE X e te) (hr : PA X es t) (hp : plainE e = true := by rfl) : PA X (e :: es) (tCons te t) := pa_cons ha hr (star_plain hp)
end
end L2

set_option Elab.async false
set_option maxRecDepth 100000
set_option maxHeartbeats 4000000
namespace L2
open PySem PySem.Spec PyProof.Rows

/-! ### heaps that grow, and heaps in which some places change -/
/-- all but what stands at the places S is as it was -/
def Kp (S : List Addr) (H H' : Hp) : Prop := ∀ b o, b ∉ S → H b = some o → H' b = some o
theorem Kp.refl (S : List Addr) (H : Hp) : Kp S H H := fun _ _ _ q => q
theorem Kp.trans {S : List Addr} {H H1 H2 : Hp} (a : Kp S H H1) (b : Kp S H1 H2) : Kp S H H2 := fun c o n q => b c o n (a c o n q)
theorem Same.kp {S : List Addr} {H H' : Hp} (a : Same H H') : Kp S H H' := fun b o _ q => a b o q
theorem Kp.one {x b : Addr} {H H' : Hp} {o : HO} (a : Kp [x] H H') (n : b ≠ x) (q : H b = some o) : H' b = some o := a b o (by simp [n]) q
theorem same_upd {H : Hp} {p : Addr} {o : HO} (h : H p = none) : Same H (upd H p o) := fun c u z => by rw [upd_ne (ne_of_none z h)]; exact z
theorem kp_upd {H : Hp} {p : Addr} {o : HO} : Kp [p] H (upd H p o) := fun c u n z => by rw [upd_ne (by simpa using n)]; exact z
/-- nothing new is taken for something old -/
theorem Kp.free {H H' : Hp} {S : List Addr} (a : Kp S H H') {p : Addr} (n : p ∉ S) (h : H' p = none) : H p = none := by
  cases q : H p with
  | none => rfl
  | some o => rw [a p o n q] at h; cases h

section
variable {X : Cx}
theorem PE.imp {e : Expr} {t t' : TE} (h : PE X e t) (i : ∀ σ H Q, t' σ H Q → t σ H Q) : PE X e t' := fun pins s σ H Q I w => h pins s σ H Q I (i σ H Q w)
theorem PI.imp {tg e : Expr} {t t' : TI} (h : PI X tg e t) (i : ∀ σ H Q, t' σ H Q → t σ H Q) : PI X tg e t' := fun pins s σ H Q I w => h pins s σ H Q I (i σ H Q w)
theorem CallR.imp {f : Value} {r r' : List V → Hp → VK → Prop} (h : CallR X f r) (i : ∀ xs H Q, r' xs H Q → r xs H Q) : CallR X f r' := fun pins s σ H xs us Q I rx w => h pins s σ H xs us Q I rx (i xs H Q w)
/-! ### names -/
def gt : St → Nat → Option V
  | [], _ => none
  | o :: _, 0 => o
  | _ :: r, n + 1 => gt r n
theorem gt_some : ∀ {σ : St} {i : Nat} {v : V}, gt σ i = some v → σ[i]? = some (some v)
  | [], _, _, h => by simp [gt] at h
  | o :: _, 0, _, h => by simp [gt] at h; simp [h]
  | _ :: r, n + 1, _, h => by simp [gt] at h; simpa using gt_some h
def mVar (i : Nat) : TE := fun σ H Q => match gt σ i with
  | some v => Q v H
  | none => False
theorem mVar_imp {i : Nat} {σ : St} {H : Hp} {Q : VK} (h : mVar i σ H Q) : tVar i σ H Q := by
  unfold mVar at h
  cases e : gt σ i with
  | none => rw [e] at h; exact h.elim
  | some v => rw [e] at h; exact ⟨v, gt_some e, h⟩
theorem mv (i : Nat) {x : Str} {pos : Pos} (hN : X.N[i]? = some x := by rfl) (hv : Vis X.env.scope x := by first | exact Or.inl rfl | exact Or.inr (Or.inl rfl) | exact Or.inr (Or.inr rfl)) (hd : (x == ("__debug__" : Str)) = false := by decide)
    (hcd : (x == ("__classdict__" : Str)) = false := by decide) : PE X (.Name x pos) (mVar i) := (pe_var hN hv hd hcd).imp fun _ _ _ => mVar_imp

/-! ### the places where the heap is asked -/
@[irreducible] def hNewL (xs : List V) (H : Hp) (Q : VK) : Prop := xs.length ≤ sizeLine ∧ ∀ p, H p = none → Q (.ref p) (upd H p (.lst xs))
@[irreducible] def hNewT (xs : List V) (H : Hp) (Q : VK) : Prop := xs.length ≤ sizeLine ∧ ∀ p, H p = none → Q (.ref p) (upd H p (.tup xs))
@[irreducible] def hCat (a b : Addr) (H : Hp) (Q : VK) : Prop := ∃ xs ys, H a = some (.lst xs) ∧ H b = some (.lst ys) ∧ xs.length + ys.length ≤ sizeLine ∧ ∀ p, H p = none → Q (.ref p) (upd H p (.lst (xs ++ ys)))
@[irreducible] def hRep (a : Addr) (k : Int) (H : Hp) (Q : VK) : Prop := ∃ xs, H a = some (.lst xs) ∧ -(2 ^ 63) ≤ k ∧ k < 2 ^ 63 ∧ xs.length * k.toNat ≤ sizeLine ∧ ∀ p, H p = none → Q (.ref p) (upd H p (.lst (List.replicate k.toNat xs).flatten))
@[irreducible] def hIx (K : PySem.W.Frag) (a : Addr) (i : Int) (H : Hp) (Q : VK) : Prop := ∃ xs v, (SqL K H a xs ∨ SqT K H a xs) ∧ atI xs i = some v ∧ Q v H
@[irreducible] def hSl (K : PySem.W.Frag) (a : Addr) (lo hi : Option Int) (H : Hp) (Q : VK) : Prop := ∃ xs, SqL K H a xs ∧ ∀ p, H p = none → Q (.ref p) (upd H p (.lst (cutV xs lo hi)))
@[irreducible] def hApp (a : Addr) (y : V) (H : Hp) (Q : VK) : Prop := ∃ xs, H a = some (.lst xs) ∧ xs.length < sizeLine ∧ Q .non (upd H a (.lst (xs ++ [y])))
@[irreducible] def hClr (a : Addr) (H : Hp) (Q : VK) : Prop := ∃ xs, H a = some (.lst xs) ∧ Q .non (upd H a (.lst []))
@[irreducible] def hEqL (K : PySem.W.Frag) (a b : Addr) (H : Hp) (Q : Bool → Hp → Prop) : Prop := ∃ ns ms : List Int, SqL K H a (ns.map V.int) ∧ SqL K H b (ms.map V.int) ∧ Q (decide (ns = ms)) H
@[irreducible] def hSum (K : PySem.W.Frag) (a : Addr) (H : Hp) (Q : VK) : Prop := ∃ ns : List Int, SqL K H a (ns.map V.int) ∧ Q (.int ns.sum) H
@[irreducible] def hMax (K : PySem.W.Frag) (a : Addr) (H : Hp) (Q : VK) : Prop := ∃ ns : List Int, SqL K H a (ns.map V.int) ∧ ns ≠ [] ∧ ∀ M, M ∈ ns → (∀ a, a ∈ ns → a ≤ M) → Q (.int M) H
@[irreducible] def hMin (K : PySem.W.Frag) (a : Addr) (H : Hp) (Q : VK) : Prop := ∃ ns : List Int, SqL K H a (ns.map V.int) ∧ ns ≠ [] ∧ ∀ M, M ∈ ns → (∀ a, a ∈ ns → M ≤ a) → Q (.int M) H
@[irreducible] def hSorted (K : PySem.W.Frag) (a : Addr) (H : Hp) (Q : VK) : Prop := ∃ ns : List Int, SqL K H a (ns.map V.int) ∧ ns.length ≤ 1000 ∧ ∀ (l : Addr) (ns' : List Int), H l = none → ns'.Perm ns → ns'.Pairwise (· ≤ ·) → Q (.ref l) (upd H l (.lst (ns'.map V.int)))
@[irreducible] def hLen (K : PySem.W.Frag) (a : Addr) (H : Hp) (Q : VK) : Prop := ∃ ys, (SqL K H a ys ∨ SqT K H a ys) ∧ Q (.int ys.length) H
@[irreducible] def hCopy (K : PySem.W.Frag) (a : Addr) (H : Hp) (Q : VK) : Prop := ∃ ys, (SqL K H a ys ∨ SqT K H a ys) ∧ ∀ l, H l = none → Q (.ref l) (upd H l (.lst ys))
@[irreducible] def hIsi (K : PySem.W.Frag) (x : V) (c : String) (H : Hp) (Q : VK) : Prop := ∃ t, TyOf K H x (.type t) ∧ t ∈ ["NoneType", "bool", "int", "str", "list", "tuple", "dict"] ∧ c ∈ ["bool", "int", "str", "list", "tuple", "dict"] ∧ Q (.bl (isTy t c)) H

/-! ### how these are shown -/
section
variable {H : Hp} {Q : VK} {K : PySem.W.Frag} {a b : Addr}
theorem i_newL {xs : List V} (h : xs.length ≤ sizeLine) (q : ∀ p H', H p = none → Same H H' → H' p = some (.lst xs) → Q (.ref p) H') : hNewL xs H Q := by
  unfold hNewL; exact ⟨h, fun p hp => q p _ hp (same_upd hp) upd_same⟩
theorem i_newT {xs : List V} (h : xs.length ≤ sizeLine) (q : ∀ p H', H p = none → Same H H' → H' p = some (.tup xs) → Q (.ref p) H') : hNewT xs H Q := by
  unfold hNewT; exact ⟨h, fun p hp => q p _ hp (same_upd hp) upd_same⟩
theorem i_cat {xs ys : List V} (h1 : H a = some (.lst xs)) (h2 : H b = some (.lst ys)) (hl : xs.length + ys.length ≤ sizeLine) (q : ∀ p H', H p = none → Same H H' → H' p = some (.lst (xs ++ ys)) → Q (.ref p) H') : hCat a b H Q := by
  unfold hCat; exact ⟨xs, ys, h1, h2, hl, fun p hp => q p _ hp (same_upd hp) upd_same⟩
theorem rep_int (z : Int) (k : Nat) : (List.replicate k [V.int z]).flatten = (List.replicate k z).map V.int := by
  induction k with
  | zero => rfl
  | succ k ih => rw [List.replicate_succ, List.flatten_cons, ih, List.replicate_succ]; rfl
/-- [z] * k -/
theorem i_rep1 {z : Int} {k : Int} (h1 : H a = some (.lst [.int z])) (h0 : -(2 ^ 63) ≤ k) (hl : k ≤ 1000) (q : ∀ p H', H p = none → Same H H' → H' p = some (.lst ((List.replicate k.toNat z).map V.int)) → Q (.ref p) H') : hRep a k H Q := by
  unfold hRep
  refine ⟨_, h1, h0, by omega, ?_, fun p hp => q p _ hp (same_upd hp) ?_⟩
  · rw [sizeLine_eq]; simp only [List.length_cons, List.length_nil]; omega
  · rw [rep_int]; exact upd_same
theorem i_ix {xs : List V} {i : Int} {v : V} (h : SqL K H a xs ∨ SqT K H a xs) (e : atI xs i = some v) (q : Q v H) : hIx K a i H Q := by unfold hIx; exact ⟨xs, v, h, e, q⟩
theorem i_ixN {xs : List V} {i : Int} {v : V} (k : Nat) (h : H a = some (.lst xs)) (hi : i = k) (e : xs[k]? = some v) (q : Q v H) : hIx K a i H Q := by
  subst hi; exact i_ix (.inl (SqL.of h)) (atI_nat e) q
theorem i_ixT {xs : List V} {i : Int} {v : V} (k : Nat) (h : H a = some (.tup xs)) (hi : i = k) (e : xs[k]? = some v) (q : Q v H) : hIx K a i H Q := by
  subst hi; exact i_ix (.inr (SqT.of h)) (atI_nat e) q
theorem i_ixI {ns : List Int} {i : Int} (h : H a = some (.lst (ns.map V.int))) (h0 : 0 ≤ i) (h1 : i < ns.length) (q : Q (.int (ns.getD i.toNat 0)) H) : hIx K a i H Q := by
  have e : i = ((i.toNat : Nat) : Int) := by omega
  refine i_ixN i.toNat h e (v := .int (ns.getD i.toNat 0)) ?_ q
  have hk : i.toNat < ns.length := by omega
  rw [List.getElem?_map, List.getElem?_eq_getElem hk, List.getD_eq_getElem?_getD, List.getElem?_eq_getElem hk]; rfl
theorem i_len {ys : List V} (h : SqL K H a ys ∨ SqT K H a ys) (q : Q (.int ys.length) H) : hLen K a H Q := by unfold hLen; exact ⟨ys, h, q⟩
theorem i_lenI {ns : List Int} (h : H a = some (.lst (ns.map V.int))) (q : Q (.int ns.length) H) : hLen K a H Q := i_len (.inl (SqL.of h)) (by rw [List.length_map]; exact q)
theorem i_lenL {xs : List V} (h : H a = some (.lst xs)) (q : Q (.int xs.length) H) : hLen K a H Q := i_len (.inl (SqL.of h)) q
theorem i_copy {ys : List V} (h : H a = some (.lst ys)) (q : ∀ p H', H p = none → Same H H' → H' p = some (.lst ys) → Q (.ref p) H') : hCopy K a H Q := by
  unfold hCopy; exact ⟨ys, .inl (SqL.of h), fun p hp => q p _ hp (same_upd hp) upd_same⟩
theorem i_sum {ns : List Int} (h : SqL K H a (ns.map V.int)) (q : Q (.int ns.sum) H) : hSum K a H Q := by unfold hSum; exact ⟨ns, h, q⟩
theorem i_max {ns : List Int} (h : SqL K H a (ns.map V.int)) (hn : ns ≠ []) (q : ∀ M, M ∈ ns → (∀ a, a ∈ ns → a ≤ M) → Q (.int M) H) : hMax K a H Q := by unfold hMax; exact ⟨ns, h, hn, q⟩
theorem i_min {ns : List Int} (h : SqL K H a (ns.map V.int)) (hn : ns ≠ []) (q : ∀ M, M ∈ ns → (∀ a, a ∈ ns → M ≤ a) → Q (.int M) H) : hMin K a H Q := by unfold hMin; exact ⟨ns, h, hn, q⟩
theorem i_sorted {ns : List Int} (h : SqL K H a (ns.map V.int)) (hn : ns.length ≤ 1000) (q : ∀ p H' (ns' : List Int), ns'.Perm ns → H p = none → Same H H' → H' p = some (.lst (ns'.map V.int)) → Q (.ref p) H') : hSorted K a H Q := by
  unfold hSorted; exact ⟨ns, h, hn, fun l ns' hl hp _ => q l _ ns' hp hl (same_upd hl) upd_same⟩
theorem i_eqL {Q : Bool → Hp → Prop} {ns ms : List Int} (h1 : SqL K H a (ns.map V.int)) (h2 : SqL K H b (ms.map V.int)) (q : Q (decide (ns = ms)) H) : hEqL K a b H Q := by unfold hEqL; exact ⟨ns, ms, h1, h2, q⟩
theorem i_app {xs : List V} {y : V} (h : H a = some (.lst xs)) (hl : xs.length < sizeLine) (q : ∀ H', Kp [a] H H' → H' a = some (.lst (xs ++ [y])) → Q .non H') : hApp a y H Q := by
  unfold hApp; exact ⟨xs, h, hl, q _ kp_upd upd_same⟩
theorem i_appI {ns : List Int} {z : Int} (h : H a = some (.lst (ns.map V.int))) (hl : ns.length < 100000) (q : ∀ H', Kp [a] H H' → H' a = some (.lst ((ns ++ [z]).map V.int)) → Q .non H') : hApp a (.int z) H Q :=
  i_app h (by rw [List.length_map, sizeLine_eq]; omega) fun H' k e => q H' k (by rw [e, List.map_append]; rfl)
theorem i_sl {xs : List V} {lo hi : Option Int} (h : SqL K H a xs) (q : ∀ p H', H p = none → Same H H' → H' p = some (.lst (cutV xs lo hi)) → Q (.ref p) H') : hSl K a lo hi H Q := by
  unfold hSl; exact ⟨xs, h, fun p hp => q p _ hp (same_upd hp) upd_same⟩
end

/-! ### operations -/
def vAdd : R2 := fun x y H Q => match x, y with
  | .int i, .int j => Q (.int (i + j)) H
  | .ref a, .ref b => hCat a b H Q
  | .str i, .str j => i.length + j.length ≤ sizeLine ∧ Q (.str (i ++ j)) H
  | _, _ => False
theorem opAdd : OpR X (binaryOp .Add) vAdd := by
  intro pins s σ H x y v u Q I rx ry h
  cases x <;> cases y <;> first
    | exact (show False from h).elim
    | exact op_add pins s σ H _ _ v u Q I rx ry ⟨_, _, rfl, rfl, h⟩
    | (obtain ⟨h1, h2⟩ := (show _ ∧ _ from h); exact op_add_str pins s σ H _ _ v u Q I rx ry ⟨_, _, rfl, rfl, h1, h2⟩)
    | (have h := (show hCat _ _ H Q from h); unfold hCat at h; obtain ⟨xs, ys, h1, h2, h3, h4⟩ := h; exact op_cat pins s σ H _ _ v u Q I rx ry ⟨_, _, xs, ys, rfl, rfl, h1, h2, h3, h4⟩)
def vSub : R2 := fun x y H Q => match x, y with
  | .int i, .int j => Q (.int (i - j)) H
  | _, _ => False
theorem opSub : OpR X (binaryOp .Sub) vSub := by
  intro pins s σ H x y v u Q I rx ry h
  cases x <;> cases y <;> first
    | exact (show False from h).elim
    | exact op_sub pins s σ H _ _ v u Q I rx ry ⟨_, _, rfl, rfl, h⟩
def vMul : R2 := fun x y H Q => match x, y with
  | .int i, .int j => CMul i j ∧ Q (.int (i * j)) H
  | .ref a, .int k => hRep a k H Q
  | _, _ => False
theorem opMul : OpR X (binaryOp .Mult) vMul := by
  intro pins s σ H x y v u Q I rx ry h
  cases x <;> cases y <;> first
    | exact (show False from h).elim
    | (obtain ⟨h1, h2⟩ := (show CMul _ _ ∧ _ from h); exact op_mul pins s σ H _ _ v u Q I rx ry ⟨_, _, rfl, rfl, h1, h2⟩)
    | (have h := (show hRep _ _ H Q from h); unfold hRep at h; obtain ⟨xs, h1, h2, h3, h4, h5⟩ := h; exact op_rep pins s σ H _ _ v u Q I rx ry ⟨_, _, xs, rfl, rfl, h1, h2, h3, h4, h5⟩)
def vMod : R2 := fun x y H Q => match x, y with
  | .int i, .int j => 0 < j ∧ Q (.int (i % j)) H
  | _, _ => False
theorem opMod : OpR X (binaryOp .Mod) vMod := by
  intro pins s σ H x y v u Q I rx ry h
  cases x <;> cases y <;> first
    | exact (show False from h).elim
    | (obtain ⟨h1, h2⟩ := (show (0 : Int) < _ ∧ _ from h); exact op_mod pins s σ H _ _ v u Q I rx ry ⟨_, _, rfl, rfl, h1, h2⟩)
def vFdiv : R2 := fun x y H Q => match x, y with
  | .int i, .int j => (0 < j ∧ j < 2 ^ 200) ∧ Q (.int (i / j)) H
  | _, _ => False
theorem opFdiv : OpR X (binaryOp .FloorDiv) vFdiv := by
  intro pins s σ H x y v u Q I rx ry h
  cases x <;> cases y <;> first
    | exact (show False from h).elim
    | (obtain ⟨h1, h2⟩ := (show ((0 : Int) < _ ∧ _) ∧ _ from h); exact op_fdivL pins s σ H _ _ v u Q I rx ry ⟨_, _, rfl, rfl, h1, h2⟩)
def vPow : R2 := fun x y H Q => match x, y with
  | .int i, .int j => CPow i j ∧ Q (.int (i ^ j.toNat)) H
  | _, _ => False
theorem opPow : OpR X (binaryOp .Pow) vPow := by
  intro pins s σ H x y v u Q I rx ry h
  cases x <;> cases y <;> first
    | exact (show False from h).elim
    | (obtain ⟨h1, h2⟩ := (show CPow _ _ ∧ _ from h); exact op_pow pins s σ H _ _ v u Q I rx ry ⟨_, _, rfl, rfl, h1, h2⟩)
def vLt (p : Int → Int → Bool) : R2 := fun x y H Q => match x, y with
  | .int i, .int j => Q (.bl (p i j)) H
  | _, _ => False
theorem opCmp {op : CmpOp} {p : Int → Int → Bool} (h0 : OpR X (compareOp op) (rI0 fun i j => .bl (p i j))) : OpR X (compareOp op) (vLt p) := by
  intro pins s σ H x y v u Q I rx ry h
  cases x <;> cases y <;> first
    | exact (show False from h).elim
    | exact h0 pins s σ H _ _ v u Q I rx ry ⟨_, _, rfl, rfl, h⟩
theorem opLt : OpR X (compareOp .Lt) (vLt fun i j => decide (i < j)) := opCmp op_lt
theorem opLe : OpR X (compareOp .LtE) (vLt fun i j => decide (i ≤ j)) := opCmp op_le
theorem opGt : OpR X (compareOp .Gt) (vLt fun i j => decide (j < i)) := opCmp op_gt
theorem opGe : OpR X (compareOp .GtE) (vLt fun i j => decide (j ≤ i)) := opCmp op_ge
theorem dI {i j : Int} : decide (V.int i = V.int j) = decide (i = j) := by simp
theorem dS {i j : Str} : decide (V.str i = V.str j) = decide (i = j) := by simp
theorem dB {i j : Bool} : decide (V.bl i = V.bl j) = decide (i = j) := by simp
def vIsN (n : Bool → Bool) : R2 := fun x y H Q => match y with
  | .non => match x with
    | .non => Q (.bl (n true)) H
    | .int _ => Q (.bl (n false)) H
    | .ref _ => Q (.bl (n false)) H
    | .bl _ => Q (.bl (n false)) H
    | .str _ => Q (.bl (n false)) H
    | _ => False
  | _ => False
theorem opIs : OpR X (compareOp .Is) (vIsN id) := by
  intro pins s σ H x y v u Q I rx ry h
  cases y <;> first
    | exact (show False from h).elim
    | (cases x <;> first
      | exact (show False from h).elim
      | exact op_isN pins s σ H _ _ v u Q I rx ry ⟨rfl, h⟩)
theorem opIsNot : OpR X (compareOp .IsNot) (vIsN not) := by
  intro pins s σ H x y v u Q I rx ry h
  cases y <;> first
    | exact (show False from h).elim
    | (cases x <;> first
      | exact (show False from h).elim
      | exact op_notN pins s σ H _ _ v u Q I rx ry ⟨rfl, h⟩)
def vNeg : V → Hp → VK → Prop := fun x H Q => match x with
  | .int i => Q (.int (-i)) H
  | _ => False
theorem unNeg : UnR X (unaryOp .USub) vNeg := by
  intro pins s σ H x v Q I rx h
  cases x <;> first
    | exact (show False from h).elim
    | exact un_neg pins s σ H _ v Q I rx ⟨_, rfl, h⟩
def vIx (K : PySem.W.Frag) : R2 := fun x y H Q => match x, y with
  | .ref a, .int i => hIx K a i H Q
  | _, _ => False
theorem ixM : IxR X (vIx X.K) := by
  intro value slice pins s σ H x y v u Q I rx ry h
  cases x <;> cases y <;> first
    | exact (show False from h).elim
    | (have h := (show hIx _ _ _ H Q from h)
       unfold hIx at h
       obtain ⟨xs, w, h1 | h1, h2, h3⟩ := h
       · exact ix_list value slice pins s σ H _ _ v u Q I rx ry ⟨_, xs, _, w, rfl, rfl, h1, h2, h3⟩
       · exact ix_tup value slice pins s σ H _ _ v u Q I rx ry ⟨_, xs, _, w, rfl, rfl, h1, h2, h3⟩)
def vSl (K : PySem.W.Frag) : V → Option Int → Option Int → Hp → VK → Prop := fun x lo hi H Q => match x with
  | .ref a => hSl K a lo hi H Q
  | _ => False
theorem slM : SlR X (vSl X.K) := by
  intro pins s σ H x v vl vu lo hi sl Q I rx hs pl pu h
  cases x <;> first
    | exact (show False from h).elim
    | (have h := (show hSl _ _ _ _ H Q from h)
       unfold hSl at h
       obtain ⟨xs, h1, h2⟩ := h
       exact sl_list pins s σ H _ v vl vu lo hi sl Q I rx hs pl pu ⟨_, xs, rfl, h1, h2⟩)
def mPart (t : TE) : TO := fun σ H Q => t σ H fun x H1 => match x with
  | .int i => Q (some i) H1
  | _ => False
theorem po_m {e : Expr} {te : TE} (h : PE X e te) : PO X (some e) (mPart te) := by
  intro pins s σ H Q I hw
  rw [evalPart_some]
  refine thn (h pins s σ H _ I hw) fun u s1 ⟨x, H1, I1, r1, q1⟩ => ?_
  cases x <;> first
    | exact (show False from q1).elim
    | (obtain ⟨t, rfl⟩ := r1; exact ⟨some _, H1, I1, .int _ t, q1⟩)

/-! ### truth -/
@[irreducible] def hTru (K : PySem.W.Frag) (a : Addr) (H : Hp) (Q : Bool → Hp → Prop) : Prop := ∃ xs, (SqL K H a xs ∨ SqT K H a xs) ∧ Q (!xs.isEmpty) H
def vTru (K : PySem.W.Frag) (x : V) (H : Hp) (Q : Bool → Hp → Prop) : Prop := match x with
  | .bl b => Q b H
  | .int i => Q (i != 0) H
  | .non => Q false H
  | .ref a => hTru K a H Q
  | _ => False
theorem vTru_imp {K : PySem.W.Frag} {x : V} {H : Hp} {Q : Bool → Hp → Prop} (h : vTru K x H Q) : ∃ k, TruV K x H k ∧ Q k H := by
  cases x <;> first
    | exact (show False from h).elim
    | exact ⟨_, rfl, h⟩
    | (have h := (show hTru _ _ H Q from h)
       unfold hTru at h
       obtain ⟨xs, h1 | h1, h2⟩ := h
       · exact ⟨_, .inl ⟨xs, h1, rfl⟩, h2⟩
       · exact ⟨_, .inr (.inl ⟨xs, h1, rfl⟩), h2⟩)
theorem tru_m {pins : List (Addr × Obj)} {s : Shared} {σ : St} {H : Hp} {x : V} {v : Value} {Q : Bool → Hp → Prop} (I : Inv X pins σ H s) (r : RelV x v) (h : vTru X.K x H Q) : wpAny (model X.prog X.w) X.A (truthy v) (TP X pins σ Q) X.xe s :=
  tru_ok pins s σ H x v Q I r (vTru_imp h)
/-- a value as a test -/
def mT (K : PySem.W.Frag) (t : TE) : TT := fun σ H Q => t σ H fun x H' => vTru K x H' Q
theorem pt_m {a : Expr} {ta : TE} (ha : PE X a ta) (he : ∀ whole, isTrue a X.env whole = (do let v ← whole; standAt a.pos; holding [v] (truthy v)) := by intro _; rfl) : PT X a (mT X.K ta) := by
  intro pins s σ H Q I h
  exact isTrue_plain (thn (ha pins s σ H _ I h) fun v s1 ⟨x, H1, I1, r1, q1⟩ => tru_m I1 r1 q1) (he _)
def mB (t : TE) : TT := fun σ H Q => t σ H fun x H' => match x with
  | .bl k => Q k H'
  | _ => False
section
variable {a b c : Expr} {ta tb tc : TE} {pos : Pos} {tA tB' : TT} {rest : List Expr}
theorem pt_cm {op : CmpOp} {r : R2} (ho : OpR X (compareOp op) r) (ha : PE X a ta) (hb : PE X b tb) (hm : behindInMarks op b = false) : PT X (.Compare a [op] [b] pos) (mB (tOp r ta tb)) := by
  intro pins s σ H Q I h
  refine wpAny_isTrue_Compare1 (thn (ha pins s σ H _ I h) fun v s1 ⟨x, H1, I1, r1, q1⟩ => thn (hb pins s1 σ H1 _ I1 q1) fun u s2 ⟨y, H2, I2, r2, q2⟩ =>
    thn (ho pins s2 σ H2 x y v u _ I2 r1 r2 q2) fun c s3 ⟨z, H3, I3, r3, q3⟩ => ?_) hm
  cases z <;> first
    | exact (show False from q3).elim
    | (cases r3; exact wpAny_truthy_bool ⟨H3, I3, q3⟩)
def mChain (r r' : R2) (ta tb tc : TE) : TE := fun σ H Q => ta σ H fun x H1 => tb σ H1 fun y H2 => r x y H2 fun z H3 => match z with
  | .bl k => (k = true → tc σ H3 fun w' H4 => r' y w' H4 Q) ∧ (k = false → Q (.bl false) H3)
  | _ => False
theorem pe_chm {op op' : CmpOp} {r r' : R2} (ho : OpR X (compareOp op) r) (ho' : OpR X (compareOp op') r') (ha : PE X a ta) (hb : PE X b tb) (hc : PE X c tc)
    (hm : lastMarks [op, op'] [b, c] = false := by with_unfolding_all rfl) : PE X (.Compare a [op, op'] [b, c] pos) (mChain r r' ta tb tc) := by
  intro pins s σ H Q I h
  refine Compare_chain (thn (ha pins s σ H _ I h) fun v s1 ⟨x, H1, I1, r1, q1⟩ => chain_link (thn (hb pins s1 σ H1 _ I1 q1) fun u s2 ⟨y, H2, I2, r2, q2⟩ =>
    thn (ho pins s2 σ H2 x y v u _ I2 r1 r2 q2) fun d s3 ⟨z, H3, I3, r3, q3⟩ => ?_)) hm
  cases z <;> first
    | exact (show False from q3).elim
    | skip
  rename_i k
  cases r3
  refine wpAny_truthy_bool ?_
  cases k with
  | false => exact ite_ff ⟨.bl false, H3, I3, rfl, q3.2 rfl⟩
  | true => exact ite_tt (chain_last (thn (hc pins s3 σ H3 _ I3 (q3.1 rfl)) fun w' s4 ⟨z', H4, I4, r4, q4⟩ => ho' pins s4 σ H4 y z' u w' Q I4 r2 r4 q4))
def mAnd (t u : TT) : TT := fun σ H Q => t σ H fun c H1 => (c = true → u σ H1 Q) ∧ (c = false → Q false H1)
def mOr (t u : TT) : TT := fun σ H Q => t σ H fun c H1 => (c = true → Q true H1) ∧ (c = false → u σ H1 Q)
theorem pw_am (ha : PT X a tA) (hb : PW X (.BoolOp .And (b :: rest) pos) tB') : PW X (.BoolOp .And (a :: b :: rest) pos) (mAnd tA tB') := by
  intro wh pins s σ H Q I h
  refine isTrue_and (thn (ha pins s σ H _ I h) fun c s1 ⟨H1, I1, q1⟩ => ?_)
  cases c with
  | true => exact hb wh pins s1 σ H1 Q I1 (q1.1 rfl)
  | false => exact ⟨H1, I1, q1.2 rfl⟩
theorem pw_om (ha : PT X a tA) (hb : PW X (.BoolOp .Or (b :: rest) pos) tB') : PW X (.BoolOp .Or (a :: b :: rest) pos) (mOr tA tB') := by
  intro wh pins s σ H Q I h
  refine isTrue_or (thn (ha pins s σ H _ I h) fun c s1 ⟨H1, I1, q1⟩ => ?_)
  cases c with
  | true => exact ⟨H1, I1, q1.1 rfl⟩
  | false => exact hb wh pins s1 σ H1 Q I1 (q1.2 rfl)
def mAndV (K : PySem.W.Frag) (ta tb : TE) : TE := fun σ H Q => ta σ H fun x H1 => vTru K x H1 fun c H2 => (c = true → tb σ H2 Q) ∧ (c = false → Q x H2)
def mNotV (K : PySem.W.Frag) (ta : TE) : TE := fun σ H Q => ta σ H fun x H1 => vTru K x H1 fun c H2 => Q (.bl (!c)) H2
theorem pe_am (ha : PE X a ta) (hb : PE X (.BoolOp .And (b :: rest) pos) tb) : PE X (.BoolOp .And (a :: b :: rest) pos) (mAndV X.K ta tb) := by
  intro pins s σ H Q I h
  refine BoolOp_and (thn (ha pins s σ H _ I h) fun v s1 ⟨x, H1, I1, r1, q1⟩ => ?_)
  refine thn (tru_m I1 r1 q1) fun c s2 ⟨H2, I2, q2⟩ => ?_
  cases c with
  | true => exact hb pins s2 σ H2 Q I2 (q2.1 rfl)
  | false => exact ⟨x, H2, I2, r1, q2.2 rfl⟩
theorem pe_nm (ha : PE X a ta) : PE X (.UnaryOp .Not a pos) (mNotV X.K ta) := by
  intro pins s σ H Q I h
  refine UnaryOp_ (thn (ha pins s σ H _ I h) fun v s1 ⟨x, H1, I1, r1, q1⟩ => ?_)
  exact not_of (thn (tru_m I1 r1 q1) fun c s2 ⟨H2, I2, q2⟩ => ⟨.bl (!c), H2, I2, rfl, q2⟩)
def mIf (t : TT) (ta tb : TE) : TE := fun σ H Q => t σ H fun c H1 => (c = true → ta σ H1 Q) ∧ (c = false → tb σ H1 Q)
theorem pe_ifm {c : Expr} (hc : PT X c tA) (ha : PE X a ta) (hb : PE X b tb) : PE X (.IfExp c a b pos) (mIf tA ta tb) := by
  intro pins s σ H Q I h
  refine wpAny_IfExp (thn (hc pins s σ H _ I h) fun d s1 ⟨H1, I1, q1⟩ => ?_)
  cases d with
  | true => exact ha pins s1 σ H1 Q I1 (q1.1 rfl)
  | false => exact hb pins s1 σ H1 Q I1 (q1.2 rfl)
end

/-! ### statements -/
section
variable {st : Stmt} {rest : List Stmt} {t u : TS} {e : Expr} {te : TE} {pos : Pos}
def mIfS (c : TT) (t u : TS) : TS := fun D σ H => c σ H fun b H1 => (b = true → t D σ H1) ∧ (b = false → u D σ H1)
theorem ps_ifm {c : Expr} {a b : List Stmt} {tc : TT} (hc : PT X c tc) (ha : PSs X a t) (hb : PSs X b u) : PS X (.If c a b pos) (mIfS tc t u) := by
  intro pins s σ H D I h
  refine wpAny_If (thn (hc pins s σ H _ I h) fun d s1 ⟨H1, I1, q1⟩ => ?_)
  cases d with
  | true => exact ha pins s1 σ H1 D I1 (q1.1 rfl)
  | false => exact hb pins s1 σ H1 D I1 (q1.2 rfl)
/-- a block with a stop behind its first statement -/
def mMid (t u : TS) : TS := fun D σ H => ∃ M : St → Hp → Prop, t { D with nx := M } σ H ∧ ∀ σ' H', M σ' H' → u D σ' H'
theorem pss_mid (h1 : PS X st t) (h2 : PSs X rest u) : PSs X (st :: rest) (mMid t u) := by
  intro pins s σ H D I h
  obtain ⟨M, h, hM⟩ := h
  refine wpAny_execs_cons (thn (h1 pins s σ H { D with nx := M } I h) fun f s1 q => ?_)
  cases f with
  | next =>
    obtain ⟨σ', H', I', q⟩ := q
    exact h2 pins s1 σ' H' D I' (hM _ _ q)
  | ret v => exact q
  | brk => exact q
  | cont => exact q
def mWhile (c : TT) (tb : TS) : TS := fun D σ H => ∃ W : Nat → St → Hp → Prop, (∃ m, W m σ H) ∧ ∀ m σ H, W m σ H →
  c σ H fun b H1 => (b = true → tb { D with nx := fun σ' H' => ∃ m', m' < m ∧ W m' σ' H', ct := fun σ' H' => ∃ m', m' < m ∧ W m' σ' H', bk := D.nx } σ H1) ∧ (b = false → D.nx σ H1)
theorem ps_whm {c : Expr} {body : List Stmt} {tc : TT} {tb : TS} (hp : PassesOwn (model X.prog X.w) X.A X.env X.xe) (hc : PT X c tc) (hb : PSs X body tb) : PS X (.While c body [] pos) (mWhile tc tb) := by
  intro pins s σ H D I h
  obtain ⟨W, ⟨m0, w0⟩, turn⟩ := h
  refine wpAny_While (codeAny_whileLoop (fun n s' => ∃ σ' H', Inv X pins σ' H' s' ∧ W n σ' H') ?_ m0 ⟨σ, H, I, w0⟩)
  rintro n s1 ⟨σ1, H1, I1, w1⟩
  refine wpAny_passesOwn hp (thn (hc pins s1 σ1 H1 _ I1 (turn n σ1 H1 w1)) fun b s2 ⟨H2, I2, q2⟩ => ?_)
  cases b with
  | true =>
    rw [if_pos rfl]
    refine wpAny_passesOwn hp (thn (hb pins s2 σ1 H2 _ I2 (q2.1 rfl)) fun f s3 q3 => ?_)
    cases f with
    | next =>
      obtain ⟨σ3, H3, I3, m', hm, w3⟩ := q3
      exact ⟨m', hm, σ3, H3, I3, w3⟩
    | cont =>
      obtain ⟨σ3, H3, I3, m', hm, w3⟩ := q3
      exact ⟨m', hm, σ3, H3, I3, w3⟩
    | brk => exact q3
    | ret v => exact q3
  | false =>
    rw [if_neg Bool.false_ne_true]
    exact wpAny_execs_nil ⟨σ1, H2, I2, q2.2 rfl⟩
/-- a while by its invariant: W, with a measure -/
theorem while_m {c : TT} {tb : TS} {D : Ends} {σ : St} {H : Hp} (W : Nat → St → Hp → Prop) (m : Nat) (h0 : W m σ H)
    (hs : ∀ m σ H, W m σ H → c σ H fun b H1 => (b = true → tb { D with nx := fun σ' H' => ∃ m', m' < m ∧ W m' σ' H', ct := fun σ' H' => ∃ m', m' < m ∧ W m' σ' H', bk := D.nx } σ H1) ∧ (b = false → D.nx σ H1)) : mWhile c tb D σ H := ⟨W, ⟨m, h0⟩, hs⟩
end

/-! ### displays, methods, builtins -/
def mLst (t : TA) : TE := fun σ H Q => t σ H fun xs H1 => hNewL xs H1 Q
def mTup (t : TA) : TE := fun σ H Q => t σ H fun xs H1 => hNewT xs H1 Q
theorem pe_lm {es : List Expr} {t : TA} {pos : Pos} (h : PA X es t) : PE X (.List es pos) (mLst t) := by
  intro pins s σ H Q I w
  refine pe_lst (t := fun σ H Q => t σ H Q) h pins s σ H Q I ?_
  have w' : t σ H fun xs H1 => hNewL xs H1 Q := w
  unfold hNewL at w'
  exact w'
theorem pe_tm {x1 : Nat} {es : List Expr} {t : TA} {pos : Pos} (h : PA X es t) : PE X (.Tuple es x1 pos) (mTup t) := by
  intro pins s σ H Q I w
  refine pe_tup (t := fun σ H Q => t σ H Q) h pins s σ H Q I ?_
  have w' : t σ H fun xs H1 => hNewT xs H1 Q := w
  unfold hNewT at w'
  exact w'
def vApp : V → List V → Hp → VK → Prop := fun x vs H Q => match x, vs with
  | .ref a, [y] => hApp a y H Q
  | _, _ => False
theorem mtApp : MtM X "list.append" vApp := by
  intro pins s σ H x vs v us Q I rx rv h
  unfold vApp at h
  split at h
  · unfold hApp at h; obtain ⟨xs, h1, h2, h3⟩ := h; exact mt_append pins s σ H _ _ v us Q I rx rv ⟨_, xs, _, rfl, rfl, h1, h2, h3⟩
  · exact h.elim
theorem i_tyL {K : PySem.W.Frag} {H : Hp} {a : Addr} {xs : List V} (h : H a = some (.lst xs)) : tyV K "list" (.ref a) H := .inl ⟨rfl, _, SqL.of h⟩
def vSum (K : PySem.W.Frag) : List V → Hp → VK → Prop := fun xs H Q => match xs with
  | [.ref a] => hSum K a H Q
  | _ => False
theorem callSum (hc : X.calm = true) : CallR X (.builtin "sum") (vSum X.K) := (call_sum hc).imp fun xs H Q h => by
  unfold vSum at h; split at h
  · unfold hSum at h; obtain ⟨ns, h1, h2⟩ := h; exact ⟨_, ns, rfl, h1, h2⟩
  · exact h.elim
def vMax (K : PySem.W.Frag) : List V → Hp → VK → Prop := fun xs H Q => match xs with
  | [.ref a] => hMax K a H Q
  | [.int i, .int j] => Q (.int (max i j)) H
  | _ => False
theorem callMax (hc : X.calm = true) : CallR X (.builtin "max") (vMax X.K) := ((call_max hc).or (call_max2 hc)).imp fun xs H Q h => by
  unfold vMax at h; split at h
  · unfold hMax at h; obtain ⟨ns, h1, h2⟩ := h; exact .inl ⟨_, ns, rfl, h1, h2⟩
  · refine .inr ⟨_, _, rfl, ?_⟩
    rename_i i j
    have e : (if j > i then j else i) = max i j := by split <;> omega
    rw [e]; exact h
  · exact h.elim
def vMin (K : PySem.W.Frag) : List V → Hp → VK → Prop := fun xs H Q => match xs with
  | [.ref a] => hMin K a H Q
  | [.int i, .int j] => Q (.int (min i j)) H
  | _ => False
theorem callMin (hc : X.calm = true) : CallR X (.builtin "min") (vMin X.K) := ((call_min hc).or (call_min2 hc)).imp fun xs H Q h => by
  unfold vMin at h; split at h
  · unfold hMin at h; obtain ⟨ns, h1, h2⟩ := h; exact .inl ⟨_, ns, rfl, h1, h2⟩
  · refine .inr ⟨_, _, rfl, ?_⟩
    rename_i i j
    have e : (if j < i then j else i) = min i j := by split <;> omega
    rw [e]; exact h
  · exact h.elim
def vLen (K : PySem.W.Frag) : List V → Hp → VK → Prop := fun xs H Q => match xs with
  | [.ref a] => hLen K a H Q
  | _ => False
theorem callLen : CallR X (.builtin "len") (vLen X.K) := call_len_seq.imp fun xs H Q h => by
  unfold vLen at h; split at h
  · unfold hLen at h; obtain ⟨ys, h1, h2⟩ := h; exact ⟨_, ys, rfl, h1, h2⟩
  · exact h.elim
def vCopy (K : PySem.W.Frag) : List V → Hp → VK → Prop := fun xs H Q => match xs with
  | [.ref a] => hCopy K a H Q
  | _ => False
theorem callList : CallR X (.type "list") (vCopy X.K) := call_list_of.imp fun xs H Q h => by
  unfold vCopy at h; split at h
  · unfold hCopy at h; obtain ⟨ys, h1, h2⟩ := h; exact ⟨_, ys, rfl, h1, h2⟩
  · exact h.elim
def vSorted (K : PySem.W.Frag) : List V → Hp → VK → Prop := fun xs H Q => match xs with
  | [.ref a] => hSorted K a H Q
  | _ => False
theorem callSorted : CallR X (.builtin "sorted") (vSorted X.K) := call_sorted.imp fun xs H Q h => by
  unfold vSorted at h; split at h
  · unfold hSorted at h; obtain ⟨ys, h1, h2⟩ := h; exact ⟨_, ys, rfl, h1, h2⟩
  · exact h.elim
def vInt : List V → Hp → VK → Prop := fun xs H Q => match xs with
  | [.int i] => Q (.int i) H
  | [.bl k] => Q (.int (if k then 1 else 0)) H
  | _ => False
theorem callInt : CallR X (.type "int") vInt := call_int1.imp fun xs H Q h => by
  unfold vInt at h; split at h
  · exact .inl ⟨_, rfl, h⟩
  · exact .inr ⟨_, rfl, h⟩
  · exact h.elim
def vIsi (K : PySem.W.Frag) : List V → Hp → VK → Prop := fun xs H Q => match xs with
  | [x, .ty c] => hIsi K x c H Q
  | _ => False
theorem callIsi : CallR X (.builtin "isinstance") (vIsi X.K) := call_isinstance.imp fun xs H Q h => by
  unfold vIsi at h; split at h
  · unfold hIsi at h; obtain ⟨t, h1, h2⟩ := h; exact ⟨_, t, _, rfl, h1, h2⟩
  · exact h.elim
end

/-! ### what loops walk -/
section
variable {X : Cx} {tg : Expr}
def mItL (K : PySem.W.Frag) (tl : TE) : TI := fun σ H R => tl σ H fun x H1 => match x with
  | .ref a => (∃ xs, SqL K H1 a xs) ∧ R (Itl K a) H1
  | _ => False
theorem pi_lm {l : Expr} {tl : TE} (hl : PE X l tl) : PI X tg l (mItL X.K tl) := by
  intro pins s σ H R I h
  refine thn (hl pins s σ H _ I h) fun v s1 ⟨x, H1, I1, r1, q1⟩ => ?_
  cases x <;> first
    | exact (show False from q1).elim
    | skip
  rename_i a
  obtain ⟨⟨xs, hq⟩, q⟩ := (show (∃ xs, SqL X.K H1 a xs) ∧ R (Itl X.K a) H1 from q1)
  cases r1
  obtain ⟨its, rv, p, hz⟩ := I1.list hq
  refine wpAny_pyIter_list p.isList ?_
  refine ⟨s1.heap.objs.size, [s1.heap.objs.size], _, _, H1, rfl, I1.kept (t' := s1.toks) fun b o e => Heap.get?_push_of_some _ e, turn_list a _, ⟨_, Heap.get?_push_size _ rfl, rfl, rfl⟩, fun b hb => ?_, q⟩
  have e : b = s1.heap.objs.size := by simpa using hb
  subst e
  exact I1.fpOk (Nat.le_refl _) (I1.hok.fresh (Nat.le_refl _))
def upA (t : TA) : TA := fun σ H Q => ∃ P : List V → Hp → Prop, t σ H P ∧ ∀ vs H1, P vs H1 → Q vs H1
theorem PA.up {es : List Expr} {t : TA} (h : PA X es t) : PA X es (upA t) := by
  intro pos pins s σ H Q I w
  obtain ⟨P, w, hP⟩ := w
  exact thn (h pos pins s σ H P I w) fun us s1 ⟨vs, H1, I1, r1, q1⟩ => ⟨vs, H1, I1, r1, hP _ _ q1⟩
def mRng1 (ta : TA) : TI := fun σ H R => ta σ H fun vs H1 => match vs with
  | [.int j] => (-(2 ^ 62) ≤ j ∧ j < 2 ^ 62) ∧ R (Itr 0 j.toNat) H1
  | _ => False
def mEnum (K : PySem.W.Frag) (ta : TA) : TI := fun σ H R => ta σ H fun vs H1 => match vs with
  | [.ref a] => (∃ xs, SqL K H1 a xs) ∧ R (Ite K a) H1
  | _ => False
theorem pi_r1 {a : Expr} {ta : TA} {p pos : Pos} (hg : Gl X "range") (hm : X.mg "range" = none) (ha : PA X [a] ta) (hs : starEach [a] X.env = [(false, eval a X.env)] := by rfl) : PI X tg (.Call (.Name "range" p) [a] [] pos) (mRng1 ta) :=
  (pi_range1 hg hm ha.up hs).imp fun σ H R h => ⟨_, h, fun vs H1 q => by
    split at q
    · exact ⟨_, rfl, q.1.1, q.1.2, q.2⟩
    · exact q.elim⟩
theorem pi_en {elts : List Expr} {x1 : Nat} {tpos : Pos} {l : Expr} {ta : TA} {p pos : Pos} (hg : Gl X "enumerate") (hm : X.mg "enumerate" = none) (ha : PA X [l] ta) (hs : starEach [l] X.env = [(false, eval l X.env)] := by rfl) : PI X (.Tuple elts x1 tpos) (.Call (.Name "enumerate" p) [l] [] pos) (mEnum X.K ta) :=
  (pi_enum hg hm ha.up hs).imp fun σ H R h => ⟨_, h, fun vs H1 q => by
    split at q
    · exact ⟨_, rfl, q.1, q.2⟩
    · exact q.elim⟩
@[irreducible] def hUnp (K : PySem.W.Frag) (a : Addr) (n : Nat) (H : Hp) (Q : List V → Prop) : Prop := ∃ xs, SqT K H a xs ∧ xs.length = n ∧ Q xs
theorem i_unp {K : PySem.W.Frag} {a : Addr} {n : Nat} {H : Hp} {Q : List V → Prop} {xs : List V} (h : H a = some (.tup xs)) (hl : xs.length = n) (q : Q xs) : hUnp K a n H Q := by unfold hUnp; exact ⟨xs, SqT.of h, hl, q⟩
def gTm (K : PySem.W.Frag) (n : Nat) (t : TGs) : TG := fun v σ H Q => match v with
  | .ref a => hUnp K a n H fun xs => t xs σ H Q
  | _ => False
theorem pg_tm {es : List Expr} {k : Nat} {t : TGs} {n : Nat} {pos : Pos} (hc : X.calm = true) (h : PGs X es t)
    (hn : (assignEach es X.env).length = n := by rfl) (hst : (assignEach es X.env).findIdx? (·.1) = none := by rfl) : PG X (.Tuple es k pos) (gTm X.K n t) := by
  intro pins s σ H v u Q I r hw
  cases v <;> first
    | exact (show False from hw).elim
    | skip
  rename_i a
  have hw := (show hUnp X.K a n H _ from hw)
  unfold hUnp at hw
  obtain ⟨xs, h1, h2, h3⟩ := hw
  exact pg_tup hc h hn hst pins s σ H _ u Q I r ⟨a, xs, rfl, h1, h2, h3⟩
def gNm : TGs := fun vs σ H Q => match vs with
  | [] => Q σ H
  | _ => False
def gCm (t : TG) (u : TGs) : TGs := fun vs σ H Q => match vs with
  | v :: r => t v σ H fun σ' H' => u r σ' H' Q
  | [] => False
theorem pgs_nm : PGs X [] gNm := by
  intro pins s σ H vs us Q I r h
  cases vs with
  | nil => exact pgs_nil pins s σ H _ us Q I r ⟨rfl, h⟩
  | cons v vs => exact (show False from h).elim
theorem pgs_cm {e : Expr} {es : List Expr} {t : TG} {u : TGs} (h1 : PG X e t) (h2 : PGs X es u)
    (hs : (assignEach (e :: es) X.env).map (·.2) = assign e X.env :: (assignEach es X.env).map (·.2) := by rfl) : PGs X (e :: es) (gCm t u) := by
  intro pins s σ H vs us Q I r h
  cases vs with
  | nil => exact (show False from h).elim
  | cons v vs => exact pgs_cons h1 h2 hs pins s σ H _ us Q I r ⟨v, vs, rfl, h⟩
end

/-! ### tests in readings -/
theorem dec2 {p A B : Prop} [Decidable p] (h1 : p → A) (h2 : ¬ p → B) : (decide p = true → A) ∧ (decide p = false → B) := ⟨fun h => h1 (of_decide_eq_true h), fun h => h2 (of_decide_eq_false h)⟩
theorem ndec2 {p A B : Prop} [Decidable p] (h1 : ¬ p → A) (h2 : p → B) : ((!decide p) = true → A) ∧ ((!decide p) = false → B) := ⟨fun h => h1 (by simpa using h), fun h => h2 (by simpa using h)⟩
theorem bT {A B : Prop} (h : A) : (true = true → A) ∧ (true = false → B) := ⟨fun _ => h, fun z => nomatch z⟩
theorem bF {A B : Prop} (h : B) : (false = true → A) ∧ (false = false → B) := ⟨fun z => (nomatch z), fun _ => h⟩
theorem b2 {b : Bool} {A B : Prop} (h1 : b = true → A) (h2 : b = false → B) : (b = true → A) ∧ (b = false → B) := ⟨h1, h2⟩
/-- a test whose outcome is known -/
theorem bIs {b : Bool} {A B : Prop} (hb : b = true) (h : A) : (b = true → A) ∧ (b = false → B) := ⟨fun _ => h, fun z => by rw [hb] at z; cases z⟩
theorem bNo {b : Bool} {A B : Prop} (hb : b = false) (h : B) : (b = true → A) ∧ (b = false → B) := ⟨fun z => (by rw [hb] at z; cases z), fun _ => h⟩
theorem dNo {p A B : Prop} [Decidable p] (hp : ¬ p) (h : B) : (decide p = true → A) ∧ (decide p = false → B) := bNo (decide_eq_false hp) h
end L2

set_option linter.all false
set_option Elab.async false
set_option maxRecDepth 100000
set_option maxHeartbeats 4000000
namespace L2
open PySem PySem.Spec PyProof.Rows
section
variable {X : Cx}
theorem any_plain {pos : Pos} {env : Env} : ∀ {es : List Expr}, es.all plainE = true → (backTo pos (starEach es env)).any (·.1) = false
  | [], _ => rfl
  | e :: es, h => by
    rw [List.all_cons, Bool.and_eq_true] at h
    rw [star_plain h.1]
    have := any_plain (pos := pos) (env := env) h.2
    simp only [backTo, List.map_cons, List.any_cons] at this ⊢
    rw [this]; rfl
def noComp : Expr → Bool
  | .ListComp .. => false
  | .SetComp .. => false
  | .DictComp .. => false
  | _ => true
theorem swaps_plain {e : Expr} {t : Option Expr} {n : Nat} {env : Env} (h : noComp e = true) : swapsWith e t n env = pure false := by
  cases e <;> first | rfl | cases h
theorem ps_st {i : Nat} {x : Str} {e : Expr} {te : TE} {pos pos' : Pos} (hN : X.N.Nodup) (hi : X.N[i]? = some x) (hx : Loc X.env.scope x) (he : PE X e te) (hs : noComp e = true := by rfl) (hf : X.fn x = true ∨ X.env.scope.names.lookup x = some .local := by first | exact .inl rfl | exact .inr rfl | assumption) :
    PS X (.Assign [.Name x pos'] e pos) (tAsg te (gName i)) := ps_set hN hi hx he (swaps_plain hs) hf
theorem ps_ex {e : Expr} {te : TE} {pos : Pos} (he : PE X e te) (hs : noComp e = true := by rfl) : PS X (.Expr e pos) (tDrop te) := ps_expr he (swaps_plain hs)
/-- a def that may be called by its name -/
structure Def (P : Program) (w : World) (K : PySem.W.Frag) (mg : Str → Option Value) (base : Heap) (k : Nat) (x : Str) (ps : List Str) (sp : Sp) : Prop where
  ex : ∃ f fd, FnOk P w K mg base CX0 k f fd ps sp ∧ Binds K fd ps [] ∧ PySem.W.keepIn K (.ref f) = true ∧ mg x = some (.ref f)
theorem pe_def {k j : Nat} {x : Str} {ps : List Str} {sp : Sp} {e : Expr} {es : List Expr} {t : TA} {p pos : Pos} (D : Def X.prog X.w X.K X.mg X.base k x ps sp) (hr : Room j X.A) (hj : k ≤ j) (hg : Gl X x) (ha : PA X (e :: es) t) (hp : (e :: es).all plainE = true := by rfl) (hdb : (x == ("__debug__" : Str)) = false := by decide) :
    PE X (.Call (.Name x p) (e :: es) [] pos) (tCall sp [] E0 t) := by
  obtain ⟨f, fd, F, b, kp, m⟩ := D.ex
  rw [List.all_cons, Bool.and_eq_true] at hp
  exact pe_call F (hr.mono hj) hg m kp b .nil pass0 ha (hdb := hdb) (he := star_plain hp.1) (hpl := any_plain hp.2)
theorem pe_cB {x : Str} {id : String} {r : List V → Hp → VK → Prop} {e : Expr} {es : List Expr} {t : TA} {p pos : Pos} (hc : CallR X (.builtin id) r) (hg : Gl X x) (hm : X.mg x = none) (hv : bootBuiltins x = some (.builtin id)) (ha : PA X (e :: es) t) (hp : (e :: es).all plainE = true := by rfl) (hn : x ≠ "__name__" := by decide) (hdb : (x == ("__debug__" : Str)) = false := by decide) :
    PE X (.Call (.Name x p) (e :: es) [] pos) (tCB r t) := by
  rw [List.all_cons, Bool.and_eq_true] at hp
  exact pe_callB hc hg hm hv ha hn hdb (star_plain hp.1) (any_plain hp.2)
theorem pe_cT {x : Str} {T : String} {r : List V → Hp → VK → Prop} {e : Expr} {es : List Expr} {t : TA} {p pos : Pos} (hc : CallR X (.type T) r) (hg : Gl X x) (hm : X.mg x = none) (hv : bootBuiltins x = some (.type T)) (ha : PA X (e :: es) t) (hp : (e :: es).all plainE = true := by rfl) (hn : x ≠ "__name__" := by decide) (hdb : (x == ("__debug__" : Str)) = false := by decide) :
    PE X (.Call (.Name x p) (e :: es) [] pos) (tCB r t) := by
  rw [List.all_cons, Bool.and_eq_true] at hp
  exact pe_callTy hc hg hm hv ha hn hdb (star_plain hp.1) (any_plain hp.2)
/-- xs.m(e) of a list, one argument -/
theorem few_plain {cpos : Pos} {e : Expr} {env : Env} (hp : plainE e = true) : ((backTo cpos (starEach [e] env)).all (fun x => !x.1) && (backToKw cpos (keywordEach [] env)).all (fun x => x.1.isSome)
      && decide (([e] : List Expr).length + ([] : List Keyword).length + (if ([] : List Keyword).isEmpty then 0 else 1) < 30)) = true := by
  rw [star_plain hp]; rfl
theorem pe_m1 {o e : Expr} {to te : TE} {name : Str} {apos cpos : Pos} {T id : String} {r : V → List V → Hp → VK → Prop} (pa : PlainAttrs T) (slot : Slot T name id) (hty : typeOf (.builtin id) = pure (.type "method_descriptor")) (hm : MtR X id r) (ho : PE X o to) (ha : PE X e te)
    (hp : plainE e = true := by rfl) (hbase : attributeBase o name X.env (eval o X.env) = eval o X.env := by rfl) (hline : (apos.endLine == cpos.line) = true := by rfl) :
    PE X (.Call (.Attribute o name apos) [e] [] cpos) (tBM X.K T r to (tCons te tNil)) :=
  pe_bm pa slot hty hm ho (pac ha pa_nil hp) hbase (few_plain hp) hline (star_plain hp) rfl
theorem pi_k1 {tg a : Expr} {ta : TA} {p pos : Pos} (hg : Gl X "range") (hm : X.mg "range" = none) (ha : PA X [a] ta) (hp : plainE a = true := by rfl) : PI X tg (.Call (.Name "range" p) [a] [] pos) (mRng1 ta) := pi_r1 hg hm ha (star_plain hp)
theorem pi_ke {elts : List Expr} {x1 : Nat} {tpos : Pos} {l : Expr} {ta : TA} {p pos : Pos} (hg : Gl X "enumerate") (hm : X.mg "enumerate" = none) (ha : PA X [l] ta) (hp : plainE l = true := by rfl) : PI X (.Tuple elts x1 tpos) (.Call (.Name "enumerate" p) [l] [] pos) (mEnum X.K ta) := pi_en hg hm ha (star_plain hp)
def noSet : Expr → Bool
  | .Set .. => false
  | _ => true
theorem fold_plain {e : Expr} {env : Env} (h : noSet e = true) : ∀ x, foldedSetIterable e env x = pure x := by
  intro x; cases e <;> first | rfl | cases h
theorem ps_fr {tg iter : Expr} {body : List Stmt} {wi : TI} {g : TG} {tb : TS} {pos : Pos} (hp : PassesOwn (model X.prog X.w) X.A X.env X.xe) (hc : X.calm = true) (hi : PI X tg iter wi) (hg : PG X tg g) (hb : PSs X body tb)
    (hs : noSet iter = true := by rfl) : PS X (.For tg iter body [] pos) (tFor wi g tb) := ps_for hp hc hi hg hb (fold_plain hs)
def plainG : Expr → Bool
  | .Starred .. => false
  | _ => true
theorem assign_plain {e : Expr} {es : List Expr} {env : Env} (h : plainG e = true) : assignEach (e :: es) env = (false, assign e env) :: assignEach es env := by
  cases e <;> first | rfl | cases h
theorem pgs_c {e : Expr} {es : List Expr} {t : TG} {u : TGs} (h1 : PG X e t) (h2 : PGs X es u) (hp : plainG e = true := by rfl) : PGs X (e :: es) (gCm t u) := pgs_cm h1 h2 (by rw [assign_plain hp]; rfl)
theorem assign_plains {env : Env} : ∀ {es : List Expr}, es.all plainG = true → (assignEach es env).length = es.length ∧ (assignEach es env).findIdx? (·.1) = none
  | [], _ => ⟨rfl, rfl⟩
  | e :: es, h => by
    rw [List.all_cons, Bool.and_eq_true] at h
    obtain ⟨h1, h2⟩ := assign_plains (env := env) h.2
    rw [assign_plain h.1]
    refine ⟨by rw [List.length_cons, h1, List.length_cons], ?_⟩
    rw [List.findIdx?_cons, h2]; rfl
theorem pg_t {es : List Expr} {k : Nat} {t : TGs} {pos : Pos} (hc : X.calm = true) (h : PGs X es t) (hp : es.all plainG = true := by rfl) : PG X (.Tuple es k pos) (gTm X.K es.length t) := pg_tm hc h (assign_plains hp).1 (assign_plains hp).2
end
end L2

set_option linter.all false
set_option Elab.async false
set_option maxRecDepth 100000
set_option maxHeartbeats 4000000
namespace L2
open PySem PySem.Spec PyProof.Rows
/-! The judgements, sealed: a term of these rules is found without a look into the model. -/
structure QE (X : Cx) (e : Expr) (t : TE) : Prop where
  h : PE X e t
structure QT (X : Cx) (e : Expr) (t : TT) : Prop where
  h : PT X e t
structure QW (X : Cx) (e : Expr) (t : TT) : Prop where
  h : PW X e t
structure QA (X : Cx) (es : List Expr) (t : TA) : Prop where
  h : PA X es t
  p : es.all plainE = true
structure QS (X : Cx) (st : Stmt) (t : TS) : Prop where
  h : PS X st t
structure QB (X : Cx) (st : List Stmt) (t : TS) : Prop where
  h : PSs X st t
structure QG (X : Cx) (e : Expr) (t : TG) : Prop where
  h : PG X e t
structure QGs (X : Cx) (es : List Expr) (t : TGs) : Prop where
  h : PGs X es t
  p : es.all plainG = true
structure QI (X : Cx) (tg e : Expr) (t : TI) : Prop where
  h : PI X tg e t
structure QIf (X : Cx) (es : List Expr) (t : TT) : Prop where
  h : PIfs X es t
structure QO (X : Cx) (e : Option Expr) (t : TO) : Prop where
  h : PO X e t
section
variable {X : Cx} {e a b c o tg : Expr} {es rest : List Expr} {te ta tb tc to : TE} {t : TA} {pos p p2 : Pos} {st : Stmt} {sts : List Stmt} {x : Str}
/-! blocks -/
theorem qb_nil : QB X [] tNext := ⟨pss_nil⟩
theorem qb_one {u : TS} (h : QS X st u) : QB X [st] u := ⟨pss_one h.h⟩
theorem qb_cons {u v : TS} (h1 : QS X st u) (h2 : QB X sts v) : QB X (st :: sts) (tSeq u v) := ⟨pss_cons h1.h h2.h⟩
theorem qb_mid {u v : TS} (h1 : QS X st u) (h2 : QB X sts v) : QB X (st :: sts) (mMid u v) := ⟨pss_mid h1.h h2.h⟩
/-! statements -/
theorem qs_never : QS X st tNever := ⟨ps_never⟩
theorem qs_ret (h : QE X e te) : QS X (.Return (some e) pos) (tRet te) := ⟨ps_ret h.h⟩
theorem qs_ex (h : QE X e te) (hs : noComp e = true := by rfl) : QS X (.Expr e pos) (tDrop te) := ⟨ps_ex h.h hs⟩
theorem qs_set {i : Nat} (hN : X.N.Nodup) (hi : X.N[i]? = some x) (hx : Loc X.env.scope x) (hf : X.fn x = true ∨ X.env.scope.names.lookup x = some .local) (he : QE X e te) (hs : noComp e = true := by rfl) :
    QS X (.Assign [.Name x p] e pos) (tAsg te (gName i)) := ⟨ps_st hN hi hx he.h hs hf⟩
theorem qs_asg {g : TG} (he : QE X e te) (hg : QG X tg g) (hs : noComp e = true := by rfl) (hw : swappedStores [tg] e X.env = pure none := by rfl) (hp : plainG tg = true := by rfl) : QS X (.Assign [tg] e pos) (tAsg te g) :=
  ⟨ps_asg he.h hg.h (swaps_plain hs) hw (by rw [assign_plain hp]; rfl)⟩
theorem qs_if {s1 s2 : List Stmt} {tc : TT} {u v : TS} (hc : QT X c tc) (ha : QB X s1 u) (hb : QB X s2 v) : QS X (.If c s1 s2 pos) (mIfS tc u v) := ⟨ps_ifm hc.h ha.h hb.h⟩
theorem qs_while {tc : TT} {u : TS} (hp : PassesOwn (model X.prog X.w) X.A X.env X.xe) (hc : QT X c tc) (hb : QB X sts u) : QS X (.While c sts [] pos) (mWhile tc u) := ⟨ps_whm hp hc.h hb.h⟩
theorem qs_for {wi : TI} {g : TG} {u : TS} (hp : PassesOwn (model X.prog X.w) X.A X.env X.xe) (hc : X.calm = true) (hi : QI X tg e wi) (hg : QG X tg g) (hb : QB X sts u) (hs : noSet e = true := by rfl) : QS X (.For tg e sts [] pos) (tFor wi g u) := ⟨ps_fr hp hc hi.h hg.h hb.h hs⟩
/-! targets -/
theorem qg_name {i : Nat} (hN : X.N.Nodup) (hi : X.N[i]? = some x) (hx : Loc X.env.scope x) (hf : X.fn x = true ∨ X.env.scope.names.lookup x = some .local) : QG X (.Name x pos) (gName i) := ⟨pg_name hN hi hx hf⟩
theorem qgs_nil : QGs X [] gNm := ⟨pgs_nm, rfl⟩
theorem qgs_cons {g : TG} {u : TGs} (h1 : QG X e g) (h2 : QGs X es u) (hp : plainG e = true := by rfl) : QGs X (e :: es) (gCm g u) := ⟨pgs_c h1.h h2.h hp, by rw [List.all_cons, hp, h2.p]; rfl⟩
theorem qg_tup {k : Nat} {u : TGs} (hc : X.calm = true) (h : QGs X es u) : QG X (.Tuple es k pos) (gTm X.K es.length u) := ⟨pg_t hc h.h h.p⟩
/-! what loops walk -/
theorem qi_list (h : QE X e te) : QI X tg e (mItL X.K te) := ⟨pi_lm h.h⟩
theorem qi_r1 (hg : Gl X "range") (hm : X.mg "range" = none) (h : QA X [a] t) : QI X tg (.Call (.Name "range" p) [a] [] pos) (mRng1 t) := ⟨pi_k1 hg hm h.h (by have := h.p; simpa using this)⟩
theorem qi_enum {k : Nat} (hg : Gl X "enumerate") (hm : X.mg "enumerate" = none) (h : QA X [a] t) : QI X (.Tuple es k p2) (.Call (.Name "enumerate" p) [a] [] pos) (mEnum X.K t) := ⟨pi_ke hg hm h.h (by have := h.p; simpa using this)⟩
/-! arguments -/
theorem qa_nil : QA X [] tNil := ⟨pa_nil, rfl⟩
theorem qa_cons (h1 : QE X e te) (h2 : QA X es t) (hp : plainE e = true := by rfl) : QA X (e :: es) (tCons te t) := ⟨pac h1.h h2.h hp, by rw [List.all_cons, hp, h2.p]; rfl⟩
/-! expressions -/
theorem qv (i : Nat) (hN : X.N[i]? = some x) (hv : Vis X.env.scope x) (hd : (x == ("__debug__" : Str)) = false := by decide) (hcd : (x == ("__classdict__" : Str)) = false := by decide) : QE X (.Name x pos) (mVar i) := ⟨mv i hN hv hd hcd⟩
theorem qe_int {i : Int} {j : Nat} : QE X (.Constant (.int i) j pos) (tC (.int i)) := ⟨pe_int⟩
theorem qe_bl {i : Bool} {j : Nat} : QE X (.Constant (.bool i) j pos) (tC (.bl i)) := ⟨pe_bl⟩
theorem qe_non {j : Nat} : QE X (.Constant .none j pos) (tC .non) := ⟨pe_non⟩
theorem qe_str {i : Str} {j : Nat} : QE X (.Constant (.str i) j pos) (tC (.str i)) := ⟨pe_str⟩
theorem qe_ty {T : String} (hg : Gl X x) (hm : X.mg x = none) (hv : bootBuiltins x = some (.type T)) (hn : x ≠ "__name__" := by decide) (hd : (x == ("__debug__" : Str)) = false := by decide) : QE X (.Name x pos) (tC (.ty T)) := ⟨pe_tyn hg hm hv hn hd⟩
theorem qe_op {op : Operator} {r : R2} (ho : OpR X (binaryOp op) r) (ha : QE X a ta) (hb : QE X b tb) : QE X (.BinOp a op b pos) (tOp r ta tb) := ⟨pe_op ho ha.h hb.h⟩
theorem qe_un {op : UnaryOp} {r : V → Hp → VK → Prop} (ho : UnR X (unaryOp op) r) (ha : QE X a ta) : QE X (.UnaryOp op a pos) (tUn r ta) := ⟨pe_un ho ha.h⟩
theorem qe_not (ha : QE X a ta) : QE X (.UnaryOp .Not a pos) (mNotV X.K ta) := ⟨pe_nm ha.h⟩
theorem qe_cmp {op : CmpOp} {r : R2} (ho : OpR X (compareOp op) r) (ha : QE X a ta) (hb : QE X b tb) (h1 : op ≠ .In := by decide) (h2 : op ≠ .NotIn := by decide) : QE X (.Compare a [op] [b] pos) (tOp r ta tb) := ⟨pe_cmpR ho ha.h hb.h (nomark b h1 h2)⟩
theorem qe_chain {op op' : CmpOp} {r r' : R2} (ho : OpR X (compareOp op) r) (ho' : OpR X (compareOp op') r') (ha : QE X a ta) (hb : QE X b tb) (hc : QE X c tc) (hm : lastMarks [op, op'] [b, c] = false := by with_unfolding_all rfl) : QE X (.Compare a [op, op'] [b, c] pos) (mChain r r' ta tb tc) := ⟨pe_chm ho ho' ha.h hb.h hc.h hm⟩
theorem qe_one {op : BoolOp} (h : QE X a ta) : QE X (.BoolOp op [a] pos) ta := ⟨pe_one h.h⟩
theorem qe_and (ha : QE X a ta) (hb : QE X (.BoolOp .And (b :: rest) pos) tb) : QE X (.BoolOp .And (a :: b :: rest) pos) (mAndV X.K ta tb) := ⟨pe_am ha.h hb.h⟩
theorem qe_if {tA : TT} (hc : QT X c tA) (ha : QE X a ta) (hb : QE X b tb) : QE X (.IfExp c a b pos) (mIf tA ta tb) := ⟨pe_ifm hc.h ha.h hb.h⟩
theorem qe_lst (h : QA X es t) : QE X (.List es pos) (mLst t) := ⟨pe_lm h.h⟩
theorem qe_tup {k : Nat} (h : QA X es t) : QE X (.Tuple es k pos) (mTup t) := ⟨pe_tm h.h⟩
theorem qo_none : QO X none tNoPart := ⟨po_none⟩
theorem qo_some (h : QE X e te) : QO X (some e) (mPart te) := ⟨po_m h.h⟩
theorem qe_slice {lo hi : Option Expr} {tl th : TO} (he : QE X e te) (hl : QO X lo tl) (hu : QO X hi th) : QE X (.Subscript e (.Slice lo hi none p2) pos) (tSl (vSl X.K) te tl th) := ⟨pe_slice slM he.h hl.h hu.h⟩
theorem qe_ix (ha : QE X a ta) (hb : QE X b tb) (hs : PlainIx b) : QE X (.Subscript a b pos) (tOp (vIx X.K) ta tb) := ⟨pe_ix ixM ha.h hb.h hs⟩
theorem qe_def {k j : Nat} {ps : List Str} {sp : Sp} (D : Def X.prog X.w X.K X.mg X.base k x ps sp) (hr : Room j X.A) (hj : k ≤ j) (hg : Gl X x) (ha : QA X (e :: es) t) (hdb : (x == ("__debug__" : Str)) = false := by decide) : QE X (.Call (.Name x p) (e :: es) [] pos) (tCall sp [] E0 t) := ⟨pe_def D hr hj hg ha.h ha.p hdb⟩
theorem qe_cB {id : String} {r : List V → Hp → VK → Prop} (hc : CallR X (.builtin id) r) (hg : Gl X x) (hm : X.mg x = none) (hv : bootBuiltins x = some (.builtin id)) (ha : QA X (e :: es) t) (hn : x ≠ "__name__" := by decide) (hdb : (x == ("__debug__" : Str)) = false := by decide) : QE X (.Call (.Name x p) (e :: es) [] pos) (tCB r t) := ⟨pe_cB hc hg hm hv ha.h ha.p hn hdb⟩
theorem qe_cT {T : String} {r : List V → Hp → VK → Prop} (hc : CallR X (.type T) r) (hg : Gl X x) (hm : X.mg x = none) (hv : bootBuiltins x = some (.type T)) (ha : QA X (e :: es) t) (hn : x ≠ "__name__" := by decide) (hdb : (x == ("__debug__" : Str)) = false := by decide) : QE X (.Call (.Name x p) (e :: es) [] pos) (tCB r t) := ⟨pe_cT hc hg hm hv ha.h ha.p hn hdb⟩
theorem qe_m1 {name : Str} {T id : String} {r : V → List V → Hp → VK → Prop} (pa : PlainAttrs T) (slot : Slot T name id) (hty : typeOf (.builtin id) = pure (.type "method_descriptor")) (hm : MtR X id r) (ho : QE X o to) (ha : QE X e te)
    (hp : plainE e = true := by rfl) (hbase : attributeBase o name X.env (eval o X.env) = eval o X.env := by rfl) (hline : (p.endLine == pos.line) = true := by rfl) : QE X (.Call (.Attribute o name p) [e] [] pos) (tBM X.K T r to (tCons te tNil)) := ⟨pe_m1 pa slot hty hm ho.h ha.h hp hbase hline⟩
/-! tests -/
theorem qt_cmp {op : CmpOp} {r : R2} (ho : OpR X (compareOp op) r) (ha : QE X a ta) (hb : QE X b tb) (h1 : op ≠ .In := by decide) (h2 : op ≠ .NotIn := by decide) : QT X (.Compare a [op] [b] pos) (mB (tOp r ta tb)) := ⟨pt_cm ho ha.h hb.h (nomark b h1 h2)⟩
theorem qw_and1 {tA : TT} (ha : QT X a tA) : QW X (.BoolOp .And [a] pos) tA := ⟨pw_and1 ha.h⟩
theorem qw_or1 {tA : TT} (ha : QT X a tA) : QW X (.BoolOp .Or [a] pos) tA := ⟨pw_or1 ha.h⟩
theorem qw_and {tA tB' : TT} (ha : QT X a tA) (hb : QW X (.BoolOp .And (b :: rest) pos) tB') : QW X (.BoolOp .And (a :: b :: rest) pos) (mAnd tA tB') := ⟨pw_am ha.h hb.h⟩
theorem qw_or {tA tB' : TT} (ha : QT X a tA) (hb : QW X (.BoolOp .Or (b :: rest) pos) tB') : QW X (.BoolOp .Or (a :: b :: rest) pos) (mOr tA tB') := ⟨pw_om ha.h hb.h⟩
theorem QW.pt {tA : TT} (h : QW X a tA) : QT X a tA := ⟨h.h.pt⟩
theorem qt_not {tA : TT} (ha : QT X a tA) : QT X (.UnaryOp .Not a pos) (tNot tA) := ⟨pt_not ha.h⟩
theorem qt_val (ha : QE X a ta) (he : ∀ whole, isTrue a X.env whole = (do let v ← whole; standAt a.pos; holding [v] (truthy v)) := by intro _; rfl) : QT X a (mT X.K ta) := ⟨pt_m ha.h he⟩
/-! comprehensions -/
theorem qif_nil : QIf X [] tYes := ⟨pifs_nil⟩
theorem qe_comp (N' : List Str) (caps : List (Option Nat)) {elt iter : Expr} {ifs : List Expr} {scope : Scope} {wi : TI} {g : TG} {tt : TT} (hc : X.calm = true) (hi : QI X tg iter wi)
    (hg : ∀ pins cl C s0 H0 fp, QG (cxComp X pins N' scope cl C s0 H0 fp) tg g) (ht : ∀ pins cl C s0 H0 fp, QIf (cxComp X pins N' scope cl C s0 H0 fp) ifs tt) (he : ∀ pins cl C s0 H0 fp, QE (cxComp X pins N' scope cl C s0 H0 fp) elt te)
    (hcap : capOk N' caps X.N X.env.scope.names scope.names = true := by kernel_rfl) (hkind : scope.kind = .function := by rfl) (hs : noSet iter = true := by rfl) :
    QE X (.ListComp elt [⟨tg, iter, ifs, 0⟩] scope pos) (tComp caps wi g tt te) :=
  ⟨pe_comp N' caps hc hi.h (fun a b c d e f => (hg a b c d e f).h) (fun a b c d e f => (ht a b c d e f).h) (fun a b c d e f => (he a b c d e f).h) hcap hkind (fold_plain hs)⟩
end
/-- the rule for a def, by a sealed body -/
theorem Fun.okq {P : Program} {w : World} {K : PySem.W.Frag} {mg : Str → Option Value} {base : Heap} {x qual : Str} {st : Stmt} {f : Addr} {fd : FuncData} {N ps : List Str} {k : Nat} {sp : Sp} (F : Fun K x qual st f fd) (S : FnScope N ps (defScope st)) (len : ∀ vs H Q E, sp vs H Q E → vs.length = ps.length)
    (hbody : ∀ (cdv : Value) (A : Around) (outer : List Env) (s : Shared) (H : Hp) (vs : List V) (Q : VK) (E : XK), Room k (A.deeper (envOfC qual (defScope st) s.heap.objs.size f cdv)) → sp vs H Q E →
      ∃ T : { t : TS // QB (cxOf CX0 P w K mg base N qual (defScope st) f cdv A outer s H E).nox (defBody st) t }, T.1 { nx := fun _ H' => Q .non H', rt := Q } (start N vs) H) : FnOk P w K mg base CX0 (k + 1) f fd ps sp :=
  F.ok S len fun cdv A outer s H vs Q E hr h => let ⟨T, q⟩ := hbody cdv A outer s H vs Q E hr h; ⟨T.1, T.2.h, q⟩
end L2

set_option linter.all false
set_option Elab.async false
set_option maxRecDepth 100000
set_option maxHeartbeats 4000000
namespace L2
open PySem PySem.Spec PyProof.Rows
/-! ### readings, closed upward -/
def upE (t : TE) : TE := fun σ H Q => ∃ P : VK, t σ H P ∧ ∀ v H1, P v H1 → Q v H1
def upT (t : TT) : TT := fun σ H Q => ∃ P : Bool → Hp → Prop, t σ H P ∧ ∀ v H1, P v H1 → Q v H1
def upG (t : TG) : TG := fun v σ H Q => ∃ P : St → Hp → Prop, t v σ H P ∧ ∀ σ1 H1, P σ1 H1 → Q σ1 H1
section
variable {X : Cx} {e a b c tg : Expr} {te : TE} {pos p p2 : Pos} {x : Str}
theorem QE.up (h : QE X e te) : QE X e (upE te) := ⟨by
  intro pins s σ H Q I w
  obtain ⟨P, w, hP⟩ := w
  exact thn (h.h pins s σ H P I w) fun u s1 ⟨v, H1, I1, r1, q1⟩ => ⟨v, H1, I1, r1, hP _ _ q1⟩⟩
theorem QIf.up {es : List Expr} {tt : TT} (h : QIf X es tt) : QIf X es (upT tt) := ⟨by
  intro pins s σ H Q I w
  obtain ⟨P, w, hP⟩ := w
  exact thn (h.h pins s σ H P I w) fun u s1 ⟨H1, I1, q1⟩ => ⟨H1, I1, hP _ _ q1⟩⟩
theorem QG.up {g : TG} (h : QG X e g) : QG X e (upG g) := ⟨by
  intro pins s σ H v u Q I r w
  obtain ⟨P, w, hP⟩ := w
  exact thn (h.h pins s σ H v u P I r w) fun u s1 ⟨σ1, H1, I1, q1⟩ => ⟨σ1, H1, I1, hP _ _ q1⟩⟩
theorem qe_cp (N' : List Str) (caps : List (Option Nat)) {elt iter : Expr} {ifs : List Expr} {scope : Scope} {wi : TI} {g : TG} {tt : TT} (hc : X.calm = true) (hi : QI X tg iter wi)
    (hg : ∀ pins cl C s0 H0 fp, QG (cxComp X pins N' scope cl C s0 H0 fp) tg g) (ht : ∀ pins cl C s0 H0 fp, QIf (cxComp X pins N' scope cl C s0 H0 fp) ifs tt) (he : ∀ pins cl C s0 H0 fp, QE (cxComp X pins N' scope cl C s0 H0 fp) elt te)
    (hcap : capOk N' caps X.N X.env.scope.names scope.names = true := by kernel_rfl) (hkind : scope.kind = .function := by rfl) (hs : noSet iter = true := by rfl) :
    QE X (.ListComp elt [⟨tg, iter, ifs, 0⟩] scope pos) (tComp caps wi (upG g) (upT tt) (upE te)) :=
  qe_comp N' caps hc hi (fun a b c d e f => (hg a b c d e f).up) (fun a b c d e f => (ht a b c d e f).up) (fun a b c d e f => (he a b c d e f).up) hcap hkind hs
end
/-- one turn of a comprehension, the new list at D -/
def Turn1 (g : TG) (tt : TT) (te : TE) (D : Addr) (ys : List V) (x : V) (σ : St) (H : Hp) (N : St → Hp → List V → Prop) : Prop :=
  g x σ H fun σ2 H3 => tt σ2 H3 fun b H4 => (b = true → te σ2 H4 fun v H5 => H5 D = some (.lst ys) ∧ ys.length < sizeLine ∧ ∀ H6, Kp [D] H5 H6 → H6 D = some (.lst (ys ++ [v])) → N σ2 H6 (ys ++ [v])) ∧ (b = false → H4 D = some (.lst ys) ∧ N σ2 H4 ys)
theorem turn1_ok {g : TG} {tt : TT} {te : TE} {D : Addr} {ys : List V} {x : V} {σ : St} {H : Hp} {N : St → Hp → List V → Prop} {M : St → Hp → Prop} (h : Turn1 g tt te D ys x σ H N) (hM : ∀ σ H ys, H D = some (.lst ys) → N σ H ys → M σ H) :
    upG g x σ H fun σ2 H3 => upT tt σ2 H3 fun b H4 => if b = true then upE te σ2 H4 fun v H5 => ∃ ys, H5 D = some (.lst ys) ∧ ys.length < sizeLine ∧ M σ2 (upd H5 D (.lst (ys ++ [v]))) else M σ2 H4 := by
  refine ⟨_, h, fun σ2 H3 h => ⟨_, h, fun b H4 h => ?_⟩⟩
  cases b with
  | true => exact iteT ⟨_, h.1 rfl, fun v H5 q => ⟨ys, q.1, q.2.1, hM _ _ _ upd_same (q.2.2 _ kp_upd upd_same)⟩⟩
  | false => exact iteF (hM _ _ _ (h.2 rfl).1 (h.2 rfl).2)
section
variable {g : TG} {tt : TT} {te : TE} {σ0 : St} {H1 : Hp} {Q : Addr → Hp → Prop} {K : PySem.W.Frag}
theorem comp_lst {a : Addr} (xs : List V) (R : Nat → Addr → St → Hp → List V → Prop)
    (h0 : ∀ D H', H1 D = none → Same H1 H' → H' D = some (.lst []) → R 0 D σ0 H' [])
    (hl : ∀ i D σ H ys, H1 D = none → R i D σ H ys → SqL K H a xs)
    (hs : ∀ i x D σ H ys, xs[i]? = some x → H1 D = none → R i D σ H ys → H D = some (.lst ys) → Turn1 g tt te D ys x σ H (R (i + 1) D))
    (hd : ∀ D σ H ys, H1 D = none → R xs.length D σ H ys → H D = some (.lst ys) → Q D H) : ∀ D, H1 D = none → compRead (Itl K a) D (upG g) (upT tt) (upE te) σ0 (upd H1 D (.lst [])) fun H2 => Q D H2 := by
  intro D hD
  refine comp_list (xs := xs) (fun i σ H => ∃ ys, H D = some (.lst ys) ∧ R i D σ H ys) ⟨[], upd_same, h0 D _ hD (same_upd hD) upd_same⟩ ?_ ?_ ?_
  · rintro i σ H _ ⟨ys, e, r⟩
    exact hl i D σ H ys hD r
  · rintro i x σ H hi ⟨ys, e, r⟩
    exact turn1_ok (hs i x D σ H ys hi hD r e) fun σ H ys e r => ⟨ys, e, r⟩
  · rintro σ H ⟨ys, e, r⟩
    exact hd D σ H ys hD r e
end
end L2
namespace L2
open PySem
theorem Kp.new {S : List Addr} {H H5 H6 : Hp} {D : Addr} (k : Kp S H H5) (k6 : Kp [D] H5 H6) (hD : H D = none) : Kp S H H6 := fun b o n q => k6.one (ne_of_none q hD) (k b o n q)
theorem Same.new {H H5 H6 : Hp} {D : Addr} (k : Same H H5) (k6 : Kp [D] H5 H6) (hD : H D = none) : Same H H6 := fun b o q => k6.one (ne_of_none q hD) (k b o q)
theorem Kp.same {S : List Addr} {H H5 H6 : Hp} (k : Kp S H H5) (s : Same H5 H6) : Kp S H H6 := fun b o n q => s b o (k b o n q)
theorem sz_of {n : Nat} (h : n ≤ 100000) : n ≤ sizeLine := by rw [sizeLine_eq]; omega
theorem sz_lt {n : Nat} (h : n ≤ 100000) : n < sizeLine := by rw [sizeLine_eq]; omega
theorem map_snoc (zs : List Int) (z : Int) : zs.map V.int ++ [V.int z] = (zs ++ [z]).map V.int := by rw [List.map_append]; rfl
theorem vints_at {zs : List Int} {i : Nat} {x : V} (h : (zs.map V.int)[i]? = some x) : ∃ z, x = .int z ∧ zs[i]? = some z ∧ z ∈ zs := by
  rw [List.getElem?_map] at h
  cases e : zs[i]? with
  | none => rw [e] at h; cases h
  | some z =>
    rw [e] at h
    exact ⟨z, (Option.some.inj h).symm, rfl, List.mem_of_getElem? e⟩
end L2

set_option linter.all false
set_option Elab.async false
set_option maxRecDepth 100000
set_option maxHeartbeats 4000000
namespace L2
open PySem PySem.Spec PyProof.Rows
/-! ### data that is shown -/
theorem log2_of {i : Int} (h : i.natAbs < 10 ^ 40) : i.natAbs.log2 < 1920 := by
  by_cases h0 : i.natAbs = 0
  · rw [h0]; decide
  · exact (Nat.log2_lt h0).mpr (Nat.lt_of_lt_of_le h (by decide +kernel))
theorem shown_int_len {i : Int} (h : i.natAbs < 10 ^ 40) : (PyData.shown (.int i)).length ≤ 41 := by
  have e := int_text_length_le10 (k := 40) (by decide) h
  show (Str.ofString (toString i)).length ≤ 41
  rw [PySem.ofString_length]; exact e
/-! ### loops, the heap unnamed -/
section
variable {g : TG} {tb : TS} {D : Ends} {σ : St} {H : Hp} {K : PySem.W.Frag}
/-- over enumerate(list), the list left as it is -/
theorem for_en {a : Addr} (xs : List V) (Pv : Nat → St → Hp → Prop) (h0 : Pv 0 σ H) (hl : ∀ i σ H, i ≤ xs.length → Pv i σ H → SqL K H a xs)
    (hs : ∀ i x σ H T H', xs[i]? = some x → Pv i σ H → H T = none → Same H H' → H' T = some (.tup [.int i, x]) → g (.ref T) σ H' fun σ2 H2 => tb { D with nx := Pv (i + 1), ct := Pv (i + 1), bk := D.nx } σ2 H2) (hd : ∀ σ H, Pv xs.length σ H → D.nx σ H) :
    ∃ W : Nat → Nat → St → Hp → Prop, (∃ m, W 0 m σ H) ∧ ∀ i m σ H, W i m σ H →
      ((Ite K a).stop i H ∧ D.nx σ H) ∨ ((Ite K a).go i H ∧ ∃ N : St → Hp → Prop, (∀ σ' H', N σ' H' → ∃ m', m' < m ∧ W (i + 1) m' σ' H') ∧ ∀ x H', (Ite K a).yld i H x H' → g x σ H' fun σ2 H2 => tb { D with nx := N, ct := N, bk := D.nx } σ2 H2) :=
  for_enum (xs := xs) Pv h0 hl (fun i x σ H T hx p hT => hs i x σ H T _ hx p hT (same_upd hT) upd_same) hd
end
theorem take_snoc {α : Type} {l : List α} {i : Nat} {x : α} (h : l[i]? = some x) : l.take (i + 1) = l.take i ++ [x] := by rw [List.take_add_one, h]; rfl
theorem i_isi {K : PySem.W.Frag} {H : Hp} {Q : VK} {x : V} {t c : String} (ty : TyOf K H x (.type t)) (ht : t ∈ ["NoneType", "bool", "int", "str", "list", "tuple", "dict"]) (hc : c ∈ ["bool", "int", "str", "list", "tuple", "dict"]) (q : Q (.bl (isTy t c)) H) : hIsi K x c H Q := by
  unfold hIsi; exact ⟨t, ty, ht, hc, q⟩
end L2

set_option linter.all false
set_option Elab.async false
set_option maxRecDepth 100000
set_option maxHeartbeats 4000000
namespace L2
open PySem PySem.Spec PyProof.Rows
/-! ### zip over two lists -/
section
variable {X : Cx}
end
section
variable {g : TG} {tt : TT} {te : TE} {σ0 : St} {H1 : Hp} {Q : Addr → Hp → Prop} {K : PySem.W.Frag}
end
end L2

set_option linter.all false
set_option Elab.async false
set_option maxRecDepth 100000
set_option maxHeartbeats 4000000
namespace L2
open PySem PySem.Spec PyProof.Rows
/-! The rules that speak of the written part, with it named. -/
section
variable {X : Cx} {K : PySem.W.Frag} {e a b c o tg : Expr} {es rest : List Expr} {te ta tb tc to : TE} {t : TA} {pos p p2 : Pos} {x : Str}
theorem kg_tup {k : Nat} {u : TGs} (hK : X.K = K) (hc : X.calm = true) (h : QGs X es u) : QG X (.Tuple es k pos) (gTm K es.length u) := hK ▸ qg_tup hc h
theorem ki_list (hK : X.K = K) (h : QE X e te) : QI X tg e (mItL K te) := hK ▸ qi_list h
theorem ki_enum {k : Nat} (hK : X.K = K) (hg : Gl X "enumerate") (hm : X.mg "enumerate" = none) (h : QA X [a] t) : QI X (.Tuple es k p2) (.Call (.Name "enumerate" p) [a] [] pos) (mEnum K t) := hK ▸ qi_enum hg hm h
theorem ke_not (hK : X.K = K) (ha : QE X a ta) : QE X (.UnaryOp .Not a pos) (mNotV K ta) := hK ▸ qe_not ha
theorem ke_and (hK : X.K = K) (ha : QE X a ta) (hb : QE X (.BoolOp .And (b :: rest) pos) tb) : QE X (.BoolOp .And (a :: b :: rest) pos) (mAndV K ta tb) := hK ▸ qe_and ha hb
theorem ke_slice {lo hi : Option Expr} {tl th : TO} (hK : X.K = K) (he : QE X e te) (hl : QO X lo tl) (hu : QO X hi th) : QE X (.Subscript e (.Slice lo hi none p2) pos) (tSl (vSl K) te tl th) := hK ▸ qe_slice he hl hu
theorem ke_ix (hK : X.K = K) (ha : QE X a ta) (hb : QE X b tb) (hs : PlainIx b) : QE X (.Subscript a b pos) (tOp (vIx K) ta tb) := hK ▸ qe_ix ha hb hs
theorem ke_m1 {name : Str} {T id : String} {r : V → List V → Hp → VK → Prop} (hK : X.K = K) (pa : PlainAttrs T) (slot : Slot T name id) (hty : typeOf (.builtin id) = pure (.type "method_descriptor")) (hm : MtR X id r) (ho : QE X o to) (ha : QE X e te)
    (hp : plainE e = true := by rfl) (hbase : attributeBase o name X.env (eval o X.env) = eval o X.env := by rfl) (hline : (p.endLine == pos.line) = true := by rfl) : QE X (.Call (.Attribute o name p) [e] [] pos) (tBM K T r to (tCons te tNil)) := hK ▸ qe_m1 pa slot hty hm ho ha hp hbase hline
theorem kt_val (hK : X.K = K) (ha : QE X a ta) (he : ∀ whole, isTrue a X.env whole = (do let v ← whole; standAt a.pos; holding [v] (truthy v)) := by intro _; rfl) : QT X a (mT K ta) := hK ▸ qt_val ha he
theorem kSum (hK : X.K = K) (hc : X.calm = true) : CallR X (.builtin "sum") (vSum K) := hK ▸ callSum hc
theorem kMax (hK : X.K = K) (hc : X.calm = true) : CallR X (.builtin "max") (vMax K) := hK ▸ callMax hc
theorem kMin (hK : X.K = K) (hc : X.calm = true) : CallR X (.builtin "min") (vMin K) := hK ▸ callMin hc
theorem kLen (hK : X.K = K) : CallR X (.builtin "len") (vLen K) := hK ▸ callLen
theorem kList (hK : X.K = K) : CallR X (.type "list") (vCopy K) := hK ▸ callList
theorem kSorted (hK : X.K = K) : CallR X (.builtin "sorted") (vSorted K) := hK ▸ callSorted
def vClr : V → List V → Hp → VK → Prop := fun x vs H Q => match x, vs with
  | .ref a, [] => hClr a H Q
  | _, _ => False
end
/-! ### == and != of things that read as one -/
section
variable {X : Cx}
theorem paired_at {α β : Type} {R : α → β → Prop} : ∀ {xs : List α} {ys : List β}, Paired R xs ys → ∀ (j : Nat) {x : α} {y : β}, xs[j]? = some x → ys[j]? = some y → R x y
  | _, _, .nil, j, _, _, h, _ => by simp at h
  | _, _, .cons r t, 0, _, _, h1, h2 => by simp at h1 h2; subst h1; subst h2; exact r
  | _, _, .cons r t, j + 1, _, _, h1, h2 => paired_at t j (by simpa using h1) (by simpa using h2)
theorem all_true (n : Nat) : ((List.range n).all fun _ => true) = true := by simp
theorem seq_same {pins : List (Addr × Obj)} {σ : St} {H : Hp} {s : Shared} {n : Nat} {A : Around} {xs ys : List V} {us vs : List Value} {ds : List PyData}
    (ih : ∀ (x y : V) (u v : Value) (d : PyData), RV n H x d → RV n H y d → RelV x u → RelV y v → SeqAt.EqAt A s u v true) (p1 : Paired (RV n H) xs ds) (p2 : Paired (RV n H) ys ds) (r1 : Vals xs us) (r2 : Vals ys vs) :
    us.toArray.size = vs.toArray.size ∧ ∀ j (h1 : j < us.toArray.size) (h2 : j < vs.toArray.size), SeqAt.EqAt A s us.toArray[j] vs.toArray[j] ((fun _ => true) j) := by
  have l1 := Paired.length p1
  have l2 := Paired.length p2
  have l3 := Paired.length r1
  have l4 := Paired.length r2
  refine ⟨by simp only [List.size_toArray]; omega, fun j h1 h2 => ?_⟩
  have h1' : j < us.length := by simpa using h1
  have h2' : j < vs.length := by simpa using h2
  have hx : j < xs.length := by omega
  have hy : j < ys.length := by omega
  have hd : j < ds.length := by omega
  exact ih xs[j] ys[j] _ _ ds[j] (paired_at p1 j (List.getElem?_eq_getElem hx) (List.getElem?_eq_getElem hd)) (paired_at p2 j (List.getElem?_eq_getElem hy) (List.getElem?_eq_getElem hd))
    (paired_at r1 j (List.getElem?_eq_getElem hx) (by simp [h1'])) (paired_at r2 j (List.getElem?_eq_getElem hy) (by simp [h2']))
/-- the parts of a thing that reads as data -/
inductive RdP (n : Nat) (H : Hp) (h : Heap) (a : Addr) : PyData → Prop where
  | lst {xs : List V} {us : List Value} {ds : List PyData} (p : Paired (RV n H) xs ds) (r : Vals xs us) (l : h.IsList a us.toArray) : RdP n H h a (.list ds)
  | tup {xs : List V} {us : List Value} {ds : List PyData} (p : Paired (RV n H) xs ds) (r : Vals xs us) (l : h.IsTuple a us.toArray) : RdP n H h a (.tuple ds)
theorem rdP_of {pins : List (Addr × Obj)} {σ : St} {H : Hp} {s : Shared} (I : Inv X pins σ H s) {n : Nat} {a : Addr} {d : PyData} (h : RV (n + 1) H (.ref a) d) : RdP n H s.heap a d := by
  rcases (show (∃ xs ds, Rd H a (.lst xs) ∧ d = .list ds ∧ Paired (RV n H) xs ds) ∨ ∃ xs ds, Rd H a (.tup xs) ∧ d = .tuple ds ∧ Paired (RV n H) xs ds from h) with ⟨xs, ds, h1, rfl, h3⟩ | ⟨xs, ds, h1, rfl, h3⟩
  · obtain ⟨us, r, p, _⟩ := I.list (.inl h1)
    exact .lst h3 r p.isList
  · obtain ⟨us, r, p, _⟩ := I.tuple (.inl h1)
    exact .tup h3 r p
def flatD : V → Option PyData
  | .non => some .none
  | .bl b => some (.bool b)
  | .int i => some (.int i)
  | .str x => some (.str x)
  | _ => none
theorem rv_scal {n : Nat} {H : Hp} {x : V} {d : PyData} (h : RV n H x d) (hx : ∀ a, x ≠ .ref a) : flatD x = some d := by
  cases x with
  | non => have e : d = .none := by cases n <;> exact h
           rw [e]; rfl
  | bl b => have e : d = .bool b := by cases n <;> exact h
            rw [e]; rfl
  | int i => have e : d = .int i := by cases n <;> exact h
             rw [e]; rfl
  | str i => have e : d = .str i := by cases n <;> exact h
             rw [e]; rfl
  | ref a => exact absurd rfl (hx a)
  | byt b => cases n <;> exact (show False from h).elim
  | flt b => cases n <;> exact (show False from h).elim
  | ty b => cases n <;> exact (show False from h).elim
theorem rv_ref {n : Nat} {H : Hp} {a : Addr} {d : PyData} (h : RV n H (.ref a) d) : (∃ ds, d = .list ds) ∨ ∃ ds, d = .tuple ds := by
  cases n with
  | zero => exact (show False from h).elim
  | succ n =>
    rcases (show (∃ xs ds, Rd H a (.lst xs) ∧ d = .list ds ∧ Paired (RV n H) xs ds) ∨ ∃ xs ds, Rd H a (.tup xs) ∧ d = .tuple ds ∧ Paired (RV n H) xs ds from h) with ⟨xs, ds, _, e, _⟩ | ⟨xs, ds, _, e, _⟩
    · exact .inl ⟨ds, e⟩
    · exact .inr ⟨ds, e⟩
theorem flat_no {x : V} {d : PyData} (h : flatD x = some d) : (∀ ds, d ≠ .list ds) ∧ ∀ ds, d ≠ .tuple ds := by
  cases x <;> simp [flatD] at h <;> subst h <;> exact ⟨fun ds e => (by cases e), fun ds e => (by cases e)⟩
theorem flat_inj {x y : V} {d : PyData} (h1 : flatD x = some d) (h2 : flatD y = some d) : x = y := by
  cases x <;> simp [flatD] at h1 <;> subst h1 <;> cases y <;> simp [flatD] at h2 <;> first | rfl | (subst h2; rfl)
theorem both_flat {n : Nat} {H : Hp} {x y : V} {d : PyData} (h1 : RV n H x d) (h2 : RV n H y d) (hx : ∀ a, x ≠ .ref a) : x = y := by
  have f1 := rv_scal h1 hx
  refine flat_inj f1 (rv_scal h2 fun b e => ?_)
  subst e
  rcases rv_ref h2 with ⟨ds, e⟩ | ⟨ds, e⟩
  · exact (flat_no f1).1 ds e
  · exact (flat_no f1).2 ds e
theorem rel_same {x : V} {u v : Value} {d : PyData} {A : Around} {s : Shared} (hf : flatD x = some d) (r1 : RelV x u) (r2 : RelV x v) : SeqAt.EqAt A s u v true := by
  cases x with
  | non => cases r1; cases r2; exact SeqAt.EqAt.same _
  | bl b => cases r1; cases r2; exact SeqAt.EqAt.same _
  | int i =>
    obtain ⟨t, rfl⟩ := r1
    obtain ⟨t', rfl⟩ := r2
    have := SeqAt.EqAt.int_int (A := A) (s := s) i t i t'
    rw [beq_self_eq_true] at this
    exact this
  | str i =>
    obtain ⟨t, rfl⟩ := r1
    obtain ⟨t', rfl⟩ := r2
    have := SeqAt.EqAt.str_str (A := A) (s := s) i t i t'
    rw [beq_self_eq_true] at this
    exact this
  | _ => cases hf
theorem rv_flat {n : Nat} {H : Hp} {x y : V} {u v : Value} {d : PyData} {A : Around} {s : Shared} (h1 : RV n H x d) (h2 : RV n H y d) (r1 : RelV x u) (r2 : RelV y v) (hx : ∀ a, x ≠ .ref a) : SeqAt.EqAt A s u v true := by
  have e := both_flat h1 h2 hx
  subst e
  exact rel_same (rv_scal h1 hx) r1 r2
theorem eqAt_rv {pins : List (Addr × Obj)} {σ : St} {H : Hp} {s : Shared} (I : Inv X pins σ H s) : ∀ (n : Nat) (A : Around), A.units + n < cLine → ∀ (x y : V) (u v : Value) (d : PyData), RV n H x d → RV n H y d → RelV x u → RelV y v → SeqAt.EqAt A s u v true := by
  intro n
  induction n with
  | zero =>
    intro A hA x y u v d h1 h2 r1 r2
    refine rv_flat h1 h2 r1 r2 fun a e => ?_
    subst e
    exact (show False from h1)
  | succ n ih =>
    intro A hA x y u v d h1 h2 r1 r2
    by_cases hx : ∃ a, x = .ref a
    · obtain ⟨a, rfl⟩ := hx
      by_cases hy : ∃ b, y = .ref b
      · obtain ⟨b, rfl⟩ := hy
        cases r1
        cases r2
        by_cases hab : a = b
        · subst hab; exact SeqAt.EqAt.same _
        have ih' := ih A.in1 (by show A.units + 1 + n < cLine; omega)
        have hu : A.units < cLine := by omega
        cases rdP_of I h1 with
        | lst p1 q1 l1 =>
          cases rdP_of I h2 with
          | lst p2 q2 l2 =>
            obtain ⟨z1, z2⟩ := seq_same (pins := pins) (σ := σ) ih' p1 p2 q1 q2
            have := SeqAt.RcAt.lists (A := A) l1 l2 z1 hu z2
            rw [all_true] at this
            exact SeqAt.EqAt.of_refs hab this
        | tup p1 q1 l1 =>
          cases rdP_of I h2 with
          | tup p2 q2 l2 =>
            obtain ⟨z1, z2⟩ := seq_same (pins := pins) (σ := σ) ih' p1 p2 q1 q2
            have := SeqAt.RcAt.tuples (A := A) l1 l2 hu z2
            rw [all_true, z1, beq_self_eq_true] at this
            exact SeqAt.EqAt.of_refs hab this
      · exact absurd ⟨a, (both_flat h2 h1 fun b e => hy ⟨b, e⟩)⟩ hy
    · exact rv_flat h1 h2 r1 r2 fun a e => hx ⟨a, e⟩
@[irreducible] def hEqR (K : PySem.W.Frag) (a b : Addr) (H : Hp) (Q : Bool → Hp → Prop) : Prop := hEqL K a b H Q ∨ ∃ n d, n ≤ 20 ∧ RV (n + 1) H (.ref a) d ∧ RV (n + 1) H (.ref b) d ∧ Q true H
theorem i_eqI {K : PySem.W.Frag} {a b : Addr} {H : Hp} {Q : Bool → Hp → Prop} {ns ms : List Int} (h1 : SqL K H a (ns.map V.int)) (h2 : SqL K H b (ms.map V.int)) (q : Q (decide (ns = ms)) H) : hEqR K a b H Q := by unfold hEqR; exact .inl (i_eqL h1 h2 q)
def vEqG (K : PySem.W.Frag) (n : Bool → Bool) : R2 := fun x y H Q => match x, y with
  | .int i, .int j => Q (.bl (n (decide (i = j)))) H
  | .str i, .str j => Q (.bl (n (decide (i = j)))) H
  | .bl i, .bl j => Q (.bl (n (decide (i = j)))) H
  | .non, .non => Q (.bl (n true)) H
  | .non, .int _ => Q (.bl (n false)) H
  | .int _, .non => Q (.bl (n false)) H
  | .non, .bl _ => Q (.bl (n false)) H
  | .bl _, .non => Q (.bl (n false)) H
  | .ref a, .ref b => hEqR K a b H fun r H' => Q (.bl (n r)) H'
  | _, _ => False
theorem kEqG {K : PySem.W.Frag} {k : Nat} (hK : X.K = K) (hr : Room k X.A) : OpR X (compareOp .Eq) (vEqG K id) := by
  subst hK
  intro pins s σ H x y v u Q I rx ry h
  cases x <;> cases y <;> first
    | exact (show False from h).elim
    | exact op_eq pins s σ H _ _ v u Q I rx ry ⟨rfl, by rw [dI]; exact h⟩
    | exact op_eq pins s σ H _ _ v u Q I rx ry ⟨rfl, by rw [dS]; exact h⟩
    | exact op_eq pins s σ H _ _ v u Q I rx ry ⟨rfl, by rw [dB]; exact h⟩
    | exact op_eq pins s σ H _ _ v u Q I rx ry ⟨rfl, h⟩
    | skip
  rename_i a b
  have h := (show hEqR X.K a b H _ from h)
  unfold hEqR at h
  rcases h with h | ⟨n, d, hn, h1, h2, q⟩
  · unfold hEqL at h; obtain ⟨xs, ys, h1, h2, h3⟩ := h; exact op_eqI hr pins s σ H _ _ v u Q I rx ry ⟨_, _, xs, ys, rfl, rfl, h1, h2, h3⟩
  · cases rx
    cases ry
    have hu := hr.units
    have ih := eqAt_rv I n X.A.in1 (by show X.A.units + 1 + n < cLine; omega)
    cases rdP_of I h1 with
    | lst p1 q1 l1 =>
      cases rdP_of I h2 with
      | lst p2 q2 l2 =>
        obtain ⟨z1, z2⟩ := seq_same (pins := pins) (σ := σ) ih p1 p2 q1 q2
        exact SeqAt.eq_listAt l1 l2 z1 (by omega) z2 (by rw [all_true]; exact ⟨.bl true, H, I, rfl, q⟩)
    | tup p1 q1 l1 =>
      cases rdP_of I h2 with
      | tup p2 q2 l2 =>
        obtain ⟨z1, z2⟩ := seq_same (pins := pins) (σ := σ) ih p1 p2 q1 q2
        exact SeqAt.eq_tupleAt l1 l2 (by omega) z2 (by rw [all_true, z1, beq_self_eq_true]; exact ⟨.bl true, H, I, rfl, q⟩)
theorem kNeG {K : PySem.W.Frag} {k : Nat} (hK : X.K = K) (hr : Room k X.A) : OpR X (compareOp .NotEq) (vEqG K not) := by
  subst hK
  intro pins s σ H x y v u Q I rx ry h
  cases x <;> cases y <;> first
    | exact (show False from h).elim
    | exact op_ne pins s σ H _ _ v u Q I rx ry ⟨rfl, by rw [dI]; exact h⟩
    | exact op_ne pins s σ H _ _ v u Q I rx ry ⟨rfl, by rw [dS]; exact h⟩
    | exact op_ne pins s σ H _ _ v u Q I rx ry ⟨rfl, by rw [dB]; exact h⟩
    | exact op_ne pins s σ H _ _ v u Q I rx ry ⟨rfl, h⟩
    | skip
  rename_i a b
  have h := (show hEqR X.K a b H _ from h)
  unfold hEqR at h
  have hu := hr.units
  rcases h with h | ⟨n, d, hn, h1, h2, q⟩
  · unfold hEqL at h
    obtain ⟨ns, ms, h1, h2, qq⟩ := h
    cases rx; cases ry
    obtain ⟨its, r1, p1, _⟩ := I.list h1
    obtain ⟨its2, r2, p2, _⟩ := I.list h2
    have i1 := intsAre_of r1
    have i2 := intsAre_of r2
    have l1 := r1.length
    have l2 := r2.length
    rw [List.length_map] at l1 l2
    by_cases hl : ns.length = ms.length
    · refine SeqAt.RcNeAt.lists (e := fun j => decide (ns.getD j 0 = ms.getD j 0)) p1.isList p2.isList (by simp only [List.size_toArray]; omega) hr.units0 (fun j a1 a2 => ?_) _ _ _ _ ?_
      · obtain ⟨t1, e1⟩ := ints_at i1 j a1
        obtain ⟨t2, e2⟩ := ints_at i2 j a2
        rw [e1, e2]
        have := SeqAt.EqAt.int_int (A := X.A.in1) (s := s) (ns.getD j 0) t1 (ms.getD j 0) t2
        rw [Bool.beq_eq_decide_eq] at this
        exact this
      · rw [show its.toArray.size = ns.length by simp only [List.size_toArray]; omega, all_range_eq ns ms hl]
        exact ⟨.bl _, H, I, rfl, qq⟩
    · refine SeqAt.RcNeAt.lists_lengths p1.isList p2.isList (by simp only [List.size_toArray, bne_iff_ne]; omega) hr.units0 _ _ _ _ ⟨.bl true, H, I, rfl, ?_⟩
      have : decide (ns = ms) = false := decide_eq_false fun e => hl (by rw [e])
      rw [this] at qq
      exact qq
  · cases rx
    cases ry
    have ih := eqAt_rv I n X.A.in1 (by show X.A.units + 1 + n < cLine; omega)
    cases rdP_of I h1 with
    | lst p1 q1 l1 =>
      cases rdP_of I h2 with
      | lst p2 q2 l2 =>
        obtain ⟨z1, z2⟩ := seq_same (pins := pins) (σ := σ) ih p1 p2 q1 q2
        exact SeqAt.RcNeAt.lists l1 l2 z1 (by omega) z2 _ _ _ _ (by rw [all_true]; exact ⟨.bl false, H, I, rfl, q⟩)
    | tup p1 q1 l1 =>
      cases rdP_of I h2 with
      | tup p2 q2 l2 =>
        obtain ⟨z1, z2⟩ := seq_same (pins := pins) (σ := σ) ih p1 p2 q1 q2
        exact SeqAt.RcNeAt.tuples l1 l2 (by omega) z2 _ _ _ _ (by rw [all_true, z1, beq_self_eq_true]; exact ⟨.bl false, H, I, rfl, q⟩)
end
end L2

set_option linter.all false
set_option Elab.async false
set_option maxRecDepth 100000
set_option maxHeartbeats 4000000
namespace L2
open PySem PySem.Spec PyProof.Rows
/-! ### range as a value, list(range(..)) -/
section
variable {X : Cx}
end
end L2

set_option linter.all false
set_option Elab.async false
set_option maxRecDepth 100000
set_option maxHeartbeats 4000000
namespace L2
open PySem PySem.Spec PyProof.Rows
/-! ### xs[::-1] -/
section
variable {X : Cx} {e st : Expr} {te : TE} {ts : TO} {p2 pos : Pos} {K : PySem.W.Frag}
@[irreducible] def hRev (K : PySem.W.Frag) (a : Addr) (H : Hp) (Q : VK) : Prop := ∃ xs, SqL K H a xs ∧ ∀ p, H p = none → Q (.ref p) (upd H p (.lst xs.reverse))
theorem i_rev {a : Addr} {H : Hp} {Q : VK} {xs : List V} (h : SqL K H a xs) (q : ∀ p H', H p = none → Same H H' → H' p = some (.lst xs.reverse) → Q (.ref p) H') : hRev K a H Q := by
  unfold hRev; exact ⟨xs, h, fun p hp => q p _ hp (same_upd hp) upd_same⟩
def mRev (K : PySem.W.Frag) (te : TE) (ts : TO) : TE := fun σ H Q => te σ H fun x H1 => ts σ H1 fun s H2 => match x, s with
  | .ref a, some k => k = -1 ∧ hRev K a H2 Q
  | _, _ => False
theorem Vals.rev : ∀ {xs : List V} {us : List Value}, Vals xs us → Vals xs.reverse us.reverse
  | _, _, .nil => .nil
  | _, _, .cons r t => by rw [List.reverse_cons, List.reverse_cons]; exact (Vals.rev t).append (.cons r .nil)
theorem qe_rev (hK : X.K = K) (he : QE X e te) (hs : QO X (some st) ts) (hsub : ∀ v sl, subscripted (.Slice none none (some st) p2) false v sl = operate [v, sl] (getItem v sl) := by intro _ _; rfl) : QE X (.Subscript e (.Slice none none (some st) p2) pos) (mRev K te ts) := ⟨by
  subst hK
  intro pins s σ H Q I h
  refine Subscript_ (thn (he.h pins s σ H _ I h) fun v s1 ⟨x, H1, I1, r1, q1⟩ => ?_)
  refine wpAny_Slice ?_
  rw [evalPart_none]
  refine wpAny_pure ?_
  refine wpAny_pure ?_
  refine thn (hs.h pins s1 σ H1 _ I1 q1) fun vk s2 ⟨k, H2, I2, pk, q2⟩ => ?_
  have I3 : Inv X pins σ H2 { s2 with heap := s2.heap.push { cls := .type "slice", data := .fields #[.none, .none, vk] } } := I2.kept (t' := s2.toks) fun b ob q => Heap.get?_push_of_some _ q
  cases x with
  | ref a =>
    cases k with
    | none => exact (show False from q2).elim
    | some k =>
      obtain ⟨rfl, q⟩ := (show k = -1 ∧ hRev X.K a H2 Q from q2)
      unfold hRev at q
      obtain ⟨xs, hx, q⟩ := q
      cases r1
      obtain ⟨its, r, ht, hz⟩ := I3.list hx
      have hlen := r.length
      have hg : wpAny (model X.prog X.w) X.A (getItem (.ref a) (.ref s2.heap.objs.size)) (EP X pins σ Q) X.xe { s2 with heap := s2.heap.push { cls := .type "slice", data := .fields #[.none, .none, vk] } } := by
        refine wpAny_getItem_list_slice ht.isList (Heap.IsSliceOf.new ..) .none .none pk (by decide) ?_ (by rw [List.size_toArray]; omega)
        rw [PySem.W.krv_pick]
        refine ⟨.ref _, _, I3.laid (t' := s2.toks) (o := .lst xs.reverse) (fun b ob q => Heap.get?_push_of_some _ q) (Nat.le_refl _) ?_, rfl, q _ (I3.hok.fresh (Nat.le_refl _))⟩
        exact ⟨by rw [List.length_reverse]; exact hz, _, 0, Vals.rev r, Heap.get?_push_size _ rfl⟩
      exact tail_any (ops := [.ref a, .ref s2.heap.objs.size]) (ht.isList.typeIs) slot_list_getitem.lookup hg (hsub _ _)
  | _ => exact (show False from q2).elim⟩
end
end L2

set_option linter.all false
set_option Elab.async false
set_option maxRecDepth 100000
set_option maxHeartbeats 4000000
namespace L2
open PySem PySem.Spec PyProof.Rows
/-! ### a = b = e; names unpacked out of a list -/
section
variable {X : Cx} {K : PySem.W.Frag} {e t1 t2 : Expr} {es : List Expr} {te : TE} {pos p p2 : Pos}
end
end L2

set_option linter.all false
set_option Elab.async false
set_option maxRecDepth 100000
set_option maxHeartbeats 4000000
namespace L2
open PySem PySem.Spec PyProof.Rows
/-! ### xs.pop(i), abs -/
section
variable {X : Cx}
@[irreducible] def hPopAt (a : Addr) (i : Int) (H : Hp) (Q : VK) : Prop := ∃ xs k y, H a = some (.lst xs) ∧ -(2 ^ 63) ≤ i ∧ i < 2 ^ 63 ∧ seqIndex? i xs.length = some k ∧ xs[k]? = some y ∧ Q y (upd H a (.lst (xs.eraseIdx k)))
def vPopAt : V → List V → Hp → VK → Prop := fun x vs H Q => match x, vs with
  | .ref a, [.int i] => hPopAt a i H Q
  | _, _ => False
theorem mtPopAt : MtM X "list.pop" vPopAt := by
  intro pins s σ H x vs v us Q I rx rv h
  unfold vPopAt at h
  split at h
  · unfold hPopAt at h; obtain ⟨xs, k, y, h1, h2, h3, h4, h5, h6⟩ := h; exact mt_popAt pins s σ H _ _ v us Q I rx rv ⟨_, xs, _, k, y, rfl, rfl, h1, h2, h3, h4, h5, h6⟩
  · exact h.elim
theorem i_popAt {a : Addr} {i : Int} {H : Hp} {Q : VK} {xs : List V} {y : V} (k : Nat) (h : H a = some (.lst xs)) (hi : i = k) (hk : k < 1000000) (e : xs[k]? = some y) (q : ∀ H', Kp [a] H H' → H' a = some (.lst (xs.eraseIdx k)) → Q y H') : hPopAt a i H Q := by
  have hl : k < xs.length := (List.getElem?_eq_some_iff.mp e).1
  subst hi
  unfold hPopAt
  refine ⟨xs, k, y, h, by omega, by omega, ?_, e, q _ kp_upd upd_same⟩
  unfold seqIndex?
  have e1 : ¬ ((k : Int) < 0) := by omega
  simp only [if_neg e1]
  rw [if_pos (by simp; omega)]
  simp
def vAbs : List V → Hp → VK → Prop := fun xs H Q => match xs with
  | [.int i] => Q (.int (if i < 0 then -i else i)) H
  | _ => False
theorem callAbs : CallR X (.builtin "abs") vAbs := call_abs.imp fun xs H Q h => by
  unfold vAbs at h; split at h
  · exact ⟨_, rfl, h⟩
  · exact h.elim
end
end L2

set_option linter.all false
set_option Elab.async false
set_option maxRecDepth 100000
set_option maxHeartbeats 4000000
namespace L2
open PySem PySem.Spec PyProof.Rows
section
variable {g : TG} {tt : TT} {te : TE} {σ0 : St} {H1 : Hp} {Q : Addr → Hp → Prop} {K : PySem.W.Frag}
end
end L2

set_option linter.all false
set_option Elab.async false
set_option maxRecDepth 100000
set_option maxHeartbeats 4000000
namespace L2
open PySem PySem.Spec PyProof.Rows
/-! ### is True, is not True -/
section
variable {X : Cx}
end
end L2

set_option linter.all false
set_option maxRecDepth 100000
namespace L2
open PySem PySem.Spec PyProof.Rows
section
variable {X : Cx}
/-! ### range of one number as a value -/
end
end L2

set_option linter.all false
set_option Elab.async false
set_option maxRecDepth 100000
set_option maxHeartbeats 4000000
namespace L2
open PySem PySem.Spec PyProof.Rows
/-! ### own classes: fields, methods, making; xs[a:b] = ys; pop(), extend; a number kept by a name of the module -/
section
variable {X : Cx} {K : PySem.W.Frag} {e o value : Expr} {es : List Expr} {te ta tv to : TE} {t : TA} {pos p p2 pos' apos : Pos} {f m x : Str} {C : Addr}
/-- a method of the class at C -/
structure Mth (P : Program) (w : World) (K : PySem.W.Frag) (mg : Str → Option Value) (base : Heap) (k : Nat) (C : Addr) (m : Str) (ps : List Str) (sp : Sp) : Prop where
  cl : Cls K C
  ex : ∃ f fd, FnOk P w K mg base CX0 k f fd ps sp ∧ Binds K fd ps [] ∧ Meth K C m f
/-- a class that can be made, by its __init__ -/
structure Mkd (P : Program) (w : World) (K : PySem.W.Frag) (mg : Str → Option Value) (base : Heap) (k : Nat) (C : Addr) (x : Str) (ps : List Str) (sp : Sp) : Prop where
  ex : ∃ f fd, FnOk P w K mg base CX0 k f fd ps sp ∧ Binds K fd ps [] ∧ Mk K C f ∧ mg x = some (.ref C)
/-- a number kept by a name of the module -/
structure KNum (mg : Str → Option Value) (x : Str) (n : Int) : Prop where
  ex : ∃ t, mg x = some (.int n t)
/-! xs[a:b] = ys -/
/-! xs.pop(), xs.extend(ys) -/
/-! == and != with an empty list -/
end
end L2

set_option linter.all false
set_option Elab.async false
namespace L2
open PySem
section
variable {X : Cx} {K : PySem.W.Frag}
end
end L2

set_option linter.all false
set_option Elab.async false
set_option maxRecDepth 100000
set_option maxHeartbeats 4000000
namespace L2
open PySem PySem.Spec PyProof.Rows
/-! ### texts: str(n), len, index, for over a text, not in, int, join, split; None in a list of numbers; a text kept by a name of the module -/
section
variable {X : Cx} {K : PySem.W.Frag} {a b e : Expr} {ta tb te : TE} {pos p p2 : Pos} {x : Str}
/-! join -/
/-! split -/
/-! a text kept by a name of the module -/
structure KTxt (mg : Str → Option Value) (x : Str) (z : Str) : Prop where
  ex : ∃ t, mg x = some (.str z t)
end
/-! for over a text -/
section
variable {X : Cx} {tg e : Expr} {te : TE}
end
end L2

set_option linter.all false
set_option Elab.async false
set_option maxRecDepth 100000
set_option maxHeartbeats 4000000
namespace L2
open PySem PySem.Spec PyProof.Rows
/-! ### exceptions: raise, and how one passes the frames -/
theorem ObjOk.has {P : Program} {w : World} {H : Hp} {h : Heap} {a : Addr} {o : HO} (x : ObjOk P w H h a o) : ∃ ob, h.get? a = some ob := by
  cases o with
  | lst xs => obtain ⟨_, _, _, _, e⟩ := x; exact ⟨_, e⟩
  | tup xs => obtain ⟨_, _, _, ob, e, _⟩ := x; exact ⟨_, e⟩
  | dK kvs => obtain ⟨_, _, _, _, o, _, _, e, _⟩ := x; exact ⟨_, e⟩
  | dT kvs => obtain ⟨_, _, _, _, o, _, _, e, _⟩ := x; exact ⟨_, e⟩
  | set S n => obtain ⟨o, _, _, _, e, _⟩ := x; exact ⟨_, e⟩
  | ins C dx fs => obtain ⟨_, _, _, e, _⟩ := x; exact ⟨_, e⟩
  | own y => obtain ⟨_, e⟩ := x; exact ⟨_, e⟩
  | xd fs => obtain ⟨_, ⟨_, _, _, e, _⟩, _⟩ := x; exact ⟨_, e⟩
  | rng lo hi => obtain ⟨_, _, _, e⟩ := x; exact ⟨_, e⟩
  | frz ob u => obtain ⟨e, _⟩ := x; exact ⟨_, e⟩
  | tbl ps => exact ⟨_, show h.get? a = some _ from x⟩
  | met f y => exact ⟨_, show h.get? a = some _ from x⟩
  | ext φ => obtain ⟨_, ⟨_, e⟩, _⟩ := x; exact ⟨_, e⟩
/-- an exception flies behind a call: the frames l are still to be passed; all that stands and is no frame is within B, which stays -/
structure Flies (P : Program) (w : World) (l : List Env) (H : Hp) (h0 : Heap) (e : Addr) (cls : Value) (H' : Hp) (h : Heap) : Prop where
  un : Un (frs l) [] H H' h0 h
  hok : HOk P w H' h
  ex : ∃ B t, Heap.FlyingW B l e cls (.ref t) h ∧ (∀ b o, H' b ≠ none → h.get? b = some o → B.get? b = some o) ∧ (∀ b o, h0.get? b = some o → H b = none → b ∉ frs l → B.get? b = some o) ∧
    ∀ b o, h0.get? b = some o → b ∉ frs l → ∃ o', B.get? b = some o'
  en : H' e = none
  new : h0.get? e = none
def CXe (P : Program) (w : World) : CXT := fun l H s E ev s' => ∃ (e : Addr) (cls : Value) (H' : Hp), ev = .ref e ∧ s'.os = s.os ∧ AllBare s'.gens ∧ Flies P w l H s.heap e cls H' s'.heap ∧ E cls none H'
section
variable {P : Program} {w : World} {K : PySem.W.Frag} {mg : Str → Option Value} {base : Heap} {N : List Str} {qual : Str} {scope : Scope} {f : Addr} {cd : Value} {A : Around} {outer : List Env} {s0 : Shared} {H0 : Hp} {E : XK}
/-- a body from which exceptions go out, as E wants them -/
abbrev cxE (P : Program) (w : World) (K : PySem.W.Frag) (mg : Str → Option Value) (base : Heap) (N : List Str) (qual : Str) (scope : Scope) (f : Addr) (cd : Value) (A : Around) (outer : List Env) (s0 : Shared) (H0 : Hp) (E : XK) : Cx := cxOf (CXe P w) P w K mg base N qual scope f cd A outer s0 H0 E
end
end L2

set_option linter.all false
set_option Elab.async false
set_option maxRecDepth 100000
set_option maxHeartbeats 4000000
namespace L2
open PySem PySem.Spec PyProof.Rows
/-! ### raise C(text) of a class of one's own under ValueError; defs from which exceptions go out -/
abbrev bmV : List Value := [.type "ValueError", .type "Exception", .type "BaseException", .type "object"]
/-- a class of one's own under ValueError, by the written part -/
structure ExC (K : PySem.W.Frag) (mg : Str → Option Value) (x : Str) (C : Addr) : Prop where
  bound : mg x = some (.ref C)
  cls : PySem.W.excIn K C bmV "ValueError.__new__" = true
section
variable {X : Cx} {e : Expr} {es : List Expr} {t : TA} {x : Str} {C : Addr} {np cpos pos p : Pos} {E : XK}
end
/-- a def from which exceptions may go out -/
structure DefX (P : Program) (w : World) (K : PySem.W.Frag) (mg : Str → Option Value) (base : Heap) (k : Nat) (x : Str) (ps : List Str) (sp : Sp) : Prop where
  ex : ∃ f fd, FnOk P w K mg base (CXe P w) k f fd ps sp ∧ Binds K fd ps [] ∧ PySem.W.keepIn K (.ref f) = true ∧ mg x = some (.ref f)
end L2

set_option linter.all false
set_option Elab.async false
set_option maxRecDepth 100000
set_option maxHeartbeats 4000000
namespace L2
open PySem PySem.Spec PyProof.Rows
/-! ### an exception caught -/
/-- an exception, known by its class -/
def exo (cls : Value) (e : Addr) : HO := .ext fun h => ∃ ob, h.get? e = some ob ∧ ob.cls = cls
/-- within an except suite -/
abbrev Cx.caught (X : Cx) (e : Addr) : Cx := { X with A := X.A.mark (some (.ref e)), calm := false, xe := fun _ _ => False }
section
variable {X : Cx} {pins : List (Addr × Obj)} {σ : St} {H H' : Hp} {s s' : Shared} {e : Addr} {cls : Value}
end
end L2

set_option linter.all false
set_option Elab.async false
set_option maxRecDepth 100000
set_option maxHeartbeats 4000000
namespace L2
open PySem PySem.Spec PyProof.Rows
/-! ### try: z = f(..) / f(..), except C as n: suite -/
section
variable {X : Cx} {pins : List (Addr × Obj)} {σ : St} {H H1 : Hp} {s s1 s' : Shared} {Q : VK} {Ex : XK} {x y n : Str} {e : Expr} {es : List Expr} {t : TA} {p pos np hpos cpos apos p1 tpos : Pos} {ps : List Str} {sp : Sp} {k k2 j : Nat} {C : Addr} {b0 : Stmt} {suite : List Stmt} {su : TS} {D : Ends} {ev : Value}
end
end L2

set_option linter.all false
set_option Elab.async false
set_option maxRecDepth 100000
set_option maxHeartbeats 2000000
namespace L2
open PySem PySem.Spec PyProof.Rows PySem.W
/-! ### isinstance of an exception of one's own class -/
/-- what isinstance asks of such a class -/
structure ExI (K : Frag) (C : Addr) : Prop where
  own : excIn K C bmV "ValueError.__new__" = true
  cl : findIn K (.ref C) "__class__" = some (some (.builtin "object.__class__"))
  ob : mroIn K C (.type "object") = some true
  be : mroIn K C (.type "BaseException") = some true
  ga : findIn K (.ref C) "__getattribute__" = some (some (.builtin "BaseException.__getattribute__"))
  gn : findIn K (.ref C) "__getattr__" = some none
section
variable {prog : Program} {w : World} {A : Around} {E : Value → Shared → Prop} {K : Frag} {h : Heap} {g : Array GenState} {d : Drawn} {t : Nat} {os : OsState} {a C : Addr}
end
end L2

set_option linter.all false
set_option Elab.async false
set_option maxRecDepth 100000
set_option maxHeartbeats 2000000
namespace L2
open PySem PySem.Spec PyProof.Rows
section
variable {X : Cx} {K : PySem.W.Frag} {x : Str} {C : Addr} {pos : Pos}
end
end L2

set_option linter.all false
set_option Elab.async false
set_option maxRecDepth 100000
set_option maxHeartbeats 2000000
namespace L2
open PySem PySem.Spec PyProof.Rows
/-! ### a sign in a text, as a test -/
section
variable {X : Cx} {a b : Expr} {ta tb : TE} {pos : Pos}
end
end L2

set_option linter.all false
set_option Elab.async false
set_option maxRecDepth 100000
set_option maxHeartbeats 2000000
namespace L2
open PySem PySem.Spec PyProof.Rows
/-! ### a piece of a text -/
section
variable {X : Cx} {e : Expr} {te : TE} {pos p2 : Pos}
end
end L2

set_option linter.all false
set_option Elab.async false
set_option maxRecDepth 100000
set_option maxHeartbeats 2000000
namespace L2
open PySem PySem.Spec PyProof.Rows
/-! ### a sign so many times -/
section
variable {X : Cx}
end
end L2

set_option linter.all false
set_option Elab.async false
set_option maxRecDepth 100000
set_option maxHeartbeats 2000000
namespace L2
open PySem PySem.Spec PyProof.Rows
/-! ### more numbers shown; [text] * k -/
end L2

set_option linter.all false
set_option Elab.async false
set_option maxRecDepth 100000
set_option maxHeartbeats 2000000
namespace L2
open PySem PySem.Spec PyProof.Rows
/-! ### all of a list of truths -/
section
variable {X : Cx} {K : PySem.W.Frag}
end
end L2

set_option linter.all false
set_option Elab.async false
set_option maxRecDepth 100000
set_option maxHeartbeats 4000000
namespace L2
open PySem PySem.Spec PyProof.Rows
/-! ### exceptions: what does not raise within what does; a def that raises, asked where it does not; methods that raise; except without a name -/
section
variable {X : Cx}
end
/-- a method from which exceptions may go out -/
structure MthX (P : Program) (w : World) (K : PySem.W.Frag) (mg : Str → Option Value) (base : Heap) (k : Nat) (C : Addr) (m : Str) (ps : List Str) (sp : Sp) : Prop where
  cl : Cls K C
  ex : ∃ f fd, FnOk P w K mg base (CXe P w) k f fd ps sp ∧ Binds K fd ps [] ∧ Meth K C m f
section
variable {X : Cx} {C : Addr} {m : Str} {e o : Expr} {es : List Expr} {to : TE} {t : TA} {pos apos : Pos} {E : XK}
end
section
variable {X : Cx} {pins : List (Addr × Obj)} {σ : St} {H H1 : Hp} {s s1 s' : Shared} {Q : VK} {Ex : XK} {x y n m : Str} {e o : Expr} {es : List Expr} {t : TA} {to : TE} {p pos np hpos cpos apos p1 tpos : Pos} {ps : List Str} {sp : Sp} {k k2 j : Nat} {C : Addr} {b0 : Stmt} {suite : List Stmt} {su : TS} {D : Ends} {ev : Value}
end
end L2

set_option linter.all false
set_option Elab.async false
set_option maxRecDepth 100000
set_option maxHeartbeats 4000000
namespace L2
open PySem PySem.Spec PyProof.Rows
/-! ### a comprehension over a text -/
section
variable {g : TG} {tt : TT} {te : TE} {σ0 : St} {H1 : Hp} {Q : Addr → Hp → Prop} {K : PySem.W.Frag}
end
end L2

set_option linter.all false
set_option Elab.async false
set_option maxRecDepth 100000
set_option maxHeartbeats 4000000
namespace L2
open PySem PySem.Spec PyProof.Rows PySem.W
/-! ### things known by their class alone: a dict, an exception as a value; isinstance of them -/
section
variable {prog : Program} {w : World} {A : Around} {E : Value → Shared → Prop} {h : Heap} {g : Array GenState} {d : Drawn} {t : Nat} {os : OsState} {a : Addr} {o : Obj} {K : Frag}
theorem ve_get {R : Result → Shared → Prop} (hx : h.get? a = some o) (hc : o.cls = .type "ValueError") (hq : R (.ok (.ret (.type "ValueError"))) ⟨h, g, d, t, os⟩) :
    codeAny (model prog w) A (.call (.builtin "getset_descriptor.__get__") ⟨[.builtin "object.__class__", .ref a, .type "ValueError"], []⟩) R ⟨h, g, d, t, os⟩ := by
  have hT : (⟨h, g, d, t, os⟩ : Shared).TypeIs (.ref a) "ValueError" := ⟨_, hx, hc⟩
  have f8 : isSubtype (.type "ValueError") (.type (".".intercalate ("object.__class__".cutAt '.').dropLast)) = pure true := by
    have ow : ".".intercalate ("object.__class__".cutAt '.').dropLast = "object" := by decide +kernel
    rw [ow, isSubtype_type]; kernel_rfl
  refine codeAny_call_builtin (PySem.W.KF.slot_gs).plain (PySem.W.KF.entry_gs) ((PySem.W.KF.slot_gs).check _ _ _ _ _ _ _ _ (PySem.W.KF.type_class) (PySem.W.KF.args_gs _ _ _) ?_)
  repeat (any_goals (first | assumption | wp_step))
  constructor
  · exact Code.quiet_builtin _ (by decide +kernel)
  refine codeAny_builtin (PySem.W.KF.entry_class) ?_
  unfold Builtin.«object.__class__» shownTypeOf
  repeat (any_goals (first | assumption | wp_step))
theorem ve_call {tk : Tok} {R : Result → Shared → Prop} (hx : h.get? a = some o) (hc : o.cls = .type "ValueError") (hq : R (.ok (.ret (.type "ValueError"))) ⟨h, g, d, t, os⟩) :
    codeAny (model prog w) A (.call (.builtin "BaseException.__getattribute__") ⟨[.ref a, .str "__class__" tk], []⟩) R ⟨h, g, d, t, os⟩ := by
  have hT : (⟨h, g, d, t, os⟩ : Shared).TypeIs (.ref a) "ValueError" := ⟨_, hx, hc⟩
  have g5 : typeOf (.builtin "object.__class__") = pure (.type "getset_descriptor") := by show builtinType _ = _; rw [builtinType_eq_fast]; kernel_rfl
  have g6 := PySem.F.slot_gs_get.lookup
  have g7 := PySem.F.slot_gs_set.lookup
  have l1 : typeLookup (.type "ValueError") "__class__" = pure (some (.builtin "object.__class__")) := by rw [typeLookup_type, builtinLookup_eq_fast]; kernel_rfl
  refine codeAny_call_builtin PySem.F.attr_ValueError.ga.plain PySem.F.entry_bexc_ga (PySem.F.attr_ValueError.ga.check _ _ _ _ _ _ _ _ hT (PySem.F.args_bexc_ga _ _) ?_)
  repeat (any_goals (first | assumption | wp_step))
  refine ve_get hx hc ?_
  repeat (any_goals (first | assumption | wp_step))
theorem class_attr_ve {Q : Option Value → Shared → Prop} (hx : h.get? a = some o) (hc : o.cls = .type "ValueError") (hq : Q (some (.type "ValueError")) ⟨h, g, d, t + 1, os⟩) : wpAny (model prog w) A (getAttr? (.ref a) "__class__") Q E ⟨h, g, d, t, os⟩ := by
  have hT : (⟨h, g, d, t + 1, os⟩ : Shared).TypeIs (.ref a) "ValueError" := ⟨_, hx, hc⟩
  have vc : ∀ {A : Around} {tk : Tok} {R : Result → Shared → Prop}, R (.ok (.ret (.type "ValueError"))) ⟨h, g, d, t + 1, os⟩ → codeAny (model prog w) A (.call (.builtin "BaseException.__getattribute__") ⟨[.ref a, .str "__class__" tk], []⟩) R ⟨h, g, d, t + 1, os⟩ := fun hq => ve_call hx hc hq
  obtain ⟨oc, od, oda, osl⟩ := o
  dsimp only at hc
  subst hc
  have l1 := PySem.F.attr_ValueError.ga.lookup
  have l2 : typeLookup (.type "ValueError") "__getattr__" = pure none := by rw [typeLookup_type, builtinLookup_eq_fast]; kernel_rfl
  have n2 : (Value.builtin "BaseException.__getattribute__" == Value.builtin "object.__getattribute__") = false := by decide +kernel
  have b3 := PySem.F.attr_ValueError.ga.bind (.ref a)
  unfold getAttr? getAttrBy? getAttrBy
  repeat (any_goals (first | assumption | wp_step))
  refine vc ?_
  repeat (any_goals (first | assumption | wp_step))
theorem kitx_ve : KitX K (.ref a) (.type "ValueError") (KitAt a "ValueError") := kitx_of kitAt_ty (fun {_ _ _ _ _ s} p k => by obtain ⟨h, g, d, t, os⟩ := s; obtain ⟨o, h1, h2⟩ := p; exact class_attr_ve h1 h2 k)
end
section
variable {X : Cx} {pins : List (Addr × Obj)} {σ : St} {H : Hp} {s : Shared} {h' : Heap} {e : Addr} {cls : Value} {K : Frag}
/-- something new, known by its class -/
theorem Inv.laidE {tk : Nat} (I : Inv X pins σ H s) (k : ∀ b u, s.heap.get? b = some u → h'.get? b = some u) (new : s.heap.get? e = none) (th : ∃ ob, h'.get? e = some ob ∧ ob.cls = cls) :
    H e = none ∧ Inv X pins σ (upd H e (exo cls e)) { s with heap := h', toks := tk } := by
  have hn : H e = none := by
    cases hb : H e with
    | none => rfl
    | some u => obtain ⟨ob, e1⟩ := (I.hok e u hb).has; rw [new] at e1; cases e1
  have ne : ∀ b u, H b = some u → b ≠ e := fun b u q z => by subst z; rw [hn] at q; cases q
  refine ⟨hn, I.call' (s' := { s with heap := h', toks := tk }) (ch := []) rfl ⟨?_, ?_, ?_, ?_, ?_, ?_, ?_⟩ ?_ I.bare (fun _ z => nomatch z)⟩
  · exact fun b o q _ _ _ => k b o q
  · exact fun b o q _ _ _ => ⟨o.slots, k b o q⟩
  · intro b o q n he
    rw [upd_ne (fun z => by subst z; rw [new] at q; cases q)]
    exact n
  · exact fun b o q _ => ⟨o, k b o q⟩
  · intro b xs q
    rw [upd_ne (ne b _ q)]; exact q
  · intro b o u q
    rw [upd_ne (ne b _ q)]; exact q
  · intro b ps q
    exact ⟨#[], by rw [upd_ne (ne b _ q), q]; simp⟩
  · intro a o q
    by_cases ha : a = e
    · subst ha
      rw [upd_same] at q; cases q
      obtain ⟨ob, e1, e2⟩ := th
      exact ⟨⟨ob, e1, e2⟩, ⟨ob, e1⟩, fun h1 h2 ⟨ob, x1, x2⟩ k => ⟨ob, k _ x1, x2⟩⟩
    · rw [upd_ne ha] at q
      exact (I.hok a o q).stay (fun b u hb q2 => k b u q2) (fun b z => by rw [upd_ne (ne b _ z)]; exact z) (fun b _ z => by rw [upd_ne (ne b _ z)]; exact z)
@[irreducible] def hNewE (T : String) (H : Hp) (Q : VK) : Prop := ∀ p, H p = none → Q (.ref p) (upd H p (exo (.type T) p))
theorem i_newE {T : String} {H : Hp} {Q : VK} (q : ∀ p H', H p = none → Same H H' → H' p = some (exo (.type T) p) → Q (.ref p) H') : hNewE T H Q := by unfold hNewE; exact fun p hp => q p _ hp (same_upd hp) upd_same
/-- an exception as a value -/
def vNewVE : List V → Hp → VK → Prop := fun xs H Q => xs.length ≤ 100 ∧ hNewE "ValueError" H Q
theorem callVE : CallR X (.type "ValueError") vNewVE := by
  intro pins s σ H xs us Q I r h
  obtain ⟨hl, h⟩ := h
  unfold hNewE at h
  refine call_exc excClass_ValueError (fun h' e n => ?_) (by rw [← r.length]; exact sz_of (by omega))
  obtain ⟨hn, I2⟩ := I.laidE (tk := s.toks) n.keeps n.new (let ⟨ob, _, q1, q2, _⟩ := n.there; ⟨ob, q1, q2⟩)
  exact ⟨.ref e, _, I2, rfl, h e hn⟩
/-- isinstance of any of these things -/
@[irreducible] def hIsiG (K : Frag) (x : V) (c : String) (H : Hp) (Q : VK) : Prop := hIsi K x c H Q ∨ ∃ a T, x = .ref a ∧ H a = some (exo (.type T) a) ∧ (T = "dict" ∨ T = "ValueError") ∧ (c = "int" ∨ c = "bool" ∨ c = "list" ∨ c = "str" ∨ c = "tuple") ∧ Q (.bl false) H
theorem i_isiG {K : Frag} {x : V} {c : String} {H : Hp} {Q : VK} (h : hIsi K x c H Q) : hIsiG K x c H Q := by unfold hIsiG; exact .inl h
theorem i_isiE {K : Frag} {a : Addr} {c T : String} {H : Hp} {Q : VK} (h : H a = some (exo (.type T) a)) (ht : T = "dict" ∨ T = "ValueError") (hc : c = "int" ∨ c = "bool" ∨ c = "list" ∨ c = "str" ∨ c = "tuple") (q : Q (.bl false) H) : hIsiG K (.ref a) c H Q := by unfold hIsiG; exact .inr ⟨a, T, rfl, h, ht, hc, q⟩
def vIsiG (K : Frag) : List V → Hp → VK → Prop := fun xs H Q => match xs with
  | [x, .ty c] => hIsiG K x c H Q
  | _ => False
theorem kIsiG (hK : X.K = K) : CallR X (.builtin "isinstance") (vIsiG K) := by
  subst hK
  intro pins s σ H xs us Q I rv h
  unfold vIsiG at h; split at h
  · rename_i x c
    unfold hIsiG at h
    rcases h with h | ⟨a, T, rfl, ha, ht, hc, q⟩
    · exact callIsi pins s σ H _ us Q I rv h
    · obtain ⟨u, v, rfl, ru, rw2⟩ := rv.two
      cases ru
      cases rw2
      obtain ⟨⟨ob, p1, p2⟩, _, _⟩ := (show ObjOk X.prog X.w H s.heap _ (exo (.type T) a) from I.hok _ _ ha)
      rcases ht with rfl | rfl
      · exact PySem.W.kia_one PySem.W.kitx_dict I.kIn ⟨ob, p1, p2⟩ (show kitOne X.K (.type "dict") (.type c) = some false by rcases hc with rfl | rfl | rfl | rfl | rfl <;> rfl) (fun z => nomatch z) fun tk => ⟨.bl false, H, I.tok _, rfl, q⟩
      · exact PySem.W.kia_one kitx_ve I.kIn ⟨ob, p1, p2⟩ (show kitOne X.K (.type "ValueError") (.type c) = some false by rcases hc with rfl | rfl | rfl | rfl | rfl <;> rfl) (fun z => nomatch z) fun tk => ⟨.bl false, H, I.tok _, rfl, q⟩
  · exact h.elim
end
/-- a thing that is no whole number -/
inductive Odd (H : Hp) : V → Prop where
  | non : Odd H .non
  | bl (b : Bool) : Odd H (.bl b)
  | str (z : Str) : Odd H (.str z)
  | lst {a : Addr} {xs : List V} (h : H a = some (.lst xs)) : Odd H (.ref a)
  | tup {a : Addr} {xs : List V} (h : H a = some (.tup xs)) : Odd H (.ref a)
  | dct {a : Addr} (h : H a = some (exo (.type "dict") a)) : Odd H (.ref a)
  | exc {a : Addr} (h : H a = some (exo (.type "ValueError") a)) : Odd H (.ref a)
theorem Odd.same {H H' : Hp} {x : V} (s : Same H H') (o : Odd H x) : Odd H' x := by
  cases o with
  | non => exact .non
  | bl b => exact .bl b
  | str z => exact .str z
  | lst h => exact .lst (s _ _ h)
  | tup h => exact .tup (s _ _ h)
  | dct h => exact .dct (s _ _ h)
  | exc h => exact .exc (s _ _ h)
end L2

set_option Elab.async false
set_option linter.all false
set_option maxRecDepth 100000
namespace L2
open PySem PySem.Spec PyProof.Rows

/-! ### lists of pairs as tables -/
section
variable {κ : Type} [DecidableEq κ]
/-- in its place, or at the end -/
def putK (kvs : List (κ × V)) (k : κ) (v : V) : List (κ × V) :=
  if (kvs.any fun kv => decide (kv.1 = k)) = true then kvs.map (fun kv => if kv.1 = k then (kv.1, v) else kv) else kvs ++ [(k, v)]
theorem length_putK (kvs : List (κ × V)) (k : κ) (v : V) : (putK kvs k v).length ≤ kvs.length + 1 := by
  unfold putK
  split
  · rw [List.length_map]; omega
  · rw [List.length_append, List.length_cons, List.length_nil]; omega
theorem KV.any {kvs : List (κ × V)} {vs : List (κ × Value)} (r : KV kvs vs) (k : κ) : (kvs.any fun kv => decide (kv.1 = k)) = vs.any fun kv => decide (kv.1 = k) := by
  unfold KV at r
  induction r with
  | nil => rfl
  | cons h t ih => rw [List.any_cons, List.any_cons, ih, h.1]
theorem KV.repl {kvs : List (κ × V)} {vs : List (κ × Value)} (r : KV kvs vs) (k : κ) {y : V} {u : Value} (ry : RelV y u) :
    KV (kvs.map fun kv => if kv.1 = k then (kv.1, y) else kv) (vs.map fun kv => if kv.1 = k then (kv.1, u) else kv) := by
  unfold KV at r ⊢
  induction r with
  | nil => exact .nil
  | @cons p q ps qs h t ih =>
    rw [List.map_cons, List.map_cons]
    refine .cons ?_ ih
    obtain ⟨h1, h2⟩ := h
    by_cases e : p.1 = k
    · rw [if_pos e, if_pos (h1.symm.trans e)]; exact ⟨h1, ry⟩
    · rw [if_neg e, if_neg (fun z => e (h1.trans z))]; exact ⟨h1, h2⟩
theorem KV.put {kvs : List (κ × V)} {vs : List (κ × Value)} (r : KV kvs vs) (k : κ) {y : V} {u : Value} (ry : RelV y u) : KV (putK kvs k y) (stored vs k u) := by
  unfold putK stored
  rw [r.any k]
  by_cases e : (vs.any fun kv => decide (kv.1 = k)) = true
  · rw [if_pos e, if_pos e]; exact r.repl k ry
  · rw [if_neg e, if_neg e]; exact Paired.snoc r ⟨rfl, ry⟩
end


/-! ### a tracked dict, its keys ints and texts or tuples of these -/
theorem kV_is {P : Program} {w : World} {k : Key} {u : Value} (r : RelV (kV k) u) : (mixKind P w).is k u = true := by
  cases k with
  | inl i => obtain ⟨t, e⟩ := (show ∃ t, u = Value.int i t from r); subst e; exact mixKind_int P w i t
  | inr x => obtain ⟨t, e⟩ := (show ∃ t, u = Value.str x t from r); subst e; exact mixKind_str P w x t
/-- raw entries of a dict with tuple keys -/
abbrev KT (H : Hp) : List (List Key × V) → List (List Key × Addr × Value) → Prop := Paired fun p q => p.1 = q.1 ∧ H q.2.1 = some (.tup (p.1.map kV)) ∧ RelV p.2 q.2.2
section
variable {P : Program} {w : World} {H : Hp} {h : Heap} {a : Addr}
theorem rd_of {u : HO} (ok : HOk P w H h) (e : Rd H a u) : ObjOk P w H h a u := e.ok ok
theorem dk_rd {kvs : List (Key × V)} (ok : HOk P w H h) (e : Rd H a (.dK kvs)) : kvs.length ≤ sizeLine ∧ (a == sysModules) = false ∧ ∃ vs, KV kvs vs ∧ h.DictOf (mixKind P w) a vs :=
  show ObjOk P w H h a (.dK kvs) from rd_of ok e
theorem dk_of {kvs : List (Key × V)} (ok : HOk P w H h) (e : H a = some (.dK kvs)) : kvs.length ≤ sizeLine ∧ (a == sysModules) = false ∧ ∃ vs, KV kvs vs ∧ h.DictOf (mixKind P w) a vs := dk_rd ok (.inl e)
end

section
variable {X : Cx} {pins : List (Addr × Obj)} {σ : St} {H : Hp} {s : Shared} {a : Addr} {y v : V} {u r : Value} {o : Option V} {A : Around} {E : Value → Shared → Prop}

theorem Inv.big (I : Inv X pins σ H s) : sysModules < s.heap.objs.size := by
  have h : mainGlobals < s.heap.objs.size := (I.mod.glob.keeps I.bk).lt
  exact Nat.lt_trans (by decide) h

/-- a dict's object is replaced -/
theorem d_write {h' : Heap} {t' : Nat} {ob : HO} (I : Inv X pins σ H s) (mu : Mut (H a)) (hs : Heap.SameBut a s.heap h') (he : ∃ q, h'.get? a = some q) (new : ObjOk X.prog X.w (upd H a ob) h' a ob) :
    Inv X pins σ (upd H a ob) { s with heap := h', toks := t' } :=
  I.write (x := a) (e := a) mu (.inl rfl) (fun b q hb z => (hs.2 b hb).trans z) he new
theorem dk_new {P : Program} {w : World} {H' : Hp} {h' : Heap} {kvs : List (Key × V)} {vs : List (Key × Value)} (z : kvs.length ≤ sizeLine) (hd : (a == sysModules) = false) (rel : KV kvs vs) (dd : h'.DictOf (mixKind P w) a vs) :
    ObjOk P w H' h' a (.dK kvs) := ⟨z, hd, vs, rel, dd⟩
end

section
variable {X : Cx} {pins : List (Addr × Obj)} {σ : St} {H : Hp} {s : Shared} {a : Addr} {kvs : List (Key × V)} {k : Key} {u : Value} {A : Around} {E : Value → Shared → Prop}
end


/-! ### readings and rules -/
section
variable {X : Cx} {o i e value : Expr} {pos pos' tpos : Pos} {td ty tv : TE}
end


/-! ### displays -/
theorem dk_empty {P : Program} {w : World} {H : Hp} (h : Heap) (hb : sysModules < h.objs.size) : ObjOk P w H (h.push { cls := .type "dict", data := .dict #[] }) h.objs.size (.dK []) :=
  ⟨Nat.zero_le _, beq_eq_false_iff_ne.mpr (Ne.symm (Nat.ne_of_lt hb)), [], .nil, Heap.DictOf.new h⟩
/-- {}, to be a dict of the kind that is wanted -/
def tDNewK : TE := fun _ H Q => ∀ p, H p = none → Q (.ref p) (upd H p (.dK []))
section
variable {X : Cx} {pos : Pos}
theorem pe_dnewK : PE X (.Dict [] [] pos) tDNewK := fun pins s σ H Q I h =>
  wpAny_Dict_empty ⟨.ref s.heap.objs.size, _, I.laid (a := s.heap.objs.size) (o := .dK []) (t' := s.toks) (fun _ _ q => Heap.get?_push_of_some _ q) (Nat.le_refl _) (dk_empty s.heap I.big), rfl, h _ (I.hok.fresh (Nat.le_refl _))⟩
end

/-- the pairs of a display, from the left -/
def tPairs : List (TE × TE) → St → Hp → (List (V × V) → Hp → Prop) → Prop
  | [], _, H, Q => Q [] H
  | (tk, tv) :: r, σ, H, Q => tk σ H fun x H1 => tv σ H1 fun y H2 => tPairs r σ H2 fun ps H3 => Q ((x, y) :: ps) H3
abbrev VV : List (V × V) → List (Value × Value) → Prop := Paired fun p q => RelV p.1 q.1 ∧ RelV p.2 q.2
def PPs (X : Cx) (pos : Pos) (keys : List (Option Expr)) (values : List Expr) (trs : List (TE × TE)) : Prop :=
  ∀ (pins : List (Addr × Obj)) (s : Shared) (σ : St) (H : Hp) (Q : List (V × V) → Hp → Prop), Inv X pins σ H s → tPairs trs σ H Q →
    wpAny (model X.prog X.w) X.A (evalPairs (pairTrees keys values X.env pos)) (fun vs s' => ∃ ps H', Inv X pins σ H' s' ∧ VV ps vs ∧ Q ps H') X.xe s
theorem pps_nil {X : Cx} {pos : Pos} : PPs X pos [] [] [] := fun pins s σ H Q I h => pairTrees_nil_walk ⟨[], H, I, .nil, h⟩
theorem pps_cons {X : Cx} {pos : Pos} {k v : Expr} {ks : List (Option Expr)} {vs : List Expr} {tk tv : TE} {trs : List (TE × TE)} (hk : PE X k tk) (hv : PE X v tv) (hr : PPs X pos ks vs trs) :
    PPs X pos (some k :: ks) (v :: vs) ((tk, tv) :: trs) := fun pins s σ H Q I h =>
  pairTrees_cons_walk (thn (hk pins s σ H _ I h) fun u s1 ⟨x, H1, I1, rx, q1⟩ => thn (hv pins s1 σ H1 _ I1 q1) fun w2 s2 ⟨y, H2, I2, ry, q2⟩ =>
    thn (hr pins s2 σ H2 _ I2 q2) fun ws s3 ⟨ps, H3, I3, rel, q3⟩ => ⟨(x, y) :: ps, H3, I3, .cons ⟨rx, ry⟩ rel, q3⟩)

def mergeK (kvs more : List (Key × V)) : List (Key × V) := more.foldl (fun acc kv => putK acc kv.1 kv.2) kvs
theorem KV.merge : ∀ {more : List (Key × V)} {rs : List (Key × Value)} {kvs : List (Key × V)} {vs : List (Key × Value)}, KV more rs → KV kvs vs → KV (mergeK kvs more) (merged vs rs) := by
  intro more rs kvs vs r
  unfold KV at r
  induction r generalizing kvs vs with
  | nil => intro q; exact q
  | @cons p q ps qs h t ih =>
    intro r0
    have e : KV (putK kvs p.1 p.2) (stored vs q.1 q.2) := by
      have := r0.put p.1 h.2
      rw [← h.1]; exact this
    exact ih e
theorem length_mergeK : ∀ (more kvs : List (Key × V)), (mergeK kvs more).length ≤ kvs.length + more.length
  | [], kvs => by show kvs.length ≤ kvs.length + 0; omega
  | p :: r, kvs => by
    have h1 := length_mergeK r (putK kvs p.1 p.2)
    have h2 := length_putK kvs p.1 p.2
    show (mergeK (putK kvs p.1 p.2) r).length ≤ _
    rw [List.length_cons]; omega
theorem carries_of {P : Program} {w : World} : ∀ {kvs : List (Key × V)} {ws : List (Value × Value)}, VV (kvs.map fun kv => (kV kv.1, kv.2)) ws → ∃ rs, Carries (mixKind P w) ws rs ∧ KV kvs rs
  | [], _, r => by rw [List.map_nil] at r; cases r; exact ⟨[], True.intro, .nil⟩
  | p :: kvs, _, r => by
    rw [List.map_cons] at r
    cases r with
    | @cons a b as bs h t =>
      obtain ⟨rs, c, q⟩ := carries_of (P := P) (w := w) t
      obtain ⟨b1, b2⟩ := b
      exact ⟨(p.1, b2) :: rs, ⟨kV_is h.1, rfl, c⟩, .cons ⟨rfl, h.2⟩ q⟩
/-- {k: v, ..} with keys ints and texts; the new dict stands empty while the pairs are made -/
def tDisp (trs : List (TE × TE)) : TE := fun σ H Q => ∀ p, H p = none → tPairs trs σ (upd H p (.dK [])) fun ps H2 => H2 p = some (.dK []) ∧ ∃ kvs : List (Key × V), ps = kvs.map (fun kv => (kV kv.1, kv.2)) ∧ kvs.length ≤ 15 ∧ Q (.ref p) (upd H2 p (.dK (mergeK [] kvs)))
theorem pe_disp {X : Cx} {pos : Pos} {keys : List (Option Expr)} {values : List Expr} {trs : List (TE × TE)} (h : PPs X pos keys values trs) (hall : keys.all (·.isSome) = true) (hl : keys.length = values.length) (h0 : keys ≠ [])
    (h15 : keys.length ≤ 15) : PE X (.Dict keys values pos) (tDisp trs) := by
  intro pins s σ H Q I q
  have hn := I.hok.fresh (Nat.le_refl s.heap.objs.size)
  have I1 := I.laid (a := s.heap.objs.size) (o := .dK []) (h' := s.heap.push { cls := .type "dict", data := .dict #[] }) (t' := s.toks) (fun _ _ q => Heap.get?_push_of_some _ q) (Nat.le_refl _) (dk_empty s.heap I.big)
  refine wpAny_Dict_walk (knd := mixKind X.prog X.w) hall hl h0 h15 (thn (h pins _ σ _ _ I1 (q _ hn)) fun ws s2 ⟨ps, H2, I2, rel, e, kvs, ep, lk, q2⟩ => ?_)
  subst ep
  obtain ⟨rs, c, rk⟩ := carries_of (P := X.prog) (w := X.w) rel
  obtain ⟨z, hd, vs0, r0, dd⟩ := dk_of I2.hok e
  cases r0
  refine ⟨rs, c, dd, fun h' dd' hs => ⟨.ref s.heap.objs.size, _, ?_, rfl, q2⟩⟩
  have hz : (mergeK [] kvs).length ≤ sizeLine := by
    have h1 := length_mergeK kvs []
    rw [List.length_nil] at h1
    rw [sizeLine_eq]; omega
  have he : ∃ q, h'.get? s.heap.objs.size = some q := let ⟨q, _, _, hq, _⟩ := dd'; ⟨q, hq⟩
  exact d_write I2 (by rw [e]; exact True.intro) hs he (dk_new hz hd (rk.merge .nil) dd')


/-! ### methods -/
/-- a method call o.m(e) of a built-in, with one argument: what must be seen of the text -/
structure M1 (X : Cx) (o : Expr) (m : Str) (apos : Pos) (e : Expr) (cpos : Pos) : Prop where
  base : attributeBase o m X.env (eval o X.env) = eval o X.env
  few : ((backTo cpos (starEach [e] X.env)).all (fun x => !x.1) && (backToKw cpos (keywordEach [] X.env)).all (fun x => x.1.isSome)
    && decide (([e] : List Expr).length + ([] : List Keyword).length + (if ([] : List Keyword).isEmpty then 0 else 1) < 30)) = true
  line : (apos.endLine == cpos.line) = true
  trees : backTo cpos (starEach [e] X.env) = [(false, eval e X.env)]
structure M2 (X : Cx) (o : Expr) (m : Str) (apos : Pos) (e f : Expr) (cpos : Pos) : Prop where
  base : attributeBase o m X.env (eval o X.env) = eval o X.env
  few : ((backTo cpos (starEach [e, f] X.env)).all (fun x => !x.1) && (backToKw cpos (keywordEach [] X.env)).all (fun x => x.1.isSome)
    && decide (([e, f] : List Expr).length + ([] : List Keyword).length + (if ([] : List Keyword).isEmpty then 0 else 1) < 30)) = true
  line : (apos.endLine == cpos.line) = true
  trees : backTo cpos (starEach [e, f] X.env) = [(false, eval e X.env), (false, eval f X.env)]

section
variable {X : Cx} {pins : List (Addr × Obj)} {σ : St} {H : Hp} {s : Shared} {a : Addr} {y d : V} {u r : Value} {o : Option V} {A : Around} {E : Value → Shared → Prop}
end

section
variable {X : Cx} {o e f : Expr} {apos cpos : Pos} {td ty tx : TE}
end

/-! ### dict(d): a copy -/
section
variable {X : Cx} {pins : List (Addr × Obj)} {σ : St} {H : Hp} {s : Shared} {a : Addr} {kvs : List (Key × V)} {A : Around} {E : Value → Shared → Prop}
end


section
variable {X : Cx} {pins : List (Addr × Obj)} {σ : St} {H : Hp} {s : Shared} {a : Addr} {y : V} {u : Value} {A : Around} {E : Value → Shared → Prop}
end
end L2


set_option linter.all false
set_option Elab.async false
set_option maxRecDepth 100000
set_option maxHeartbeats 4000000
namespace L2
open PySem PySem.Spec PyProof.Rows
/-! ### repr of things, dicts among them -/
def kD : Key → PyData
  | .inl i => .int i
  | .inr x => .str x
/-- what a value reads as, n deep, with no address of S in it -/
def RD (S : List Addr) : Nat → Hp → V → PyData → Prop
  | _, _, .non, d => d = .none
  | _, _, .bl b, d => d = .bool b
  | _, _, .int i, d => d = .int i
  | _, _, .str x, d => d = .str x
  | n + 1, H, .ref a, d => a ∉ S ∧ ((∃ xs ds, H a = some (.lst xs) ∧ d = .list ds ∧ Paired (RD S n H) xs ds) ∨ (∃ xs ds, H a = some (.tup xs) ∧ d = .tuple ds ∧ Paired (RD S n H) xs ds) ∨
      ∃ kvs ds, H a = some (.dK kvs) ∧ d = .dict ds ∧ Paired (fun p q => q.1 = kD p.1 ∧ RD S n H p.2 q.2) kvs ds)
  | _, _, _, _ => False
section
variable {X : Cx} {P : Program} {w : World} {h : Heap}
/-- it reads so, and shows so within others -/
def Sh (P : Program) (w : World) (h : Heap) (u : Value) (d : PyData) : Prop := (∃ as, Reads h u d as) ∧ ∃ bs, ReadAtMost h d.depth bs ∧ ReprK P w bs h d.depth u d.shown
theorem sh_all : ∀ {us : List Value} {ds : List PyData}, Paired (Sh P w h) us ds → (∃ as, ReadsAll h us ds as) ∧ ∃ bs, ReadAtMost h (PyData.depthAll ds) bs ∧ ReprAllK P w bs h (PyData.depthAll ds) us (PyData.shownAll ds)
  | _, _, .nil => ⟨⟨_, .nil⟩, [], (fun _ z => nomatch z), by simp only [PyData.shownAll]; exact .nil⟩
  | _, _, .cons ⟨⟨a1, r1⟩, b1, m1, k1⟩ t => by
    obtain ⟨⟨a2, r2⟩, b2, m2, k2⟩ := sh_all t
    refine ⟨⟨_, .cons r1 r2⟩, b1 ++ b2, ?_, ?_⟩
    · simp only [PyData.depthAll]
      exact (m1.mono (Nat.le_max_left _ _)).append (m2.mono (Nat.le_max_right _ _))
    · simp only [PyData.depthAll, PyData.shownAll]
      refine .cons ((k1.more fun b z => ?_).level_le (Nat.le_max_left _ _)) (k2.more_le (fun b z => ?_) (Nat.le_max_right _ _))
      · exact List.mem_append_left _ z
      · exact List.mem_append_right _ z
theorem sh_lst {a : Addr} {o : Obj} {vs : List Value} {n : Nat} {ds : List PyData} (h1 : h.get? a = some o) (h2 : o.cls = .type "list") (h3 : o.data = .seq vs.toArray n) (p : Paired (Sh P w h) vs ds) : Sh P w h (.ref a) (.list ds) := by
  obtain ⟨⟨as, ra⟩, bs, m, k⟩ := sh_all p
  have r : Reads h (.ref a) (.list ds) _ := .list h1 h2 h3 (by simpa using ra)
  have na : a ∉ bs := not_mem_of_deeper r (by simp only [PyData.depth]; omega) m
  refine ⟨⟨_, r⟩, a :: bs, m.cons r (by simp only [PyData.depth]; omega), ?_⟩
  simp only [PyData.depth, PyData.shown]
  cases vs with
  | nil => cases p; simp only [PyData.shownAll, listText_nil]; exact ReprK.listEmpty h1 h2 h3
  | cons x l => exact ReprK.list h1 h2 h3 na (by simpa using k.length_eq) fun i y e => k.item i y (by simpa using e)
theorem sh_tup {a : Addr} {o : Obj} {vs : List Value} {n : Nat} {ds : List PyData} (h1 : h.get? a = some o) (h2 : o.cls = .type "tuple") (h3 : o.data = .seq vs.toArray n) (p : Paired (Sh P w h) vs ds) : Sh P w h (.ref a) (.tuple ds) := by
  obtain ⟨⟨as, ra⟩, bs, m, k⟩ := sh_all p
  have r : Reads h (.ref a) (.tuple ds) _ := .tuple h1 h2 h3 (by simpa using ra)
  have na : a ∉ bs := not_mem_of_deeper r (by simp only [PyData.depth]; omega) m
  refine ⟨⟨_, r⟩, a :: bs, m.cons r (by simp only [PyData.depth]; omega), ?_⟩
  simp only [PyData.depth, PyData.shown]
  exact ReprK.tuple h1 h2 h3 na (by simpa using k)
theorem sh_dct {a : Addr} {o : Obj} {es : Array DictEntry} {n : Nat} {ds : List (PyData × PyData)} (h1 : h.get? a = some o) (h2 : o.cls = .type "dict") (h3 : o.data = .dict es n) (hs : (a == sysModules) = false) (pk : Paired (Sh P w h) (es.toList.map (·.key)) (ds.map (·.1))) (pv : Paired (Sh P w h) (es.toList.map (·.val)) (ds.map (·.2))) : Sh P w h (.ref a) (.dict ds) := by
  obtain ⟨⟨a1, r1⟩, b1, m1, k1⟩ := sh_all pk
  obtain ⟨⟨a2, r2⟩, b2, m2, k2⟩ := sh_all pv
  have r : Reads h (.ref a) (.dict ds) _ := .dict h1 h2 h3 r1 r2
  have m : ReadAtMost h (PyData.depthKv ds) (b1 ++ b2) := (m1.mono (PyData.depthAll_keys_le ds)).append (m2.mono (PyData.depthAll_vals_le ds))
  have na : a ∉ b1 ++ b2 := not_mem_of_deeper r (by simp only [PyData.depth]; omega) m
  refine ⟨⟨_, r⟩, a :: (b1 ++ b2), m.cons r (by simp only [PyData.depth]; omega), ?_⟩
  simp only [PyData.depth, PyData.shown, PyData.shownKv_eq]
  refine ReprK.dict h1 h2 h3 hs na (.of_two es.toList _ _ (k1.more_le ?_ (PyData.depthAll_keys_le ds)) (k2.more_le ?_ (PyData.depthAll_vals_le ds)))
  · exact fun b z => List.mem_append_left _ z
  · exact fun b z => List.mem_append_right _ z
/-- data that may be shown: every number short, all of it not too much -/
structure Fit (B : Nat) (d : PyData) : Prop where
  sh : d.showable = true
  lf : d.leavesShort 50 = true
  bk : d.bulk ≤ B
theorem Fit.len {B : Nat} {d : PyData} (f : Fit B d) (h : B ≤ 320000) : d.shown.length ≤ sizeLine := by
  have h1 := PyData.shown_le_bulk 50 (by decide) d f.lf
  have h2 := f.bk
  rw [sizeLine_eq]; omega
theorem fit_list {B : Nat} : ∀ {ds : List PyData}, (∀ d ∈ ds, Fit B d) → PyData.showableAll ds = true ∧ PyData.leavesShortAll 50 ds = true ∧ PyData.bulkAll ds ≤ (B + 1) * ds.length
  | [], _ => ⟨rfl, rfl, Nat.zero_le _⟩
  | d :: ds, h => by
    obtain ⟨h1, h2, h3⟩ := fit_list fun d z => h d (List.mem_cons_of_mem _ z)
    have f := h d List.mem_cons_self
    refine ⟨by simp only [PyData.showableAll, f.sh, h1]; rfl, by simp only [PyData.leavesShortAll, f.lf, h2]; rfl, ?_⟩
    have := f.bk
    simp only [PyData.bulkAll, List.length_cons, Nat.mul_add, Nat.mul_one]
    omega
theorem fit_kv {B : Nat} : ∀ {ds : List (PyData × PyData)}, (∀ d ∈ ds, Fit B d.1 ∧ Fit B d.2) → PyData.showableKv ds = true ∧ PyData.leavesShortKv 50 ds = true ∧ PyData.bulkKv ds ≤ (2 * B + 2) * ds.length
  | [], _ => ⟨rfl, rfl, Nat.zero_le _⟩
  | (k, d) :: ds, h => by
    obtain ⟨h1, h2, h3⟩ := fit_kv fun d z => h d (List.mem_cons_of_mem _ z)
    obtain ⟨f, g⟩ := h _ List.mem_cons_self
    have f : Fit B k := f
    have g : Fit B d := g
    refine ⟨by simp only [PyData.showableKv, f.sh, g.sh, h1]; rfl, by simp only [PyData.leavesShortKv, f.lf, g.lf, h2]; rfl, ?_⟩
    have := f.bk
    have := g.bk
    simp only [PyData.bulkKv, List.length_cons, Nat.mul_add, Nat.mul_one]
    omega
end
theorem paired_of {α β : Type} {F : α → β → Prop} {P : β → Prop} : ∀ {l : List α}, (∀ a ∈ l, ∃ b, F a b ∧ P b) → ∃ m, Paired F l m ∧ (∀ b ∈ m, P b) ∧ m.length = l.length
  | [], _ => ⟨[], .nil, (fun _ z => nomatch z), rfl⟩
  | a :: l, h => by
    obtain ⟨b, f, g⟩ := h a List.mem_cons_self
    obtain ⟨m, h1, h2, h3⟩ := paired_of fun a z => h a (List.mem_cons_of_mem _ z)
    refine ⟨b :: m, .cons f h1, fun c z => ?_, by simp [h3]⟩
    rcases List.mem_cons.mp z with rfl | z
    · exact g
    · exact h2 c z
theorem RD.kp {S : List Addr} {H H' : Hp} (k : Kp S H H') : ∀ (n : Nat) (x : V) (d : PyData), RD S n H x d → RD S n H' x d
  | n, .non, d, h => by cases n <;> exact h
  | n, .bl b, d, h => by cases n <;> exact h
  | n, .int i, d, h => by cases n <;> exact h
  | n, .str x, d, h => by cases n <;> exact h
  | 0, .ref a, d, h => (show False from h).elim
  | n + 1, .ref a, d, h => by
    obtain ⟨hn, h⟩ := h
    refine ⟨hn, ?_⟩
    rcases h with ⟨xs, ds, h1, h2, h3⟩ | ⟨xs, ds, h1, h2, h3⟩ | ⟨xs, ds, h1, h2, h3⟩
    · exact .inl ⟨xs, ds, k _ _ hn h1, h2, Paired.imp' (fun a b z => RD.kp k n a b z) h3⟩
    · exact .inr (.inl ⟨xs, ds, k _ _ hn h1, h2, Paired.imp' (fun a b z => RD.kp k n a b z) h3⟩)
    · exact .inr (.inr ⟨xs, ds, k _ _ hn h1, h2, Paired.imp' (fun a b z => ⟨z.1, RD.kp k n _ _ z.2⟩) h3⟩)
  | 0, .flt _, _, h | 0, .ty _, _, h | 0, .byt _, _, h => (show False from h).elim
  | n + 1, .flt _, _, h | n + 1, .ty _, _, h | n + 1, .byt _, _, h => (show False from h).elim
theorem RD.more {S : List Addr} {H : Hp} : ∀ (n : Nat) (x : V) (d : PyData), RD S n H x d → RD S (n + 1) H x d
  | n, .non, d, h => by cases n <;> exact h
  | n, .bl b, d, h => by cases n <;> exact h
  | n, .int i, d, h => by cases n <;> exact h
  | n, .str x, d, h => by cases n <;> exact h
  | 0, .ref a, d, h => (show False from h).elim
  | n + 1, .ref a, d, h => by
    obtain ⟨hn, h⟩ := h
    refine ⟨hn, ?_⟩
    rcases h with ⟨xs, ds, h1, h2, h3⟩ | ⟨xs, ds, h1, h2, h3⟩ | ⟨xs, ds, h1, h2, h3⟩
    · exact .inl ⟨xs, ds, h1, h2, Paired.imp' (fun a b z => RD.more n a b z) h3⟩
    · exact .inr (.inl ⟨xs, ds, h1, h2, Paired.imp' (fun a b z => RD.more n a b z) h3⟩)
    · exact .inr (.inr ⟨xs, ds, h1, h2, Paired.imp' (fun a b z => ⟨z.1, RD.more n _ _ z.2⟩) h3⟩)
  | 0, .flt _, _, h | 0, .ty _, _, h | 0, .byt _, _, h => (show False from h).elim
  | n + 1, .flt _, _, h | n + 1, .ty _, _, h | n + 1, .byt _, _, h => (show False from h).elim
theorem rd_non {S : List Addr} {H : Hp} {n : Nat} {d : PyData} (h : RD S n H .non d) : d = .none := by cases n <;> exact h
theorem rd_bl {S : List Addr} {H : Hp} {n : Nat} {d : PyData} {b : Bool} (h : RD S n H (.bl b) d) : d = .bool b := by cases n <;> exact h
theorem rd_int {S : List Addr} {H : Hp} {n : Nat} {d : PyData} {b : Int} (h : RD S n H (.int b) d) : d = .int b := by cases n <;> exact h
theorem rd_str {S : List Addr} {H : Hp} {n : Nat} {d : PyData} {b : Str} (h : RD S n H (.str b) d) : d = .str b := by cases n <;> exact h
/-- a thing, n deep and not too great, which can be shown -/
def Tg (S : List Addr) (n B : Nat) (H : Hp) (x : V) : Prop := ∃ d, RD S n H x d ∧ Fit B d
theorem Tg.kp {S : List Addr} {n B : Nat} {H H' : Hp} {x : V} (k : Kp S H H') (h : Tg S n B H x) : Tg S n B H' x := let ⟨d, h1, h2⟩ := h; ⟨d, h1.kp k, h2⟩
theorem Tg.same {S : List Addr} {n B : Nat} {H H' : Hp} {x : V} (k : Same H H') (h : Tg S n B H x) : Tg S n B H' x := h.kp k.kp
theorem Tg.le {S : List Addr} {n B n' B' : Nat} {H : Hp} {x : V} (h : Tg S n B H x) (hn : n ≤ n') (hB : B ≤ B') : Tg S n' B' H x := by
  obtain ⟨d, h1, h2⟩ := h
  refine ⟨d, ?_, h2.sh, h2.lf, Nat.le_trans h2.bk hB⟩
  induction hn with
  | refl => exact h1
  | step _ ih => exact ih.more
theorem tg_non {S : List Addr} {n B : Nat} {H : Hp} : Tg S n B H .non := ⟨.none, by cases n <;> rfl, rfl, rfl, Nat.zero_le _⟩
theorem tg_bl {S : List Addr} {n B : Nat} {H : Hp} {b : Bool} : Tg S n B H (.bl b) := ⟨.bool b, by cases n <;> rfl, rfl, rfl, Nat.zero_le _⟩
theorem tg_int {S : List Addr} {n B : Nat} {H : Hp} {i : Int} (h : i.natAbs < 10 ^ 40) : Tg S n B H (.int i) := ⟨.int i, by cases n <;> rfl, by simp only [PyData.showable, decide_eq_true_eq]; exact log2_of h, by
  simp only [PyData.leavesShort, decide_eq_true_eq]; exact Nat.le_trans (shown_int_len h) (by decide), Nat.zero_le _⟩
theorem tg_str {S : List Addr} {n B : Nat} {H : Hp} {x : Str} (h : (x.cps.toList.all fun c => decide (c < 16 ^ 8)) = true) (hB : x.cps.size ≤ B) : Tg S n B H (.str x) := ⟨.str x, by cases n <;> rfl, rfl, h, hB⟩
theorem tg_lst {S : List Addr} {n B : Nat} {H : Hp} {a : Addr} {xs : List V} (hs : a ∉ S) (h : H a = some (.lst xs)) (hx : ∀ x ∈ xs, Tg S n B H x) : Tg S (n + 1) ((B + 1) * xs.length) H (.ref a) := by
  obtain ⟨ds, h1, h2, h3⟩ := paired_of hx
  obtain ⟨f1, f2, f3⟩ := fit_list h2
  exact ⟨.list ds, ⟨hs, .inl ⟨xs, ds, h, rfl, h1⟩⟩, f1, f2, by rw [← h3]; exact f3⟩
theorem tg_tup {S : List Addr} {n B : Nat} {H : Hp} {a : Addr} {xs : List V} (hs : a ∉ S) (h : H a = some (.tup xs)) (hx : ∀ x ∈ xs, Tg S n B H x) : Tg S (n + 1) ((B + 1) * xs.length) H (.ref a) := by
  obtain ⟨ds, h1, h2, h3⟩ := paired_of hx
  obtain ⟨f1, f2, f3⟩ := fit_list h2
  exact ⟨.tuple ds, ⟨hs, .inr (.inl ⟨xs, ds, h, rfl, h1⟩)⟩, f1, f2, by rw [← h3]; exact f3⟩
theorem tg_dct {S : List Addr} {n B : Nat} {H : Hp} {a : Addr} {kvs : List (Key × V)} (hs : a ∉ S) (h : H a = some (.dK kvs)) (hx : ∀ p ∈ kvs, (∃ i : Int, p.1 = .inl i ∧ i.natAbs < 10 ^ 40) ∧ Tg S n B H p.2) : Tg S (n + 1) ((2 * B + 2) * kvs.length) H (.ref a) := by
  obtain ⟨ds, h1, h2, h3⟩ := paired_of (α := Key × V) (β := PyData × PyData) (F := fun p q => q.1 = kD p.1 ∧ RD S n H p.2 q.2) (P := fun q => Fit B q.1 ∧ Fit B q.2) (l := kvs) fun p hp => by
    obtain ⟨⟨i, e, hi⟩, d, q1, q2⟩ := hx p hp
    obtain ⟨_, e2, f2⟩ := tg_int (S := S) (n := 0) (B := B) (H := H) hi
    cases e2
    exact ⟨(kD p.1, d), ⟨rfl, q1⟩, by rw [e]; exact f2, q2⟩
  obtain ⟨f1, f2, f3⟩ := fit_kv h2
  exact ⟨.dict ds, ⟨hs, .inr (.inr ⟨kvs, ds, h, rfl, h1⟩)⟩, f1, f2, by rw [← h3]; exact f3⟩
section
variable {X : Cx}
theorem shs_of {P : Program} {w : World} {h : Heap} {F : V → PyData → Prop} (hF : ∀ x u d, F x d → RelV x u → d.showable = true → d.shown.length ≤ sizeLine → Sh P w h u d) : ∀ {xs : List V} {us : List Value} {ds : List PyData}, Vals xs us → Paired F xs ds → PyData.showableAll ds = true → (∀ t ∈ PyData.shownAll ds, t.length ≤ sizeLine) → Paired (Sh P w h) us ds
  | _, _, _, .nil, .nil, _, _ => .nil
  | _, _, _, .cons r t, .cons (b := d) f g, hs, hz => by
    simp only [PyData.showableAll, Bool.and_eq_true] at hs
    have hs' := hs
    refine .cons (hF _ _ _ f r hs'.1 (hz _ (by simp only [PyData.shownAll]; exact List.mem_cons_self))) (shs_of hF t g hs'.2 fun t z => hz t (by simp only [PyData.shownAll]; exact List.mem_cons_of_mem _ z))
theorem kvs_of {P : Program} {w : World} {h : Heap} {F : V → PyData → Prop} (hF : ∀ x u d, F x d → RelV x u → d.showable = true → d.shown.length ≤ sizeLine → Sh P w h u d) : ∀ {es : List DictEntry} {vs : List (Key × Value)} {kvs : List (Key × V)} {ds : List (PyData × PyData)}, Pairs (mixKind P w) es vs → KV kvs vs → Paired (fun p q => q.1 = kD p.1 ∧ F p.2 q.2) kvs ds → PyData.showableKv ds = true → (∀ t ∈ PyData.shownKv ds, t.length ≤ sizeLine) →
    Paired (Sh P w h) (es.map (·.key)) (ds.map (·.1)) ∧ Paired (Sh P w h) (es.map (·.val)) (ds.map (·.2))
  | _, _, _, _, .nil, .nil, .nil, _, _ => ⟨.nil, .nil⟩
  | _, _, _, _, .cons k1 k2 t, .cons (a := p) r r', .cons (b := q) f g, hs, hz => by
    obtain ⟨qk, qv⟩ := q
    obtain ⟨e1, f⟩ := f
    have e1 : qk = kD p.1 := e1
    subst e1
    simp only [PyData.showableKv, Bool.and_eq_true] at hs
    have hs' := hs
    have hz1 := hz _ (by simp only [PyData.shownKv]; exact List.mem_cons_self)
    rw [strLen_append, strLen_append] at hz1
    obtain ⟨u1, u2⟩ := kvs_of hF t r' g hs'.2 fun t z => hz t (by simp only [PyData.shownKv]; exact List.mem_cons_of_mem _ z)
    have k2' : RelV p.2 _ := r.2
    rw [← k2] at k2'
    have hz2 : qv.shown.length ≤ sizeLine := by omega
    refine ⟨.cons ?_ u1, .cons (hF _ _ _ f k2' hs'.1.2 hz2) u2⟩
    show Sh P w h _ (kD p.1)
    rw [← r.1] at k1
    rcases keyIs_shape k1 with ⟨i, tk, e1, e2⟩ | ⟨x, tk, e1, e2⟩
    · rw [e1] at hs' hz1 ⊢
      show Sh P w h (DictEntry.key _) _
      rw [e2]
      exact ⟨⟨_, .int _ _⟩, ReprK.of_reads (.int _ _) hs'.1.1 (PyData.noDict_hsm rfl) (by simp only [kD] at hz1 ⊢; omega)⟩
    · rw [e1] at hs' hz1 ⊢
      show Sh P w h (DictEntry.key _) _
      rw [e2]
      exact ⟨⟨_, .str _ _⟩, ReprK.of_reads (.str _ _) hs'.1.1 (PyData.noDict_hsm rfl) (by simp only [kD] at hz1 ⊢; omega)⟩
theorem rd_sh {S : List Addr} {pins : List (Addr × Obj)} {σ : St} {H : Hp} {s : Shared} (I : Inv X pins σ H s) : ∀ (n : Nat) (x : V) (u : Value) (d : PyData), RD S n H x d → RelV x u → d.showable = true → d.shown.length ≤ sizeLine → Sh X.prog X.w s.heap u d
  | n, .non, u, d, h, r, hs, hz => by have h := rd_non h; subst h; cases r; exact ⟨⟨_, .none⟩, ReprK.of_reads .none hs (PyData.noDict_hsm rfl) hz⟩
  | n, .bl b, u, d, h, r, hs, hz => by have h := rd_bl h; subst h; cases r; exact ⟨⟨_, .bool _⟩, ReprK.of_reads (.bool _) hs (PyData.noDict_hsm rfl) hz⟩
  | n, .int i, u, d, h, r, hs, hz => by have h := rd_int h; subst h; obtain ⟨t, rfl⟩ := r; exact ⟨⟨_, .int _ _⟩, ReprK.of_reads (.int _ _) hs (PyData.noDict_hsm rfl) hz⟩
  | n, .str x, u, d, h, r, hs, hz => by have h := rd_str h; subst h; obtain ⟨t, rfl⟩ := r; exact ⟨⟨_, .str _ _⟩, ReprK.of_reads (.str _ _) hs (PyData.noDict_hsm rfl) hz⟩
  | 0, .ref a, _, d, h, _, _, _ => (show False from h).elim
  | n + 1, .ref a, u, d, h, r, hs, hz => by
    cases r
    obtain ⟨hn, h⟩ := h
    rcases h with ⟨xs, ds, h1, rfl, h3⟩ | ⟨xs, ds, h1, rfl, h3⟩ | ⟨kvs, ds, h1, rfl, h3⟩
    · obtain ⟨_, its, k, rr, e⟩ := (show ObjOk X.prog X.w H s.heap a (.lst xs) from I.hok _ _ h1)
      exact sh_lst e rfl rfl (shs_of (fun x u d a b c e => rd_sh I n x u d a b c e) rr h3 (by simpa [PyData.showable] using hs) fun t ht => Nat.le_trans (listText_mem_le ht) (by simpa only [PyData.shown] using hz))
    · obtain ⟨_, its, rr, o, e, c, k, dd⟩ := (show ObjOk X.prog X.w H s.heap a (.tup xs) from I.hok _ _ h1)
      exact sh_tup e c dd (shs_of (fun x u d a b c e => rd_sh I n x u d a b c e) rr h3 (by simpa [PyData.showable] using hs) fun t ht => Nat.le_trans (tupleText_mem_le ht) (by simpa only [PyData.shown] using hz))
    · obtain ⟨_, hm, vs, kv, o, es, ep, e1, e2, e3, _, e5, _⟩ := (show ObjOk X.prog X.w H s.heap a (.dK kvs) from I.hok _ _ h1)
      obtain ⟨u1, u2⟩ := kvs_of (P := X.prog) (w := X.w) (fun x u d a b c e => rd_sh I n x u d a b c e) e5 kv h3 (by simpa [PyData.showable] using hs) fun t ht => Nat.le_trans (dictText_mem_le ht) (by simpa only [PyData.shown] using hz)
      exact sh_dct e1 e2.1 e3 hm u1 u2
  | 0, .flt _, _, _, h, _, _, _ | 0, .ty _, _, _, h, _, _, _ | 0, .byt _, _, _, h, _, _, _ => (show False from h).elim
  | n + 1, .flt _, _, _, h, _, _, _ | n + 1, .ty _, _, _, h, _, _, _ | n + 1, .byt _, _, _, h, _, _, _ => (show False from h).elim
theorem rd_depth {S : List Addr} {H : Hp} : ∀ (n : Nat) (x : V) (d : PyData), RD S n H x d → d.depth ≤ n := by
  intro n
  induction n with
  | zero =>
    intro x d h
    cases x <;> first | (cases h; simp [PyData.depth]) | exact (show False from h).elim
  | succ n ih =>
    have all : ∀ {xs : List V} {ds : List PyData}, Paired (RD S n H) xs ds → PyData.depthAll ds ≤ n := by
      intro xs ds p
      induction p with
      | nil => simp [PyData.depthAll]
      | cons f g i2 => simp only [PyData.depthAll]; exact Nat.max_le.mpr ⟨ih _ _ f, i2⟩
    have kv : ∀ {xs : List (Key × V)} {ds : List (PyData × PyData)}, Paired (fun p q => q.1 = kD p.1 ∧ RD S n H p.2 q.2) xs ds → PyData.depthKv ds ≤ n := by
      intro xs ds p
      induction p with
      | nil => simp [PyData.depthKv]
      | @cons a b _ _ f g i2 =>
        obtain ⟨k, v⟩ := b
        obtain ⟨e, f⟩ := f
        have e : k = kD a.1 := e
        simp only [PyData.depthKv]
        refine Nat.max_le.mpr ⟨Nat.max_le.mpr ⟨?_, ih _ _ f⟩, i2⟩
        rw [e]
        cases a.1 <;> simp [kD, PyData.depth]
    intro x d h
    cases x with
    | ref a =>
      obtain ⟨_, h⟩ := h
      rcases h with ⟨xs, ds, h1, rfl, h3⟩ | ⟨xs, ds, h1, rfl, h3⟩ | ⟨kvs, ds, h1, rfl, h3⟩
      · simp only [PyData.depth]; exact Nat.succ_le_succ (all h3)
      · simp only [PyData.depth]; exact Nat.succ_le_succ (all h3)
      · simp only [PyData.depth]; exact Nat.succ_le_succ (kv h3)
    | _ => first | (cases h; simp [PyData.depth]) | exact (show False from h).elim
/-- repr of a thing -/
@[irreducible] def hReprD (x : V) (H : Hp) (Q : VK) : Prop := ∃ (S : List Addr) (n B : Nat) (d : PyData), RD S n H x d ∧ Fit B d ∧ n ≤ 30 ∧ B ≤ 320000 ∧ Q (.str d.shown) H
theorem i_reprD {x : V} {H : Hp} {Q : VK} {S : List Addr} {n B : Nat} {d : PyData} (h : RD S n H x d) (f : Fit B d) (hn : n ≤ 30) (hB : B ≤ 320000) (q : Q (.str d.shown) H) : hReprD x H Q := by unfold hReprD; exact ⟨S, n, B, d, h, f, hn, hB, q⟩
def vReprD : List V → Hp → VK → Prop := fun xs H Q => match xs with
  | [x] => hReprD x H Q
  | _ => False
theorem callReprD {k : Nat} (hr : Room k X.A) : CallR X (.builtin "repr") vReprD := by
  intro pins s σ H xs us Q I r h
  unfold vReprD at h; split at h
  case h_2 => exact h.elim
  rename_i x
  unfold hReprD at h
  obtain ⟨S, n, B, d, hv, hf, hn, hB, q⟩ := h
  obtain ⟨u, rfl, rx⟩ := vals1 r
  have hz := hf.len hB
  have hd := rd_depth n x d hv
  have flat : ∀ {z : Str}, z = d.shown → ∀ tk, EP X pins σ Q (.str z tk) { s with toks := s.toks + 1 } := fun e tk => ⟨.str d.shown, H, I.tok _, ⟨tk, by rw [e]⟩, q⟩
  have fin : ∀ h' u tk, (∀ b o, s.heap.get? b = some o → h'.get? b = some o) → ∃ x t, Value.str d.shown u = .str x t ∧ EP X pins σ Q (.str d.shown u) { s with heap := h', toks := tk } := fun h' u tk hk => ⟨_, _, rfl, .str _, H, I.kept hk, ⟨u, rfl⟩, q⟩
  have hu := hr.units
  have hg := hr.gd
  cases x with
  | non => have e := rd_non hv; subst e; cases rx; exact PySem.P.repr_of_none (flat (by rw [PyData.shown_none]) _)
  | bl b => have e := rd_bl hv; subst e; cases rx; exact PySem.P.repr_of_bool (flat (by rw [PyData.shown_bool]) _)
  | int i => have e := rd_int hv; subst e; obtain ⟨t, rfl⟩ := rx; exact PySem.P.repr_of_int (by simpa [PyData.showable] using hf.sh) (flat (by rw [PyData.shown_int]) _)
  | str z => have e := rd_str hv; subst e; obtain ⟨t, rfl⟩ := rx; exact PySem.P.repr_of_str (flat (by rw [PyData.shown_str]) _) (by rw [PyData.shown_str] at hz; exact hz)
  | ref a =>
    cases rx
    cases n with
    | zero => exact (show False from hv).elim
    | succ n =>
    obtain ⟨hn, h⟩ := hv
    have ih := fun x u d a b c e => rd_sh I n x u d a b c (S := S) e
    rcases h with ⟨xs, ds, h1, rfl, h3⟩ | ⟨xs, ds, h1, rfl, h3⟩ | ⟨kvs, ds, h1, rfl, h3⟩
    · obtain ⟨_, its, k, rr, e⟩ := (show ObjOk X.prog X.w H s.heap a (.lst xs) from I.hok _ _ h1)
      have hz' : (listText (PyData.shownAll ds)).length ≤ sizeLine := by simpa only [PyData.shown] using hz
      have p := shs_of ih rr h3 (by simpa [PyData.showable] using hf.sh) fun t ht => Nat.le_trans (listText_mem_le ht) hz'
      obtain ⟨⟨as, ra⟩, bs, m, kk⟩ := sh_all p
      have r : Reads s.heap (.ref a) (.list ds) _ := .list e rfl rfl (by simpa using ra)
      have na : a ∉ bs := not_mem_of_deeper r (by simp only [PyData.depth]; omega) m
      simp only [PyData.depth, PyData.shown] at hd fin
      refine call_repr_slot (by omega) ⟨_, e, rfl⟩ F.slot_list_repr.toG ?_
      cases its with
      | nil => cases p; simp only [PyData.shownAll, listText_nil] at fin; exact call_list_repr_empty ⟨_, e, rfl⟩ e rfl (fin _ _ _ fun _ _ e => e)
      | cons x l => exact call_list_reprK e rfl rfl na (by simpa using kk.length_eq) (fun i y e => kk.item i y (by simpa using e)) hg (fun b _ => Clear.nil b) (by show X.A.units + 1 + _ < cLine; omega) (fun _ _ e => e) fin hz'
    · obtain ⟨_, its, rr, o, e, c, k, dd⟩ := (show ObjOk X.prog X.w H s.heap a (.tup xs) from I.hok _ _ h1)
      have hz' : (tupleText (PyData.shownAll ds)).length ≤ sizeLine := by simpa only [PyData.shown] using hz
      have p := shs_of ih rr h3 (by simpa [PyData.showable] using hf.sh) fun t ht => Nat.le_trans (tupleText_mem_le ht) hz'
      obtain ⟨⟨as, ra⟩, bs, m, kk⟩ := sh_all p
      have r : Reads s.heap (.ref a) (.tuple ds) _ := .tuple e c dd (by simpa using ra)
      have na : a ∉ bs := not_mem_of_deeper r (by simp only [PyData.depth]; omega) m
      simp only [PyData.depth, PyData.shown] at hd fin
      refine call_repr_slot (by omega) ⟨_, e, c⟩ F.slot_tuple_repr ?_
      exact call_tuple_reprK e c dd na (by simpa using kk) hg (fun b _ => Clear.nil b) (by show X.A.units + 1 + _ < cLine; omega) (fun _ _ e => e) fin hz'
    · obtain ⟨_, hm, vs, kv, o, es, ep, e1, e2, e3, _, e5, _⟩ := (show ObjOk X.prog X.w H s.heap a (.dK kvs) from I.hok _ _ h1)
      have hz' : (dictText (PyData.shownKv ds)).length ≤ sizeLine := by simpa only [PyData.shown] using hz
      obtain ⟨pk, pv⟩ := kvs_of (P := X.prog) (w := X.w) ih e5 kv h3 (by simpa [PyData.showable] using hf.sh) fun t ht => Nat.le_trans (dictText_mem_le ht) hz'
      obtain ⟨⟨a1, r1⟩, b1, m1, k1⟩ := sh_all pk
      obtain ⟨⟨a2, r2⟩, b2, m2, k2⟩ := sh_all pv
      have r : Reads s.heap (.ref a) (.dict ds) _ := .dict e1 e2.1 e3 r1 r2
      have m : ReadAtMost s.heap (PyData.depthKv ds) (b1 ++ b2) := (m1.mono (PyData.depthAll_keys_le ds)).append (m2.mono (PyData.depthAll_vals_le ds))
      have na : a ∉ b1 ++ b2 := not_mem_of_deeper r (by simp only [PyData.depth]; omega) m
      simp only [PyData.depth, PyData.shown, PyData.shownKv_eq] at hd fin
      refine call_repr_slot (by omega) ⟨_, e1, e2.1⟩ F.slot_dict_repr ?_
      refine call_dict_reprK e1 e2.1 e3 hm na (.of_two es.toList _ _ (k1.more_le ?_ (PyData.depthAll_keys_le ds)) (k2.more_le ?_ (PyData.depthAll_vals_le ds))) hg (fun b _ => Clear.nil b) (by show X.A.units + 1 + _ < cLine; omega) (fun _ _ e => e) fin (by rw [← PyData.shownKv_eq]; exact hz')
      · exact fun b z => List.mem_append_left _ z
      · exact fun b z => List.mem_append_right _ z
  | _ => cases n <;> exact (show False from hv).elim
end
end L2

set_option linter.all false
set_option Elab.async false
set_option maxRecDepth 100000
set_option maxHeartbeats 4000000
namespace L2
open PySem PySem.Spec PyProof.Rows
/-! ### dict(enumerate(list)) -/
theorem dul_plain : plainId "dict.update.loop" = true := by decide +kernel
theorem dul_entry : entryFor table "dict.update.loop" = some Builtin.«dict.update.loop» := entryFor_of_tree (by kernel_rfl)
/-- things counted from i on -/
def eK {β : Type} : Nat → List β → List (Key × β)
  | _, [] => []
  | i, x :: xs => (.inl (i : Int), x) :: eK (i + 1) xs
theorem eK_len {β : Type} : ∀ (i : Nat) (l : List β), (eK i l).length = l.length
  | _, [] => rfl
  | i, x :: xs => by simp [eK, eK_len (i + 1) xs]
theorem eK_snoc {β : Type} (x : β) : ∀ (i : Nat) (l : List β), eK i (l ++ [x]) = eK i l ++ [(.inl ((i + l.length : Nat) : Int), x)]
  | i, [] => rfl
  | i, y :: l => by
    have e : i + 1 + l.length = i + (l.length + 1) := by omega
    simp only [List.cons_append, eK, eK_snoc x (i + 1) l, List.length_cons, e]
theorem eK_mem {β : Type} : ∀ (i : Nat) (l : List β) (p : Key × β), p ∈ eK i l → ∃ j : Nat, i ≤ j ∧ j < i + l.length ∧ p.1 = .inl (j : Int) ∧ p.2 ∈ l
  | _, [], _, h => nomatch h
  | i, x :: l, p, h => by
    rcases List.mem_cons.mp h with rfl | h
    · exact ⟨i, Nat.le_refl _, by simp, rfl, List.mem_cons_self⟩
    · obtain ⟨j, h1, h2, h3, h4⟩ := eK_mem (i + 1) l p h
      exact ⟨j, by omega, by simp; omega, h3, List.mem_cons_of_mem _ h4⟩
theorem eK_stored (l : List Value) (x : Value) : stored (eK 0 l) (.inl (l.length : Int)) x = eK 0 (l ++ [x]) := by
  unfold stored
  rw [if_neg, eK_snoc, Nat.zero_add]
  intro z
  obtain ⟨p, hp, hq⟩ := List.any_eq_true.mp z
  obtain ⟨j, _, h2, h3, _⟩ := eK_mem 0 l p hp
  have := of_decide_eq_true hq
  rw [h3] at this
  have := Sum.inl.inj this
  omega
section
variable {prog : Program} {w : World} {A : Around} {s : Shared} {R : Result → Shared → Prop}
theorem dl_loop {S e it l : Addr} {items : Array Value} {h1 : Heap} (hh : A.handled = none) (hne : e ≠ it) (hSe : S ≠ e) (hSi : S ≠ it) (hlS : l ≠ S) (hle : l ≠ e) (hli : l ≠ it) (hn : items.size ≤ sizeLine)
    (hR : ∀ h' tk, (∀ b o, b ≠ S → b ≠ e → b ≠ it → h1.get? b = some o → h'.get? b = some o) → h'.DictOf (mixKind prog w) S (eK 0 items.toList) → R (.ok (.ret .none)) { s with heap := h', toks := tk }) :
    ∀ (k i : Nat) (h : Heap) (tk : Nat), items.size - i = k → i ≤ items.size → EnSt h e it l S i → h.IsList l items → (∀ b o, b ≠ S → b ≠ e → b ≠ it → h1.get? b = some o → h.get? b = some o) →
      h.DictOf (mixKind prog w) S (eK 0 (items.toList.take i)) → codeAny (model prog w) A (.builtin "dict.update.loop" ⟨[.ref S, .ref e, rawInt (i : Int), .none], []⟩) R { s with heap := h, toks := tk } := by
  intro k
  induction k with
  | zero =>
    intro i h tk hk hi hst hl kp hS
    have hx : items[i]? = none := by simp; omega
    refine codeAny_builtin dul_entry ?_
    rw [Around.under_plainId dul_plain _]
    show wpAny _ A.in1 (pyNext (.ref e) >>= _) _ _ _
    have ei : items.toList.take i = items.toList := List.take_of_length_le (by simp; omega)
    rw [ei] at hS
    have fin : ∀ h', Heap.ExtBut it h h' → R (.ok (.ret .none)) { s with heap := h', toks := tk } := fun h' eb =>
      hR h' tk (fun b o a1 a2 a3 q => eb b o a3 (kp b o a1 a2 a3 q)) (by obtain ⟨o, r⟩ := Heap.dictOf_iff.mp hS; exact Heap.dictOf_iff.mpr ⟨o, eb S _ hSi r.1, r.2⟩)
    obtain ⟨h0, hit⟩ := hst
    rcases h0 with ⟨rfl, old, he⟩ | ⟨old, a, f, oa, he, _⟩
    · exact wpAny_bind (wpAny_pyNext_enum_end (s := { s with heap := h, toks := tk }) (A := A.in1) hh he hit hl hx fun h' eb => wpAny_bind (wpAny_pure (wpAny_pure (fin h' eb))))
    · exact wpAny_bind (enx_end (s := { s with heap := h, toks := tk }) (A := A.in1) hh he hit hl hx fun h' eb => wpAny_bind (wpAny_pure (wpAny_pure (fin h' eb))))
  | succ k ih =>
    intro i h tk hk hi hst hl kp hS
    have hlt : i < items.size := by omega
    obtain ⟨x, hx⟩ : ∃ x, items[i]? = some x := ⟨items[i], by simp [hlt]⟩
    refine codeAny_builtin dul_entry ?_
    rw [Around.under_plainId dul_plain _]
    show wpAny _ A.in1 (pyNext (.ref e) >>= _) _ _ _
    obtain ⟨oS, hSo, hSd⟩ := Heap.dictOf_iff.mp hS
    have hSz : S < h.objs.size := Heap.lt_size hSo
    have elt : e < h.objs.size := by
      obtain ⟨h0, _⟩ := hst
      rcases h0 with ⟨_, _, he⟩ | ⟨_, _, _, _, he, _⟩ <;> exact Heap.lt_size he
    have ilt : it < h.objs.size := by obtain ⟨o, q, _⟩ := hst.2; exact Heap.lt_size q
    have nxt : ∀ h', (∃ old a f oa, EnX h' e it ((i : Int) + 1) old a f ∧ h'.get? a = some oa ∧ a ≠ e ∧ a ≠ it ∧ a ≠ S) → h'.IsListIter it l (i + 1) → h'.get? h.objs.size = some { cls := .type "tuple", data := .seq #[.int i tk, x] } → h'.objs.size = h.objs.size + 1 →
        (∀ b o, b ≠ e → b ≠ it → h.get? b = some o → h'.get? b = some o) → wpAny (model prog w) A.in1 (do
            holding [Value.ref h.objs.size] do
              let pair ← (Builtin.Dict.pairItems (.ref h.objs.size)).tryCatch fun e => do
                if !(← isInstance e (.type "TypeError")) then throw e
                rule "dict.update.element-no-sequence"
                raiseError "TypeError" s!"cannot convert dictionary update sequence element #{(i : Int)} to a sequence"
              match pair with
              | [k, v] => holding [k, v] (dictSet S k v)
              | l =>
                rule "dict.update.element-length"
                raiseError "ValueError" s!"dictionary update sequence element #{(i : Int)} has length {l.length}; 2 is required"
            again (.builtin "dict.update.loop" ⟨[.ref S, .ref e, rawInt ((i : Int) + 1), .none], []⟩))
          (fun fin s' => match fin with | .done f => R (.ok f) s' | .again c' => c'.quiet = true ∧ codeAny (model prog w) A c' R s') (fun x s' => R (.error x) s') { s with heap := h', toks := tk + 1 } := by
      intro h' hX hit' ht hz hk'
      have hS' : h'.DictOf (mixKind prog w) S (eK 0 (items.toList.take i)) := Heap.dictOf_iff.mpr ⟨oS, hk' S _ hSe hSi hSo, hSd⟩
      refine wpAny_bind (wpAny_holding (wpAny_bind (wpAny_tryCatch ?_)))
      unfold Builtin.Dict.pairItems
      refine wpAny_bind (wpAny_typeOf (T := "tuple") ⟨_, ht, rfl⟩ ?_)
      simp only [show (Value.type "tuple" == Value.type "list") = false by decide, beq_self_eq_true, Bool.or_true, if_true]
      refine wpAny_bind (wpAny_seqItems ht rfl (wpAny_pure ?_))
      show wpAny _ _ (holding [Value.int (i : Int) tk, x] (dictSet S (Value.int (i : Int) tk) x)) _ _ _
      have hlen : (items.toList.take i).length = i := by rw [List.length_take]; simp; omega
      refine wpAny_holding (wpAny_dictSet_pairs (hsz := by rw [eK_len, hlen]; omega) (mixKind_int prog w i tk) hS' fun h2 d2 sb => ?_)
      refine wpAny_pure ⟨plainId_quiet dul_plain _, ?_⟩
      have sb' : Heap.SameBut S h' h2 := sb
      have up : ∀ b o, b ≠ S → h'.get? b = some o → h2.get? b = some o := fun b o hb q => (sb'.2 b hb).trans q
      have e' : ((i + 1 : Nat) : Int) = (i : Int) + 1 := by omega
      rw [← e']
      refine ih (i + 1) h2 (tk + 1 + 1) (by omega) hlt ?_ ?_ ?_ ?_
      · obtain ⟨old, a, f, oa, q1, q2, q3, q4, q5⟩ := hX
        refine ⟨.inr ⟨old, a, f, oa, ?_, up a _ q5 q2, q3, q4, q5⟩, hit'.at fun o q => up it o (Ne.symm hSi) q⟩
        rw [e']
        exact up e _ (Ne.symm hSe) q1
      · exact (hl.at fun o q => hk' l o hle hli q).at fun o q => up l o hlS q
      · exact fun b o a1 a2 a3 q => up b o a1 (hk' b o a2 a3 (kp b o a1 a2 a3 q))
      · have e2 : items.toList.take (i + 1) = items.toList.take i ++ [x] := take_snoc (by simpa using hx)
        have e3 := eK_stored (items.toList.take i) x
        rw [hlen, ← e2] at e3
        rw [e3] at d2
        exact d2
    obtain ⟨h0, hit⟩ := hst
    rcases h0 with ⟨rfl, old, he⟩ | ⟨old, a, f, oa, he, q2, q3, q4, q5⟩
    · exact wpAny_bind (wpAny_pyNext_enum_item (s := { s with heap := h, toks := tk }) (A := A.in1) he hit hl hx hne fun h' b1 b2 b3 b4 b5 => nxt h' ⟨x, _, false, _, b1, b3, Nat.ne_of_gt elt, Nat.ne_of_gt ilt, Nat.ne_of_gt hSz⟩ b2 b3 b4 b5)
    · exact wpAny_bind (enx_next (s := { s with heap := h, toks := tk }) (A := A.in1) he q2 q3 q4 hit hl hx hne fun h' b1 b2 b3 b4 b5 => nxt h' ⟨old, a, true, oa, b1, b5 a oa q3 q4 q2, q3, q4, q5⟩ b2 b3 b4 b5)
end
section
variable {prog : Program} {w : World} {A : Around} {E : Value → Shared → Prop} {s : Shared}
end
section
variable {X : Cx} {K : PySem.W.Frag} {a e : Expr} {t : TA} {p p2 pos pos2 : Pos}
@[irreducible] def hEnumD (K : PySem.W.Frag) (a : Addr) (H : Hp) (Q : VK) : Prop := ∃ xs, SqL K H a xs ∧ ∀ D, H D = none → Q (.ref D) (upd H D (.dK (eK 0 xs)))
def vEnumD (K : PySem.W.Frag) : List V → Hp → VK → Prop := fun vs H Q => match vs with
  | [.ref a] => hEnumD K a H Q
  | _ => False
/-! ### tuple(list) -/
@[irreducible] def hTupL (K : PySem.W.Frag) (a : Addr) (H : Hp) (Q : VK) : Prop := ∃ xs, SqL K H a xs ∧ ∀ D, H D = none → Q (.ref D) (upd H D (.tup xs))
theorem i_tupL {a : Addr} {H : Hp} {Q : VK} {xs : List V} (h : H a = some (.lst xs)) (q : ∀ D H', H D = none → Same H H' → H' D = some (.tup xs) → Q (.ref D) H') : hTupL K a H Q := by
  unfold hTupL; exact ⟨xs, SqL.of h, fun D hD => q D _ hD (same_upd hD) upd_same⟩
def vTupL (K : PySem.W.Frag) : List V → Hp → VK → Prop := fun vs H Q => match vs with
  | [.ref a] => hTupL K a H Q
  | _ => False
theorem kTupL (hK : X.K = K) : CallR X (.type "tuple") (vTupL K) := by
  subst hK
  intro pins s σ H xs us Q I rv h
  unfold vTupL at h; split at h
  case h_2 => exact h.elim
  rename_i a
  unfold hTupL at h
  obtain ⟨xs, hxs, q⟩ := h
  obtain ⟨u, rfl, ru⟩ := vals1 rv
  cases ru
  obtain ⟨its, r', pl, hz⟩ := I.list hxs
  have hlen := r'.length
  refine call_tuple_list pl.isList (fun h' hk => ?_) (by simp only [List.size_toArray]; omega)
  have I1 := I.kept (t' := s.toks) hk
  refine ⟨.ref h'.objs.size, _, I1.laid (a := h'.objs.size) (o := .tup xs) (t' := s.toks) (fun _ _ z => Heap.get?_push_of_some _ z) (Nat.le_refl _) ?_, rfl, q _ (I1.hok.fresh (Nat.le_refl _))⟩
  exact ⟨hz, its, r', _, Heap.get?_push_size _ rfl, rfl, 0, rfl⟩
/-! ### {} and {a: b} of numbers, known by what they hold -/
@[irreducible] def hDNew (H : Hp) (kvs : List (Key × V)) (Q : VK) : Prop := ∀ p, H p = none → Q (.ref p) (upd H p (.dK kvs))
theorem i_dnew {H : Hp} {kvs : List (Key × V)} {Q : VK} (q : ∀ p H', H p = none → Same H H' → H' p = some (.dK kvs) → Q (.ref p) H') : hDNew H kvs Q := by unfold hDNew; exact fun p hp => q p _ hp (same_upd hp) upd_same
def mDNew (kvs : List (Key × V)) : TE := fun _ H Q => hDNew H kvs Q
theorem qe_dnew {pos : Pos} : QE X (.Dict [] [] pos) (mDNew []) := ⟨fun pins s σ H Q I h => pe_dnewK pins s σ H Q I (by have h := (show hDNew H [] Q from h); unfold hDNew at h; exact h)⟩
theorem qe_dnew1 {a b : Int} {j1 j2 : Nat} {p1 p2 pos : Pos} : QE X (.Dict [some (.Constant (.int a) j1 p1)] [.Constant (.int b) j2 p2] pos) (mDNew [(.inl a, .int b)]) := ⟨fun pins s σ H Q I h => by
  have h := (show hDNew H [(.inl a, .int b)] Q from h)
  unfold hDNew at h
  refine pe_disp (trs := [(_, _)]) (pps_cons (qe_int (i := a) (j := j1) (pos := p1)).h (qe_int (i := b) (j := j2) (pos := p2)).h pps_nil) rfl rfl (by simp) (by simp) pins s σ H Q I ?_
  intro p hp
  refine ⟨upd_same, [(.inl a, .int b)], rfl, by show 1 ≤ 15; decide, ?_⟩
  rw [upd_upd]
  exact h p hp⟩
end
end L2

set_option linter.all false
set_option Elab.async false
set_option maxRecDepth 100000
set_option maxHeartbeats 4000000
namespace L2
open PySem PySem.Spec PyProof.Rows
section
variable {X : Cx}
/-- + where the first may be a truth -/
def vAddB : R2 := fun x y H Q => match x, y with
  | .bl b, .int j => Q (.int ((if b = true then (1 : Int) else 0) + j)) H
  | _, _ => vAdd x y H Q
theorem opAddB : OpR X (binaryOp .Add) vAddB := by
  intro pins s σ H x y v u Q I rx ry h
  unfold vAddB at h
  split at h
  · rename_i b j
    cases rx
    obtain ⟨t, rfl⟩ := ry
    exact PySem.IntBool.add_bool_int ⟨.int _, H, I.tok _, ⟨_, rfl⟩, h⟩
  · exact opAdd pins s σ H _ _ v u Q I rx ry h
end
end L2

set_option linter.all false
set_option Elab.async false
set_option maxRecDepth 100000
set_option maxHeartbeats 4000000
namespace HT
open PySem PySem.Spec PyProof.Rows
section
variable {prog : Program} {w : World} {A : Around} {E : Value → Shared → Prop} {s : Shared}
/-- () + u is u -/
theorem cat_tup0 {t b : Addr} {ws : List Value} {Q : Value → Shared → Prop} (ht : IsTup s.heap t ([] : List Value).toArray) (hb : IsTup s.heap b ws.toArray) (h : Q (.ref b) s) : wpAny (model prog w) A (binaryOp .Add (.ref t) (.ref b)) Q E s := by
  obtain ⟨⟨cls, dd, data, sl⟩, ho, hc, n, hd⟩ := id ht
  obtain ⟨⟨cls2, dd2, data2, sl2⟩, ho2, hc2, n2, hd2⟩ := id hb
  simp only at hc hd hc2 hd2
  subst hc hd hc2 hd2
  exact concat_meets ⟨_, ho, rfl⟩ ⟨_, ho2, rfl⟩ noFill_tuple_add seq_tuple_add PySem.F.slot_tuple_add PySem.F.entry_tuple_add (PySem.F.args_tuple_add_2 _ _)
      (tuple_addW0 t b _ ws.toArray n n2 dd dd2 sl sl2 (by simp)) ⟨ho, ho2, h⟩
/-- the whole of a tuple is the tuple -/
theorem getItem_tuple_all {t sl : Addr} {items : Array Value} {vl vu : Value} {lo hi : Option Int} {Q : Value → Shared → Prop} (ht : IsTup s.heap t items) (hs : s.heap.IsSliceOf sl vl vu .none) (pl : IsPart vl lo) (pu : IsPart vu hi)
    (h1 : sIx items.size 0 lo = 0) (h2 : sIx items.size items.size hi = items.size) (h : Q (.ref t) s) : wpAny (model prog w) A (getItem (.ref t) (.ref sl)) Q E s := by
  obtain ⟨os, hos, hcs, hds⟩ := id hs
  have hTs : s.TypeIs (.ref sl) "slice" := ⟨os, hos, hcs⟩
  have hTt := ht.typeIs
  unfold getItem
  try with_reducible refine wpAny_holding ?_
  first | refine wpAny_bind (wpAny_pure ?_) | skip
  refine wpAny_bind (wpAny_sequenceKey ht.typeIs (by decide) ?_)
  refine wpAny_bind (wpAny_callSpecial?_slot (name := Str.ofString "__getitem__") hTt PyProof.Rows.slot_tuple_getitem
    (wpAny_call_entry PyProof.Rows.slot_tuple_getitem hTt entry_tuple_getitem ?_ (args_tuple_getitem _ _)))
  show wpAny _ _ (Builtin.Tuple.tupleItemsOf (Value.ref t) >>= _) _ _ s
  refine wpAny_bind (tupleItemsOf_ ht ?_)
  refine wpAny_bind (wpAny_typeOf hTs ?_)
  rw [if_pos (by decide)]
  refine wpAny_bind (sliceApplied_gen hs pl pu ?_)
  have yes : (((sIx items.size 0 lo : Nat) : Int) == 0 && (1 : Int) == 1 && (sIx items.size items.size hi - sIx items.size 0 lo) == items.size) = true := by rw [h1, h2]; simp
  show wpAny _ _ (if (((sIx items.size 0 lo : Nat) : Int) == 0 && (1 : Int) == 1 && (sIx items.size items.size hi - sIx items.size 0 lo) == items.size) = true then _ else _) _ _ s
  rw [if_pos yes]
  refine wpAny_bind ?_
  unfold Builtin.Tuple.tupleIsExact
  refine wpAny_bind (wpAny_typeOf hTt (wpAny_pure ?_))
  rw [if_pos (by decide)]
  exact wpAny_bind (wpAny_rule (wpAny_pure ⟨_, rfl, wpAny_pure h⟩))
end
end HT
namespace L2
open PySem PySem.Spec PyProof.Rows
section
variable {X : Cx} {K : PySem.W.Frag} {e : Expr} {te : TE} {p2 pos : Pos}
/-! ### t + u of tuples, u not empty -/
@[irreducible] def hCatT (a b : Addr) (H : Hp) (Q : VK) : Prop := ∃ xs ys, H a = some (.tup xs) ∧ H b = some (.tup ys) ∧ ys ≠ [] ∧ xs.length + ys.length ≤ sizeLine ∧ (xs = [] → Q (.ref b) H) ∧ (xs ≠ [] → ∀ p, H p = none → Q (.ref p) (upd H p (.tup (xs ++ ys))))
theorem i_catT {a b : Addr} {H : Hp} {Q : VK} {xs ys : List V} (h1 : H a = some (.tup xs)) (h2 : H b = some (.tup ys)) (hy : ys ≠ []) (hl : xs.length + ys.length ≤ sizeLine) (q0 : xs = [] → Q (.ref b) H) (q : ∀ p H', H p = none → Same H H' → H' p = some (.tup (xs ++ ys)) → Q (.ref p) H') : hCatT a b H Q := by
  unfold hCatT; exact ⟨xs, ys, h1, h2, hy, hl, q0, fun _ p hp => q p _ hp (same_upd hp) upd_same⟩
def vAddT : R2 := fun x y H Q => match x, y with
  | .ref a, .ref b => hCatT a b H Q
  | _, _ => False
theorem opAddT : OpR X (binaryOp .Add) vAddT := by
  intro pins s σ H x y v u Q I rx ry h
  cases x <;> cases y <;> first
    | exact (show False from h).elim
    | skip
  rename_i a b
  have h := (show hCatT a b H Q from h)
  unfold hCatT at h
  obtain ⟨xs, ys, h1, h2, hy, hl, q0, q⟩ := h
  cases xs with
  | nil =>
    cases rx; cases ry
    obtain ⟨its, r1, p1, _⟩ := I.tuple (SqT.of h1)
    obtain ⟨its2, r2, p2, _⟩ := I.tuple (SqT.of h2)
    cases r1
    exact HT.cat_tup0 p1 p2 ⟨.ref b, H, I, rfl, q0 rfl⟩
  | cons z zs => exact op_catT pins s σ H _ _ v u Q I rx ry ⟨a, b, _, _, rfl, rfl, SqT.of h1, SqT.of h2, by simp, hl, fun z => absurd z hy, fun _ => q (by simp)⟩
/-! ### t[lo:hi] of a tuple -/
@[irreducible] def hSlT (a : Addr) (lo hi : Option Int) (H : Hp) (Q : VK) : Prop := ∃ xs, H a = some (.tup xs) ∧ (HT.sIx xs.length 0 lo = 0 → HT.sIx xs.length xs.length hi = xs.length → Q (.ref a) H) ∧ ∀ p, H p = none → Q (.ref p) (upd H p (.tup (cutV xs lo hi)))
theorem i_slT {a : Addr} {lo hi : Option Int} {H : Hp} {Q : VK} {xs : List V} (h : H a = some (.tup xs)) (q0 : Q (.ref a) H) (q : ∀ p H', H p = none → Same H H' → H' p = some (.tup (cutV xs lo hi)) → Q (.ref p) H') : hSlT a lo hi H Q := by
  unfold hSlT; exact ⟨xs, h, fun _ _ => q0, fun p hp => q p _ hp (same_upd hp) upd_same⟩
def vSlT : V → Option Int → Option Int → Hp → VK → Prop := fun x lo hi H Q => match x with
  | .ref a => hSlT a lo hi H Q
  | _ => False
theorem slT : SlR X vSlT := by
  intro pins s σ H x v vl vu lo hi sl Q I rx hs pl pu h
  cases x <;> first
    | exact (show False from h).elim
    | skip
  rename_i a
  have h := (show hSlT a lo hi H Q from h)
  unfold hSlT at h
  obtain ⟨xs, h1, q0, q⟩ := h
  by_cases hw : HT.sIx xs.length 0 lo = 0 ∧ HT.sIx xs.length xs.length hi = xs.length
  · cases rx
    obtain ⟨its, r, ht, hz⟩ := I.tuple (SqT.of h1)
    have hlen : its.toArray.size = xs.length := by rw [List.size_toArray]; exact r.length.symm
    refine ⟨"tuple", _, PyProof.Rows.slot_tuple_getitem.lookup, ht.typeIs, ?_⟩
    exact HT.getItem_tuple_all ht hs pl pu (by rw [hlen]; exact hw.1) (by rw [hlen]; exact hw.2) ⟨.ref a, H, I, rfl, q0 hw.1 hw.2⟩
  · exact sl_tup pins s σ H _ v vl vu lo hi sl Q I rx hs pl pu ⟨a, xs, rfl, SqT.of h1, hw, q⟩
theorem qe_sliceT {lo hi : Option Expr} {tl th : TO} (he : QE X e te) (hl : QO X lo tl) (hu : QO X hi th) : QE X (.Subscript e (.Slice lo hi none p2) pos) (tSl vSlT te tl th) := ⟨pe_slice slT he.h hl.h hu.h⟩
/-! ### {text: number} -/
theorem qe_dnewS {a : Str} {b : Int} {j1 j2 : Nat} {p1 p2 pos : Pos} : QE X (.Dict [some (.Constant (.str a) j1 p1)] [.Constant (.int b) j2 p2] pos) (mDNew [(.inr a, .int b)]) := ⟨fun pins s σ H Q I h => by
  have h := (show hDNew H [(.inr a, .int b)] Q from h)
  unfold hDNew at h
  refine pe_disp (trs := [(_, _)]) (pps_cons (qe_str (i := a) (j := j1) (pos := p1)).h (qe_int (i := b) (j := j2) (pos := p2)).h pps_nil) rfl rfl (by simp) (by simp) pins s σ H Q I ?_
  intro p hp
  refine ⟨upd_same, [(.inr a, .int b)], rfl, by show 1 ≤ 15; decide, ?_⟩
  rw [upd_upd]
  exact h p hp⟩
end
end L2

set_option linter.all false
set_option Elab.async false
set_option maxRecDepth 100000
set_option maxHeartbeats 4000000
namespace L2
open PySem PySem.Spec PyProof.Rows
/-- the builtins' names are not bound -/
structure Bl (mg : Str → Option Value) : Prop where
  list : mg "list" = none
  enumerate : mg "enumerate" = none
  int : mg "int" = none
  sum : mg "sum" = none
  range : mg "range" = none
  sorted : mg "sorted" = none
  max : mg "max" = none
  min : mg "min" = none
  len : mg "len" = none
  repr : mg "repr" = none
  isinstance : mg "isinstance" = none
  zip : mg "zip" = none
  bool : mg "bool" = none
  tuple : mg "tuple" = none
  str : mg "str" = none
  dict : mg "dict" = none
  abs : mg "abs" = none
  ValueError : mg "ValueError" = none
theorem boot_ValueErr : bootBuiltins "ValueError" = some (.type "ValueError") := by decide +kernel
theorem boot_int : bootBuiltins "int" = some (.type "int") := by decide +kernel
theorem boot_list : bootBuiltins "list" = some (.type "list") := by decide +kernel
theorem boot_bool : bootBuiltins "bool" = some (.type "bool") := by decide +kernel
theorem boot_tuple : bootBuiltins "tuple" = some (.type "tuple") := by decide +kernel
theorem boot_str : bootBuiltins "str" = some (.type "str") := by decide +kernel
theorem boot_sum' : bootBuiltins "sum" = some (.builtin "sum") := by decide +kernel
theorem boot_max' : bootBuiltins "max" = some (.builtin "max") := by decide +kernel
theorem boot_min' : bootBuiltins "min" = some (.builtin "min") := by decide +kernel
theorem boot_len' : bootBuiltins "len" = some (.builtin "len") := by decide +kernel
theorem boot_sorted' : bootBuiltins "sorted" = some (.builtin "sorted") := by decide +kernel
theorem boot_repr' : bootBuiltins "repr" = some (.builtin "repr") := by decide +kernel
theorem boot_abs' : bootBuiltins "abs" = some (.builtin "abs") := by decide +kernel
theorem boot_isinstance' : bootBuiltins "isinstance" = some (.builtin "isinstance") := by decide +kernel
/-- the draws that are left -/
def DrawsAt (H : Hp) (d : Addr) : Prop := ∃ ds : List Int, H d = some (.lst (ds.map V.int)) ∧ (∀ x ∈ ds, 0 ≤ x) ∧ ds.length ≤ 1000
theorem DrawsAt.same {H H' : Hp} {d : Addr} (s : Same H H') (x : DrawsAt H d) : DrawsAt H' d := let ⟨ds, q, z⟩ := x; ⟨ds, s _ _ q, z⟩
theorem DrawsAt.kp {H H' : Hp} {d : Addr} {S : List Addr} (s : Kp S H H') (n : d ∉ S) (x : DrawsAt H d) : DrawsAt H' d := let ⟨ds, q, z⟩ := x; ⟨ds, s _ _ n q, z⟩
theorem DrawsAt.ne {H : Hp} {d p : Addr} (x : DrawsAt H d) (hp : H p = none) : d ≠ p := let ⟨_, q, _⟩ := x; ne_of_none q hp
def sp_law_draws (K : PySem.W.Frag) : Sp := fun vs H Q _ => ∃ (a : Addr) (ns : List Int), vs = [.ref a] ∧ SqL K H a (ns.map V.int) ∧ ns.length ≤ 63 ∧ ∀ p H', H p = none → Same H H' → DrawsAt H' p → Q (.ref p) H'
def sp_law_take : Sp := fun vs H Q _ => ∃ (d : Addr) (lim : Int), vs = [.ref d, .int lim] ∧ DrawsAt H d ∧ 0 < lim ∧ ∀ g H', 0 ≤ g → g < lim → DrawsAt H' d → Kp [d] H H' → Q (.int g) H'
/-- the numbers of a row as the law draws it -/
structure RowN (ns : List Int) : Prop where
  ne : 1 ≤ ns.length
  le : ns.length ≤ 120
  nn : ∀ n ∈ ns, 0 ≤ n
  ub : ∀ n ∈ ns, n ≤ 1000000000000
def sp_law_row : Sp := fun vs H Q _ => ∃ (d : Addr) (most : Int), vs = [.ref d, .int most] ∧ DrawsAt H d ∧ 1 ≤ most ∧ most ≤ 120 ∧ ∀ (p : Addr) (ns : List Int) (H' : Hp), RowN ns → (ns.length : Int) ≤ most → DrawsAt H' d → Kp [d] H H' → H' p = some (.lst (ns.map V.int)) → p ≠ d → H p = none → Q (.ref p) H'
def sp_law_pieces : Sp := fun vs H Q _ => ∃ (d r : Addr) (ns : List Int), vs = [.ref d, .ref r] ∧ DrawsAt H d ∧ H r = some (.lst (ns.map V.int)) ∧ r ≠ d ∧ 1 ≤ ns.length ∧ ns.length ≤ 1000 ∧ ∀ (m : Nat) (H' : Hp), 1 ≤ m → m ≤ ns.length → DrawsAt H' d → Kp [d] H H' → Q (.int m) H'
end L2

namespace K
open PySem L2
def top (i : Nat) : Stmt := PySem.Challenge.pw_piecebounds_k35_papers_of_the_greatest_j.main.body.getD i (.Pass ⟨0, 0, 0, 0⟩)
end K
set_option linter.all false
set_option Elab.async false
set_option maxRecDepth 100000
set_option maxHeartbeats 4000000
namespace K
open PySem L2
section
variable {C : Addr} {P : Program} {w : World} {K : PySem.W.Frag} {mg : Str → Option Value} {base : Heap} {f : Addr} {fd : FuncData}

abbrev s_law_draws : Stmt := top 12
theorem sc_law_draws : FnScope ["script", "draws", "k", "rest", "stir", "many"] ["script"] (defScope s_law_draws) := ⟨rfl, rfl, rfl, by decide +kernel, rfl, by decide +kernel, by decide +kernel⟩
theorem l_law_draws_draws : Loc (defScope s_law_draws) "draws" := Or.inl (by kernel_rfl)
theorem l_law_draws_k : Loc (defScope s_law_draws) "k" := Or.inl (by kernel_rfl)
theorem l_law_draws_many : Loc (defScope s_law_draws) "many" := Or.inl (by kernel_rfl)
theorem l_law_draws_rest : Loc (defScope s_law_draws) "rest" := Or.inl (by kernel_rfl)
theorem l_law_draws_stir : Loc (defScope s_law_draws) "stir" := Or.inl (by kernel_rfl)
theorem v_law_draws_draws : Vis (defScope s_law_draws) "draws" := Or.inl (by kernel_rfl)
theorem v_law_draws_k : Vis (defScope s_law_draws) "k" := Or.inl (by kernel_rfl)
theorem v_law_draws_many : Vis (defScope s_law_draws) "many" := Or.inl (by kernel_rfl)
theorem v_law_draws_rest : Vis (defScope s_law_draws) "rest" := Or.inl (by kernel_rfl)
theorem v_law_draws_script : Vis (defScope s_law_draws) "script" := Or.inl (by kernel_rfl)
theorem v_law_draws_stir : Vis (defScope s_law_draws) "stir" := Or.inl (by kernel_rfl)
theorem g_law_draws_abs : (defScope s_law_draws).names.lookup ("abs" : Str) = some NameKind.globalImplicit := by kernel_rfl
theorem g_law_draws_len : (defScope s_law_draws).names.lookup ("len" : Str) = some NameKind.globalImplicit := by kernel_rfl
theorem g_law_draws_min : (defScope s_law_draws).names.lookup ("min" : Str) = some NameKind.globalImplicit := by kernel_rfl
theorem g_law_draws_range : (defScope s_law_draws).names.lookup ("range" : Str) = some NameKind.globalImplicit := by kernel_rfl
def t_law_draws {cdv : Value} {A : Around} {outer : List Env} {s : Shared} {H : Hp} {E : XK} (B : Bl mg) (hr : Room 0 (A.deeper (PyProof.Rows.envOfC "_law_draws" (defScope s_law_draws) s.heap.objs.size f cdv))) :
    { t : TS // QB (cxOf CX0 P w K mg base ["script", "draws", "k", "rest", "stir", "many"] "_law_draws" (defScope s_law_draws) f cdv A outer s H E).nox (defBody s_law_draws) t } :=
  ⟨_, (qb_cons (qs_set (i := 1) sc_law_draws.nd rfl l_law_draws_draws (.inl rfl) (qe_lst qa_nil))
    (qb_mid (qs_for PassesOwn.never rfl (qi_r1 g_law_draws_range B.range (qa_cons (qe_cB (kMin (K := K) rfl rfl) g_law_draws_min B.min boot_min' (qa_cons (qe_cB (kLen (K := K) rfl) g_law_draws_len B.len boot_len' (qa_cons (qv 0 rfl v_law_draws_script) qa_nil)) (qa_cons qe_int qa_nil))) qa_nil)) (qg_name (i := 2) sc_law_draws.nd rfl l_law_draws_k (.inl rfl)) (qb_cons (qs_set (i := 3) sc_law_draws.nd rfl l_law_draws_rest (.inl rfl) (qe_cB (callAbs) g_law_draws_abs B.abs boot_abs' (qa_cons (ke_ix (K := K) rfl (qv 0 rfl v_law_draws_script) (qv 2 rfl v_law_draws_k) (fun _ _ => rfl)) qa_nil)))
    (qb_one (qs_if (qt_cmp opLt (qv 3 rfl v_law_draws_rest) (qe_op opPow qe_int qe_int)) (qb_cons (qs_set (i := 4) sc_law_draws.nd rfl l_law_draws_stir (.inl rfl) (qe_op opMod (qe_op opMul (qe_op opMod (qe_op opAdd (qe_op opAdd (qv 3 rfl v_law_draws_rest) (qe_op opMul qe_int (qv 2 rfl v_law_draws_k))) qe_int) qe_int) qe_int) qe_int))
    (qb_cons (qs_set (i := 4) sc_law_draws.nd rfl l_law_draws_stir (.inl rfl) (qe_op opMod (qe_op opMul (qv 4 rfl v_law_draws_stir) (qv 4 rfl v_law_draws_stir)) qe_int))
    (qb_cons (qs_ex (ke_m1 (K := K) rfl PySem.F.plainAttrs_list PySem.F.slot_list_append PySem.F.type_list_append mtApp (qv 1 rfl v_law_draws_draws) (qe_op opMod (qe_op opFdiv (qv 4 rfl v_law_draws_stir) qe_int) qe_int)))
    (qb_cons (qs_ex (ke_m1 (K := K) rfl PySem.F.plainAttrs_list PySem.F.slot_list_append PySem.F.type_list_append mtApp (qv 1 rfl v_law_draws_draws) (qe_op opMod (qe_op opFdiv (qv 4 rfl v_law_draws_stir) qe_int) qe_int)))
    (qb_cons (qs_set (i := 4) sc_law_draws.nd rfl l_law_draws_stir (.inl rfl) (qe_op opMod (qe_op opAdd (qv 4 rfl v_law_draws_stir) (qe_op opMul qe_int (qe_op opAdd (qv 2 rfl v_law_draws_k) qe_int))) qe_int))
    (qb_one (qs_ex (ke_m1 (K := K) rfl PySem.F.plainAttrs_list PySem.F.slot_list_append PySem.F.type_list_append mtApp (qv 1 rfl v_law_draws_draws) (qe_op opMod (qe_op opFdiv (qe_op opMod (qe_op opMul (qv 4 rfl v_law_draws_stir) (qv 4 rfl v_law_draws_stir)) qe_int) qe_int) qe_int))))))))) (qb_cons (qs_set (i := 5) sc_law_draws.nd rfl l_law_draws_many (.inl rfl) qe_int)
    (qb_one (qs_while PassesOwn.never (QW.pt (qw_and (qt_cmp opGe (qv 3 rfl v_law_draws_rest) qe_int) (qw_and1 (qt_cmp opLt (qv 5 rfl v_law_draws_many) qe_int)))) (qb_cons (qs_ex (ke_m1 (K := K) rfl PySem.F.plainAttrs_list PySem.F.slot_list_append PySem.F.type_list_append mtApp (qv 1 rfl v_law_draws_draws) (qe_op opMod (qv 3 rfl v_law_draws_rest) qe_int)))
    (qb_cons (qs_set (i := 3) sc_law_draws.nd rfl l_law_draws_rest (.inl rfl) (qe_op opFdiv (qv 3 rfl v_law_draws_rest) qe_int))
    (qb_one (qs_set (i := 5) sc_law_draws.nd rfl l_law_draws_many (.inl rfl) (qe_op opAdd (qv 5 rfl v_law_draws_many) qe_int))))))))))))
    (qb_one (qs_ret (ke_slice (K := K) rfl (qv 1 rfl v_law_draws_draws) qo_none (qo_some qe_int))))))⟩
abbrev s_law_take : Stmt := top 13
theorem sc_law_take : FnScope ["draws", "many"] ["draws", "many"] (defScope s_law_take) := ⟨rfl, rfl, rfl, by decide +kernel, rfl, by decide +kernel, by decide +kernel⟩
theorem v_law_take_draws : Vis (defScope s_law_take) "draws" := Or.inl (by kernel_rfl)
theorem v_law_take_many : Vis (defScope s_law_take) "many" := Or.inl (by kernel_rfl)
def t_law_take {cdv : Value} {A : Around} {outer : List Env} {s : Shared} {H : Hp} {E : XK} (B : Bl mg) (hr : Room 0 (A.deeper (PyProof.Rows.envOfC "_law_take" (defScope s_law_take) s.heap.objs.size f cdv))) :
    { t : TS // QB (cxOf CX0 P w K mg base ["draws", "many"] "_law_take" (defScope s_law_take) f cdv A outer s H E).nox (defBody s_law_take) t } :=
  ⟨_, (qb_cons (qs_if (qt_cmp (kEqG (K := K) rfl hr) (qv 0 rfl v_law_take_draws) (qe_lst qa_nil)) (qb_one (qs_ret qe_int)) qb_nil)
    (qb_one (qs_ret (qe_op opMod (ke_m1 (K := K) rfl PySem.F.plainAttrs_list PySem.F.slot_list_pop PySem.F.type_list_pop mtPopAt (qv 0 rfl v_law_take_draws) qe_int) (qv 1 rfl v_law_take_many)))))⟩
theorem cutV_ints (ns : List Int) (lo hi : Option Int) : cutV (ns.map V.int) lo hi = ((ns.drop (HT.sIx ns.length 0 lo)).take (HT.sIx ns.length ns.length hi - HT.sIx ns.length 0 lo)).map V.int := by
  unfold cutV
  rw [List.length_map, List.map_take, List.map_drop]
theorem mod_nn (x : Int) {y : Int} (h : 0 < y) : 0 ≤ x % y := Int.emod_nonneg _ (by omega)
/-- draws under way -/
def MoreAt (H : Hp) (d : Addr) (n : Nat) : Prop := ∃ ds : List Int, H d = some (.lst (ds.map V.int)) ∧ (∀ x ∈ ds, 0 ≤ x) ∧ ds.length ≤ n
theorem more_app {H : Hp} {d : Addr} {n : Nat} {z : Int} {Q : VK} (h : MoreAt H d n) (hn : n < 50000) (hz : 0 ≤ z) (q : ∀ H', Kp [d] H H' → MoreAt H' d (n + 1) → Q .non H') : hApp d (.int z) H Q := by
  obtain ⟨ds, e, h0, hl⟩ := h
  refine i_appI e (by omega) fun H' k e' => q H' k ⟨ds ++ [z], e', fun x hx => ?_, by simp; omega⟩
  rcases List.mem_append.mp hx with hx | hx
  · exact h0 x hx
  · have : x = z := by simpa using hx
    subst this; exact hz
theorem more_ty {K : PySem.W.Frag} {H : Hp} {d : Addr} {n : Nat} (h : MoreAt H d n) : tyV K "list" (.ref d) H := let ⟨_, e, _⟩ := h; i_tyL e
theorem MoreAt.le {H : Hp} {d : Addr} {n m : Nat} (h : MoreAt H d n) (l : n ≤ m) : MoreAt H d m := let ⟨ds, e, a, b⟩ := h; ⟨ds, e, a, by omega⟩
theorem ok_law_draws (B : Bl mg) (F : Fun K "_law_draws" "_law_draws" s_law_draws f fd) : FnOk P w K mg base CX0 1 f fd ["script"] (sp_law_draws K) := by
  refine F.okq sc_law_draws (fun vs H Q E h => ?_) (fun cdv A outer s H vs Q E hr h => ?_)
  · obtain ⟨a, ns, rfl, _⟩ := h; rfl
  obtain ⟨a, ns, rfl, hS, h63, q⟩ := h
  refine ⟨t_law_draws B  hr, ?_⟩
  refine i_newL (by show 0 ≤ sizeLine; decide) fun d H1 hd s1 e1 => ?_
  refine ⟨fun σ H' => Same H H' ∧ MoreAt H' d 5000 ∧ ∃ o2 o3 o4 o5, σ = [some (.ref a), some (.ref d), o2, o3, o4, o5], ?_, ?_⟩
  · refine i_len (.inl (s1.seq hS)) ?_
    rw [List.length_map]
    refine ⟨⟨by omega, by omega⟩, for_range (fun i σ H' => Same H H' ∧ MoreAt H' d (60 * i) ∧ ∃ o2 o3 o4 o5, σ = [some (.ref a), some (.ref d), o2, o3, o4, o5]) ?_ ?_ ?_⟩
    · exact ⟨s1, ⟨[], e1, by simp, by simp⟩, _, _, _, _, rfl⟩
    · rintro i σ H2 hi ⟨s2, m2, o2, o3, o4, o5, rfl⟩
      have hi' : i < ns.length := by omega
      have hx : (ns.map V.int)[i]? = some (.int ns[i]) := by rw [List.getElem?_map, List.getElem?_eq_getElem hi']; rfl
      refine i_ix (.inl (s2.seq hS)) (v := .int ns[i]) (by rw [show (0 + (i : Int)) = ((i : Nat) : Int) by omega]; exact atI_nat hx) ?_
      have hab : 0 ≤ (if ns[i] < 0 then -ns[i] else ns[i]) := by split <;> omega
      refine ⟨⟨by decide, by decide, by decide⟩, dec2 (fun c => ?_) (fun c => ?_)⟩
      · refine ⟨.inl ⟨by decide, by decide⟩, by decide, .inr ⟨by decide, by decide⟩, by decide, ?_⟩
        have b1 := Int.emod_lt_of_pos (((if ns[i] < 0 then -ns[i] else ns[i]) + 7919 * (0 + (i : Int)) + 3) % 2147483647 * 48271) (show (0 : Int) < 2147483647 by decide)
        have b0 := mod_nn (((if ns[i] < 0 then -ns[i] else ns[i]) + 7919 * (0 + (i : Int)) + 3) % 2147483647 * 48271) (show (0 : Int) < 2147483647 by decide)
        generalize ((if ns[i] < 0 then -ns[i] else ns[i]) + 7919 * (0 + (i : Int)) + 3) % 2147483647 * 48271 % 2147483647 = st at b1 b0
        refine ⟨.inl ⟨by omega, by omega⟩, by decide, ?_⟩
        have c1 := Int.emod_lt_of_pos (st * st) (show (0 : Int) < 2147483629 by decide)
        have c0 := mod_nn (st * st) (show (0 : Int) < 2147483629 by decide)
        generalize st * st % 2147483629 = st at c1 c0
        refine ⟨more_ty m2, ⟨by decide, by decide⟩, by decide, more_app m2 (by omega) (mod_nn _ (by decide)) fun H3 k3 m3 => ?_⟩
        refine ⟨more_ty m3, ⟨by decide, by decide⟩, by decide, more_app m3 (by omega) (mod_nn _ (by decide)) fun H4 k4 m4 => ?_⟩
        refine ⟨.inl ⟨by decide, by decide⟩, by decide, ?_⟩
        have d1 := Int.emod_lt_of_pos (st + 40692 * (0 + (i : Int) + 7)) (show (0 : Int) < 2147483587 by decide)
        have d0 := mod_nn (st + 40692 * (0 + (i : Int) + 7)) (show (0 : Int) < 2147483587 by decide)
        generalize (st + 40692 * (0 + (i : Int) + 7)) % 2147483587 = st at d1 d0
        refine ⟨more_ty m4, .inl ⟨by omega, by omega⟩, by decide, ⟨by decide, by decide⟩, by decide, more_app m4 (by omega) (mod_nn _ (by decide)) fun H5 k5 m5 => ?_⟩
        exact ⟨((s2.new k3 hd).new k4 hd).new k5 hd, m5.le (by omega), _, _, _, _, rfl⟩
      · refine while_m (fun mm σ H' => Same H H' ∧ ∃ (rest : Int) (many : Nat), 0 ≤ rest ∧ many ≤ 60 ∧ mm = 60 - many ∧ MoreAt H' d (60 * i + many) ∧ σ = [some (.ref a), some (.ref d), some (.int (0 + (i : Int))), some (.int rest), o4, some (.int many)]) 60 ⟨s2, (if ns[i] < 0 then -ns[i] else ns[i]), 0, hab, by omega, rfl, m2, rfl⟩ ?_
        rintro mm σ H3 ⟨s3, rest, many, hr0, hm60, hmm, m3, rfl⟩
        refine dec2 (fun c1 => dec2 (fun c2 => ?_) (fun c2 => ?_)) (fun c1 => bF ?_)
        · refine ⟨more_ty m3, by decide, more_app m3 (by omega) (mod_nn _ (by decide)) fun H4 k4 m4 => ?_⟩
          refine ⟨⟨by decide, by decide⟩, ?_⟩
          refine ⟨60 - (many + 1), by omega, s3.new k4 hd, rest / 1000, many + 1, by omega, by omega, rfl, m4, rfl⟩
        · exact ⟨s3, m3.le (by omega), _, _, _, _, rfl⟩
        · exact ⟨s3, m3.le (by omega), _, _, _, _, rfl⟩
    · rintro σ H' ⟨h1, h2, o⟩
      refine ⟨h1, h2.le ?_, o⟩
      omega
  · rintro σ H' ⟨s', ⟨ds, e, h0, hl⟩, o2, o3, o4, o5, rfl⟩
    refine i_sl (SqL.of e) fun p H2 hp s2 e2 => ?_
    rw [cutV_ints] at e2
    refine q p H2 (s'.free hp) (s'.trans s2) ⟨_, e2, fun x hx => h0 x (List.mem_of_mem_drop (List.mem_of_mem_take hx)), ?_⟩
    have e240 : HT.sIx ds.length ds.length (some 240) = min 240 ds.length := HT.sIx_nat ..
    rw [List.length_take, e240]; omega
theorem ok_law_take (B : Bl mg) (F : Fun K "_law_take" "_law_take" s_law_take f fd) : FnOk P w K mg base CX0 1 f fd ["draws", "many"] sp_law_take := by
  refine F.okq sc_law_take (fun vs H Q E h => ?_) (fun cdv A outer s H vs Q E hr h => ?_)
  · obtain ⟨d, lim, rfl, _⟩ := h; rfl
  obtain ⟨d, lim, rfl, ⟨ds, e, h0, hl⟩, l0, q⟩ := h
  refine ⟨t_law_take B  hr, ?_⟩
  refine i_newL (by show 0 ≤ sizeLine; decide) fun p H1 hp s1 e1 => ?_
  refine i_eqI (ns := ds) (ms := []) (SqL.of (s1 _ _ e)) (SqL.of e1) (dec2 (fun c => ?_) (fun c => ?_))
  · exact q 0 H1 (by omega) l0 ⟨ds, s1 _ _ e, h0, hl⟩ s1.kp
  · cases ds with
    | nil => exact absurd rfl c
    | cons x ds =>
    refine ⟨i_tyL (s1 _ _ e), i_popAt 0 (s1 _ _ e) rfl (by decide) rfl fun H2 k2 e2 => ⟨l0, ?_⟩⟩
    refine q _ H2 (mod_nn _ l0) (Int.emod_lt_of_pos _ l0) ⟨ds, e2, fun y hy => h0 y (List.mem_cons_of_mem _ hy), by simp at hl; omega⟩ (s1.kp.trans k2)

end
end K

set_option linter.all false
set_option Elab.async false
set_option maxRecDepth 100000
set_option maxHeartbeats 4000000
namespace K
open PySem L2
section
variable {C : Addr} {P : Program} {w : World} {K : PySem.W.Frag} {mg : Str → Option Value} {base : Heap} {f : Addr} {fd : FuncData}

abbrev s_law_row : Stmt := top 14
theorem sc_law_row : FnScope ["draws", "most", "many", "bases", "base", "mixed", "one", "other", "third", "free", "likes", "found", "k", "at", "turn", "number", "shape"] ["draws", "most"] (defScope s_law_row) := ⟨rfl, rfl, rfl, by decide +kernel, rfl, by decide +kernel, by decide +kernel⟩
theorem l_law_row_at : Loc (defScope s_law_row) "at" := Or.inl (by kernel_rfl)
theorem l_law_row_base : Loc (defScope s_law_row) "base" := Or.inl (by kernel_rfl)
theorem l_law_row_bases : Loc (defScope s_law_row) "bases" := Or.inl (by kernel_rfl)
theorem l_law_row_found : Loc (defScope s_law_row) "found" := Or.inr (by kernel_rfl)
theorem l_law_row_free : Loc (defScope s_law_row) "free" := Or.inl (by kernel_rfl)
theorem l_law_row_k : Loc (defScope s_law_row) "k" := Or.inl (by kernel_rfl)
theorem l_law_row_likes : Loc (defScope s_law_row) "likes" := Or.inl (by kernel_rfl)
theorem l_law_row_many : Loc (defScope s_law_row) "many" := Or.inl (by kernel_rfl)
theorem l_law_row_mixed : Loc (defScope s_law_row) "mixed" := Or.inl (by kernel_rfl)
theorem l_law_row_number : Loc (defScope s_law_row) "number" := Or.inl (by kernel_rfl)
theorem l_law_row_one : Loc (defScope s_law_row) "one" := Or.inl (by kernel_rfl)
theorem l_law_row_other : Loc (defScope s_law_row) "other" := Or.inl (by kernel_rfl)
theorem l_law_row_shape : Loc (defScope s_law_row) "shape" := Or.inl (by kernel_rfl)
theorem l_law_row_third : Loc (defScope s_law_row) "third" := Or.inl (by kernel_rfl)
theorem l_law_row_turn : Loc (defScope s_law_row) "turn" := Or.inl (by kernel_rfl)
theorem v_law_row_at : Vis (defScope s_law_row) "at" := Or.inl (by kernel_rfl)
theorem v_law_row_base : Vis (defScope s_law_row) "base" := Or.inl (by kernel_rfl)
theorem v_law_row_bases : Vis (defScope s_law_row) "bases" := Or.inl (by kernel_rfl)
theorem v_law_row_draws : Vis (defScope s_law_row) "draws" := Or.inl (by kernel_rfl)
theorem v_law_row_found : Vis (defScope s_law_row) "found" := Or.inr (Or.inl (by kernel_rfl))
theorem v_law_row_free : Vis (defScope s_law_row) "free" := Or.inl (by kernel_rfl)
theorem v_law_row_k : Vis (defScope s_law_row) "k" := Or.inl (by kernel_rfl)
theorem v_law_row_likes : Vis (defScope s_law_row) "likes" := Or.inl (by kernel_rfl)
theorem v_law_row_many : Vis (defScope s_law_row) "many" := Or.inl (by kernel_rfl)
theorem v_law_row_mixed : Vis (defScope s_law_row) "mixed" := Or.inl (by kernel_rfl)
theorem v_law_row_most : Vis (defScope s_law_row) "most" := Or.inl (by kernel_rfl)
theorem v_law_row_number : Vis (defScope s_law_row) "number" := Or.inl (by kernel_rfl)
theorem v_law_row_one : Vis (defScope s_law_row) "one" := Or.inl (by kernel_rfl)
theorem v_law_row_other : Vis (defScope s_law_row) "other" := Or.inl (by kernel_rfl)
theorem v_law_row_shape : Vis (defScope s_law_row) "shape" := Or.inl (by kernel_rfl)
theorem v_law_row_third : Vis (defScope s_law_row) "third" := Or.inl (by kernel_rfl)
theorem v_law_row_turn : Vis (defScope s_law_row) "turn" := Or.inl (by kernel_rfl)
theorem g_law_row__law_take : (defScope s_law_row).names.lookup ("_law_take" : Str) = some NameKind.globalImplicit := by kernel_rfl
theorem g_law_row_int : (defScope s_law_row).names.lookup ("int" : Str) = some NameKind.globalImplicit := by kernel_rfl
theorem g_law_row_len : (defScope s_law_row).names.lookup ("len" : Str) = some NameKind.globalImplicit := by kernel_rfl
theorem g_law_row_min : (defScope s_law_row).names.lookup ("min" : Str) = some NameKind.globalImplicit := by kernel_rfl
theorem g_law_row_range : (defScope s_law_row).names.lookup ("range" : Str) = some NameKind.globalImplicit := by kernel_rfl
theorem g_law_row_sorted : (defScope s_law_row).names.lookup ("sorted" : Str) = some NameKind.globalImplicit := by kernel_rfl
def t_law_row {cdv : Value} {A : Around} {outer : List Env} {s : Shared} {H : Hp} {E : XK} (B : Bl mg) (D_law_take : Def P w K mg base 1 "_law_take" ["draws", "many"] sp_law_take) (hr : Room 1 (A.deeper (PyProof.Rows.envOfC "_law_row" (defScope s_law_row) s.heap.objs.size f cdv))) :
    { t : TS // QB (cxOf CX0 P w K mg base ["draws", "most", "many", "bases", "base", "mixed", "one", "other", "third", "free", "likes", "found", "k", "at", "turn", "number", "shape"] "_law_row" (defScope s_law_row) f cdv A outer s H E).nox (defBody s_law_row) t } :=
  ⟨_, (qb_cons (qs_set (i := 2) sc_law_row.nd rfl l_law_row_many (.inl rfl) (qe_cB (kMin (K := K) rfl rfl) g_law_row_min B.min boot_min' (qa_cons (qv 1 rfl v_law_row_most) (qa_cons (qe_op opAdd qe_int (qe_def D_law_take hr (by decide) g_law_row__law_take (qa_cons (qv 0 rfl v_law_row_draws) (qa_cons qe_int qa_nil)))) qa_nil))))
    (qb_mid (qs_if (qt_cmp (kEqG (K := K) rfl hr) (qe_def D_law_take hr (by decide) g_law_row__law_take (qa_cons (qv 0 rfl v_law_row_draws) (qa_cons qe_int qa_nil))) qe_int) (qb_one (qs_set (i := 2) sc_law_row.nd rfl l_law_row_many (.inl rfl) (ke_ix (K := K) rfl (qe_lst (qa_cons (qv 1 rfl v_law_row_most) (qa_cons (qe_op opAdd qe_int (qe_def D_law_take hr (by decide) g_law_row__law_take (qa_cons (qv 0 rfl v_law_row_draws) (qa_cons (qv 1 rfl v_law_row_most) qa_nil)))) qa_nil))) (qe_def D_law_take hr (by decide) g_law_row__law_take (qa_cons (qv 0 rfl v_law_row_draws) (qa_cons qe_int qa_nil))) (fun _ _ => rfl)))) qb_nil)
    (qb_cons (qs_set (i := 3) sc_law_row.nd rfl l_law_row_bases (.inl rfl) (qe_lst (qa_cons qe_int (qa_cons qe_int (qa_cons qe_int (qa_cons qe_int (qa_cons qe_int (qa_cons (qe_op opPow qe_int qe_int) (qa_cons (qe_op opPow qe_int qe_int) (qa_cons (qe_op opAdd (qe_op opPow qe_int qe_int) qe_int) qa_nil))))))))))
    (qb_cons (qs_set (i := 4) sc_law_row.nd rfl l_law_row_base (.inl rfl) (ke_ix (K := K) rfl (qv 3 rfl v_law_row_bases) (qe_def D_law_take hr (by decide) g_law_row__law_take (qa_cons (qv 0 rfl v_law_row_draws) (qa_cons qe_int qa_nil))) (fun _ _ => rfl)))
    (qb_cons (qs_set (i := 5) sc_law_row.nd rfl l_law_row_mixed (.inl rfl) (qe_cmp (kEqG (K := K) rfl hr) (qe_def D_law_take hr (by decide) g_law_row__law_take (qa_cons (qv 0 rfl v_law_row_draws) (qa_cons qe_int qa_nil))) qe_int))
    (qb_cons (qs_set (i := 6) sc_law_row.nd rfl l_law_row_one (.inl rfl) (qe_def D_law_take hr (by decide) g_law_row__law_take (qa_cons (qv 0 rfl v_law_row_draws) (qa_cons qe_int qa_nil))))
    (qb_cons (qs_set (i := 7) sc_law_row.nd rfl l_law_row_other (.inl rfl) (qe_op opAdd qe_int (qe_def D_law_take hr (by decide) g_law_row__law_take (qa_cons (qv 0 rfl v_law_row_draws) (qa_cons qe_int qa_nil)))))
    (qb_cons (qs_set (i := 8) sc_law_row.nd rfl l_law_row_third (.inl rfl) (qe_def D_law_take hr (by decide) g_law_row__law_take (qa_cons (qv 0 rfl v_law_row_draws) (qa_cons qe_int qa_nil))))
    (qb_cons (qs_set (i := 9) sc_law_row.nd rfl l_law_row_free (.inl rfl) (qe_cmp (kEqG (K := K) rfl hr) (qe_def D_law_take hr (by decide) g_law_row__law_take (qa_cons (qv 0 rfl v_law_row_draws) (qa_cons qe_int qa_nil))) qe_int))
    (qb_cons (qs_set (i := 10) sc_law_row.nd rfl l_law_row_likes (.inl rfl) (ke_ix (K := K) rfl (qe_lst (qa_cons qe_int (qa_cons qe_int (qa_cons (qe_op opAdd qe_int (qe_def D_law_take hr (by decide) g_law_row__law_take (qa_cons (qv 0 rfl v_law_row_draws) (qa_cons qe_int qa_nil)))) qa_nil)))) (qe_def D_law_take hr (by decide) g_law_row__law_take (qa_cons (qv 0 rfl v_law_row_draws) (qa_cons qe_int qa_nil))) (fun _ _ => rfl)))
    (qb_cons (qs_set (i := 11) sc_law_row.nd rfl l_law_row_found (.inl rfl) (qe_lst qa_nil))
    (qb_mid (qs_for PassesOwn.never rfl (qi_r1 g_law_row_range B.range (qa_cons (qv 2 rfl v_law_row_many) qa_nil)) (qg_name (i := 12) sc_law_row.nd rfl l_law_row_k (.inl rfl)) (qb_cons (qs_set (i := 13) sc_law_row.nd rfl l_law_row_at (.inl rfl) (qe_op opFdiv (qv 12 rfl v_law_row_k) (qv 10 rfl v_law_row_likes)))
    (qb_cons (qs_set (i := 14) sc_law_row.nd rfl l_law_row_turn (.inl rfl) (qe_op opMod (qe_op opAdd (qe_op opAdd (qe_op opAdd (qe_op opMul (qe_op opMul (qv 13 rfl v_law_row_at) (qv 13 rfl v_law_row_at)) (qv 6 rfl v_law_row_one)) (qe_op opMul (qv 13 rfl v_law_row_at) (qv 7 rfl v_law_row_other))) (qe_op opMul (qe_op opFdiv (qv 13 rfl v_law_row_at) qe_int) qe_int)) (qv 8 rfl v_law_row_third)) qe_int))
    (qb_mid (qs_if (kt_val (K := K) rfl (qv 5 rfl v_law_row_mixed)) (qb_one (qs_set (i := 4) sc_law_row.nd rfl l_law_row_base (.inl rfl) (ke_ix (K := K) rfl (qv 3 rfl v_law_row_bases) (qe_op opMod (qe_op opAdd (qv 14 rfl v_law_row_turn) (qe_op opMul (qv 13 rfl v_law_row_at) (qv 13 rfl v_law_row_at))) qe_int) (fun _ _ => rfl)))) qb_nil)
    (qb_mid (qs_if (QW.pt (qw_or (qt_cmp opLt (qv 2 rfl v_law_row_many) qe_int) (qw_or1 (QW.pt (qw_and (kt_val (K := K) rfl (qv 9 rfl v_law_row_free)) (qw_and1 (qt_cmp opGt (qe_cB (kLen (K := K) rfl) g_law_row_len B.len boot_len' (qa_cons (qv 0 rfl v_law_row_draws) qa_nil)) qe_int))))))) (qb_one (qs_set (i := 14) sc_law_row.nd rfl l_law_row_turn (.inl rfl) (qe_def D_law_take hr (by decide) g_law_row__law_take (qa_cons (qv 0 rfl v_law_row_draws) (qa_cons qe_int qa_nil))))) qb_nil)
    (qb_cons (qs_set (i := 15) sc_law_row.nd rfl l_law_row_number (.inl rfl) (ke_ix (K := K) rfl (qe_lst (qa_cons (qe_op opMod (qv 14 rfl v_law_row_turn) (qv 4 rfl v_law_row_base)) (qa_cons (qe_op opAdd (qe_op opMul (qv 14 rfl v_law_row_turn) (qe_op opFdiv (qv 4 rfl v_law_row_base) qe_int)) (qe_op opMod (qv 14 rfl v_law_row_turn) qe_int)) qa_nil))) (qe_cT callInt g_law_row_int B.int boot_int (qa_cons (qe_cmp opGt (qv 4 rfl v_law_row_base) qe_int) qa_nil)) (fun _ _ => rfl)))
    (qb_one (qs_ex (ke_m1 (K := K) rfl PySem.F.plainAttrs_list PySem.F.slot_list_append PySem.F.type_list_append mtApp (qv 11 rfl v_law_row_found) (ke_ix (K := K) rfl (qe_lst (qa_cons (qv 15 rfl v_law_row_number) (qa_cons (qe_op opPow qe_int qe_int) qa_nil))) (qe_cT callInt g_law_row_int B.int boot_int (qa_cons (ke_and (K := K) rfl (qe_cmp opGt (qv 4 rfl v_law_row_base) (qe_op opPow qe_int qe_int)) (qe_one (qe_cmp (kEqG (K := K) rfl hr) (qe_op opMod (qv 14 rfl v_law_row_turn) qe_int) qe_int))) qa_nil)) (fun _ _ => rfl)))))))))))
    (qb_cons (qs_set (i := 16) sc_law_row.nd rfl l_law_row_shape (.inl rfl) (qe_def D_law_take hr (by decide) g_law_row__law_take (qa_cons (qv 0 rfl v_law_row_draws) (qa_cons qe_int qa_nil))))
    (qb_cons (qs_if (qt_cmp (kEqG (K := K) rfl hr) (qv 16 rfl v_law_row_shape) qe_int) (qb_one (qs_ret (qe_cB (kSorted (K := K) rfl) g_law_row_sorted B.sorted boot_sorted' (qa_cons (qv 11 rfl v_law_row_found) qa_nil)))) qb_nil)
    (qb_cons (qs_if (qt_cmp (kEqG (K := K) rfl hr) (qv 16 rfl v_law_row_shape) qe_int) (qb_one (qs_ret (qe_rev (K := K) rfl (qe_cB (kSorted (K := K) rfl) g_law_row_sorted B.sorted boot_sorted' (qa_cons (qv 11 rfl v_law_row_found) qa_nil)) (qo_some (qe_un unNeg qe_int))))) qb_nil)
    (qb_cons (qs_if (qt_cmp (kEqG (K := K) rfl hr) (qv 16 rfl v_law_row_shape) qe_int) (qb_one (qs_ret (qe_cp ["number", "found"] [none, some 11] rfl (ki_list (K := K) rfl (qv 11 rfl v_law_row_found)) (fun _ _ _ _ _ _ => (qg_name (i := 0) (show (["number", "found"] : List Str).Nodup by decide +kernel) rfl (by first | exact Or.inl rfl | exact Or.inr rfl) (by first | exact .inl rfl | exact .inr rfl))) (fun _ _ _ _ _ _ => qif_nil) (fun _ _ _ _ _ _ => (ke_ix (K := K) rfl (qe_lst (qa_cons qe_int (qa_cons (qv 0 rfl (by first | exact Or.inl rfl | exact Or.inr (Or.inl rfl) | exact Or.inr (Or.inr rfl))) qa_nil))) (qe_cT callInt rfl B.int boot_int (qa_cons (qe_cmp (kEqG (K := K) rfl hr) (qv 0 rfl (by first | exact Or.inl rfl | exact Or.inr (Or.inl rfl) | exact Or.inr (Or.inr rfl))) (qe_cB (kMax (K := K) rfl rfl) rfl B.max boot_max' (qa_cons (qv 1 rfl (by first | exact Or.inl rfl | exact Or.inr (Or.inl rfl) | exact Or.inr (Or.inr rfl))) qa_nil))) qa_nil)) (fun _ _ => rfl)))))) qb_nil)
    (qb_one (qs_ret (qv 11 rfl v_law_row_found)))))))))))))))))))⟩
theorem atInts {ns : List Int} {g : Int} (h0 : 0 ≤ g) (h1 : g < ns.length) : ns.getD g.toNat 0 ∈ ns := by
  have hk : g.toNat < ns.length := by omega
  rw [List.getD_eq_getElem?_getD, List.getElem?_eq_getElem hk]
  exact List.getElem_mem hk
theorem at2 {x y : V} {g : Int} (h0 : 0 ≤ g) (h1 : g < 2) : atI [x, y] g = some (if g = 0 then x else y) := by
  have : g = 0 ∨ g = 1 := by omega
  rcases this with rfl | rfl <;> rfl
theorem at3 {x y z : V} {g : Int} (h0 : 0 ≤ g) (h1 : g < 3) : atI [x, y, z] g = some (if g = 0 then x else if g = 1 then y else z) := by
  have : g = 0 ∨ g = 1 ∨ g = 2 := by omega
  rcases this with rfl | rfl | rfl <;> rfl
def bsL : List Int := [1, 2, 3, 10, 100, 10 ^ Int.toNat 5, 10 ^ Int.toNat 9, 10 ^ Int.toNat 12 + 1]
theorem bsL_ok : ∀ z ∈ bsL, 1 ≤ z ∧ z ≤ 1000000000001 := by decide
theorem bsL_at {g : Int} (h0 : 0 ≤ g) (h1 : g < 8) : 1 ≤ bsL.getD g.toNat 0 ∧ bsL.getD g.toNat 0 ≤ 1000000000001 := bsL_ok _ (atInts h0 h1)
theorem num_ok {turn base : Int} (t0 : 0 ≤ turn) (t1 : turn < 9973) (b0 : 1 ≤ base) (b1 : base ≤ 1000000000001) : (0 ≤ turn % base ∧ (¬ 1000 < base → turn % base ≤ 1000)) ∧ 0 ≤ turn * (base / 9973) + turn % 7 ∧ turn * (base / 9973) + turn % 7 ≤ 1000000000000 := by
  have q0 : 0 ≤ base / 9973 := by omega
  have q1 : base / 9973 ≤ 100270731 := by omega
  have m0 : 0 ≤ turn * (base / 9973) := Int.mul_nonneg t0 q0
  have m1 : turn * (base / 9973) ≤ 9972 * 100270731 := Int.mul_le_mul (by omega) q1 q0 (by decide)
  have h7 : 0 ≤ turn % 7 ∧ turn % 7 < 7 := by omega
  have e1 := Int.emod_nonneg turn (show base ≠ 0 by omega)
  have e2 := Int.emod_lt_of_pos turn (show 0 < base by omega)
  refine ⟨⟨e1, fun h => by omega⟩, by omega, by omega⟩
theorem ok_law_row (B : Bl mg) (D_law_take : Def P w K mg base 1 "_law_take" ["draws", "many"] sp_law_take) (F : Fun K "_law_row" "_law_row" s_law_row f fd) : FnOk P w K mg base CX0 2 f fd ["draws", "most"] sp_law_row := by
  refine F.okq sc_law_row (fun vs H Q E h => ?_) (fun cdv A outer s H vs Q E hr h => ?_)
  · obtain ⟨d, most, rfl, _⟩ := h; rfl
  obtain ⟨d, most, rfl, hd, m1, m2, q⟩ := h
  refine ⟨t_law_row B D_law_take hr, ?_⟩
  refine ⟨d, 12, rfl, hd, by decide, fun g1 H1 g10 g11 hd1 k1 => ?_⟩
  refine ⟨fun σ H' => ∃ many : Int, 1 ≤ many ∧ many ≤ most ∧ DrawsAt H' d ∧ Kp [d] H H' ∧ σ = [some (.ref d), some (.int most), some (.int many), none, none, none, none, none, none, none, none, none, none, none, none, none, none], ?_, ?_⟩
  · refine ⟨d, 8, rfl, hd1, by decide, fun g2 H2 g20 g21 hd2 k2 => dec2 (fun c => ?_) (fun c => ?_)⟩
    · refine ⟨d, most, rfl, hd2, by omega, fun g3 H3 g30 g31 hd3 k3 => ?_⟩
      refine i_newL (by show 2 ≤ sizeLine; decide) fun p4 H4 hp4 s4 e4 => ?_
      refine ⟨d, 2, rfl, hd3.same s4, by decide, fun g5 H5 g50 g51 hd5 k5 => ?_⟩
      have n4 : p4 ≠ d := (hd3.ne hp4).symm
      refine i_ix (.inl (SqL.of (k5.one n4 e4))) (at2 g50 g51) ?_
      refine ⟨if g5 = 0 then most else 1 + g3, by split <;> omega, by split <;> omega, hd5, ((k1.trans k2).trans k3).trans (s4.kp.trans k5), ?_⟩
      by_cases z : g5 = 0
      · rw [if_pos z, if_pos z]; rfl
      · rw [if_neg z, if_neg z]; rfl
    · exact ⟨min most (1 + g1), by omega, by omega, hd2, k1.trans k2, rfl⟩
  rintro σ H2 ⟨many, mn1, mn2, hd2, k2, rfl⟩
  refine ⟨⟨by decide, by decide, by decide⟩, ⟨by decide, by decide, by decide⟩, ⟨by decide, by decide, by decide⟩, ?_⟩
  refine i_newL (by show 8 ≤ sizeLine; decide) fun bs H3 hbs s3 e3 => ?_
  have nbs : bs ≠ d := (hd2.ne hbs).symm
  have e3' : H3 bs = some (.lst (bsL.map V.int)) := e3
  refine ⟨d, 8, rfl, hd2.same s3, by decide, fun g4 H4 g40 g41 hd4 k4 => ?_⟩
  refine i_ixI (k4.one nbs e3') g40 g41 ?_
  have bb0 := bsL_at g40 g41
  generalize hb0 : bsL.getD g4.toNat 0 = b0 at bb0
  have k34 : Kp [d] H H4 := (k2.same s3).trans k4
  have eb4 := k4.one nbs e3'
  refine ⟨d, 4, rfl, hd4, by decide, fun g5 H5 g50 g51 hd5 k5 => ?_⟩
  refine ⟨d, 1000, rfl, hd5, by decide, fun one H6 on0 on1 hd6 k6 => ?_⟩
  refine ⟨d, 1000, rfl, hd6, by decide, fun ot H7 ot0 ot1 hd7 k7 => ?_⟩
  refine ⟨d, 1000, rfl, hd7, by decide, fun th H8 th0 th1 hd8 k8 => ?_⟩
  refine ⟨d, 3, rfl, hd8, by decide, fun fr H9 fr0 fr1 hd9 k9 => ?_⟩
  refine ⟨d, 20, rfl, hd9, by decide, fun lk H10 lk0 lk1 hd10 k10 => ?_⟩
  refine i_newL (by show 3 ≤ sizeLine; decide) fun p11 H11 hp11 s11 e11 => ?_
  refine ⟨d, 3, rfl, hd10.same s11, by decide, fun g12 H12 g120 g121 hd12 k12 => ?_⟩
  have n11 : p11 ≠ d := (hd10.ne hp11).symm
  have hlk : ∃ l : Int, (if g12 = 0 then V.int 1 else if g12 = 1 then V.int 1 else V.int (1 + lk)) = V.int l ∧ 1 ≤ l ∧ l ≤ 20 := by
    by_cases z : g12 = 0
    · exact ⟨1, by rw [if_pos z], by decide, by decide⟩
    · by_cases z1 : g12 = 1
      · exact ⟨1, by rw [if_neg z, if_pos z1], by decide, by decide⟩
      · exact ⟨1 + lk, by rw [if_neg z, if_neg z1], by omega, by omega⟩
  obtain ⟨likes, el, l0, l1⟩ := hlk
  refine i_ix (.inl (SqL.of (k12.one n11 e11))) ((at3 g120 g121).trans (congrArg some el)) ?_
  have kA : Kp [d] H4 H10 := ((((k5.trans k6).trans k7).trans k8).trans k9).trans k10
  have kB : Kp [d] H4 H12 := (kA.same s11).trans k12
  have k12' : Kp [d] H H12 := k34.trans kB
  have eb12 := kB.one nbs eb4
  generalize hmx : decide (g5 = 1) = mixed
  generalize hfr : decide (fr = 1) = free
  refine i_newL (by show 0 ≤ sizeLine; decide) fun fo H13 hfo s13 e13 => ?_
  have nfo : fo ≠ d := (hd12.ne hfo).symm
  have nfb : bs ≠ fo := ne_of_none eb12 hfo
  have hfo0 : H fo = none := k12'.free (by simpa using nfo) hfo
  refine ⟨fun σ H' => ∃ (base : Int) (ns : List Int) (o12 o13 o14 o15 : Option V), (ns.length : Int) = many ∧ (∀ z ∈ ns, 0 ≤ z ∧ z ≤ 1000000000000) ∧ DrawsAt H' d ∧ Kp [d] H H' ∧ H' fo = some (.lst (ns.map V.int)) ∧ σ = [some (.ref d), some (.int most), some (.int many), some (.ref bs), some (.int base), some (.bl mixed), some (.int one), some (.int (1 + ot)), some (.int th), some (.bl free), some (.int likes), some (.ref fo), o12, o13, o14, o15, none], ?_, ?_⟩
  · refine ⟨⟨by omega, by omega⟩, for_range (fun i σ H' => ∃ (base : Int) (ns : List Int) (o12 o13 o14 o15 : Option V), 1 ≤ base ∧ base ≤ 1000000000001 ∧ ns.length = i ∧ (∀ z ∈ ns, 0 ≤ z ∧ z ≤ 1000000000000) ∧ DrawsAt H' d ∧ Kp [d] H H' ∧ H' bs = some (.lst (bsL.map V.int)) ∧ H' fo = some (.lst (ns.map V.int)) ∧ σ = [some (.ref d), some (.int most), some (.int many), some (.ref bs), some (.int base), some (.bl mixed), some (.int one), some (.int (1 + ot)), some (.int th), some (.bl free), some (.int likes), some (.ref fo), o12, o13, o14, o15, none]) ?_ ?_ ?_⟩
    · exact ⟨b0, [], _, _, _, _, bb0.1, bb0.2, rfl, by simp, hd12.same s13, k12'.same s13, s13 _ _ eb12, e13, by first | rfl | (subst hmx; subst hfr; rfl) | (subst hmx; subst hfr; subst hb0; rfl)⟩
    · rintro i σ H14 hi ⟨base, ns, o12, o13, o14, o15, ba0, ba1, hl, hz, hd14, k14, eb14, ef14, rfl⟩
      have hi' : (i : Int) < many := by omega
      refine ⟨⟨by omega, by omega⟩, ?_⟩
      have at0 : 0 ≤ (0 + (i : Int)) / likes := Int.ediv_nonneg (by omega) (by omega)
      have at1 : (0 + (i : Int)) / likes ≤ 120 := by
        have := Int.ediv_le_self likes (show 0 ≤ (0 + (i : Int)) by omega)
        omega
      generalize (0 + (i : Int)) / likes = at_ at at0 at1
      refine ⟨.inl ⟨by omega, by omega⟩, .inr ⟨by omega, by omega⟩, .inl ⟨by omega, by omega⟩, ⟨by decide, by decide⟩, .inr ⟨by decide, by decide⟩, by decide, ?_⟩
      have tn1 := Int.emod_lt_of_pos (at_ * at_ * one + at_ * (1 + ot) + at_ / 7 * 31 + th) (show (0 : Int) < 9973 by decide)
      have tn0 := Int.emod_nonneg (at_ * at_ * one + at_ * (1 + ot) + at_ / 7 * 31 + th) (show (9973 : Int) ≠ 0 by decide)
      generalize (at_ * at_ * one + at_ * (1 + ot) + at_ / 7 * 31 + th) % 9973 = turn at tn1 tn0
      refine ⟨fun σ H' => ∃ base : Int, 1 ≤ base ∧ base ≤ 1000000000001 ∧ H' = H14 ∧ σ = [some (.ref d), some (.int most), some (.int many), some (.ref bs), some (.int base), some (.bl mixed), some (.int one), some (.int (1 + ot)), some (.int th), some (.bl free), some (.int likes), some (.ref fo), some (.int (0 + (i : Int))), some (.int at_), some (.int turn), o15, none], ?_, ?_⟩
      · refine b2 (fun c => ?_) (fun c => ?_)
        · refine ⟨.inl ⟨by omega, by omega⟩, by decide, ?_⟩
          have x0 := Int.emod_nonneg (turn + at_ * at_) (show (8 : Int) ≠ 0 by decide)
          have x1 := Int.emod_lt_of_pos (turn + at_ * at_) (show (0 : Int) < 8 by decide)
          have := bsL_at x0 x1
          exact i_ixI eb14 x0 x1 ⟨_, this.1, this.2, rfl, rfl⟩
        · exact ⟨base, ba0, ba1, rfl, rfl⟩
      rintro σ H' ⟨base, ba0, ba1, rfl, rfl⟩
      refine ⟨fun σ H15 => ∃ turn : Int, 0 ≤ turn ∧ turn < 9973 ∧ DrawsAt H15 d ∧ Kp [d] H' H15 ∧ σ = [some (.ref d), some (.int most), some (.int many), some (.ref bs), some (.int base), some (.bl mixed), some (.int one), some (.int (1 + ot)), some (.int th), some (.bl free), some (.int likes), some (.ref fo), some (.int (0 + (i : Int))), some (.int at_), some (.int turn), o15, none], ?_, ?_⟩
      · have tk : ∀ (D : Ends) (σ : St), True := fun _ _ => trivial
        refine dec2 (fun c => bT ?_) (fun c => b2 (fun c1 => ?_) (fun c1 => bF ?_))
        · exact ⟨d, 1000, rfl, hd14, by decide, fun g H15 g0 g1 hd15 k15 => ⟨g, g0, by omega, hd15, k15, rfl⟩⟩
        · obtain ⟨ds, ed, hd0, hdl⟩ := hd14
          refine i_lenI ed (dec2 (fun c2 => ?_) (fun c2 => ?_))
          · exact ⟨d, 1000, rfl, ⟨ds, ed, hd0, hdl⟩, by decide, fun g H15 g0 g1 hd15 k15 => ⟨g, g0, by omega, hd15, k15, rfl⟩⟩
          · exact ⟨turn, tn0, tn1, ⟨ds, ed, hd0, hdl⟩, Kp.refl _ _, rfl⟩
        · exact ⟨turn, tn0, tn1, hd14, Kp.refl _ _, rfl⟩
      rintro σ H15 ⟨turn, tn0, tn1, hd15, k15, rfl⟩
      obtain ⟨⟨na, nb⟩, nc, nd⟩ := num_ok tn0 tn1 ba0 ba1
      refine ⟨by omega, ⟨by decide, by decide⟩, .inl ⟨by omega, by omega⟩, by decide, ?_⟩
      refine i_newL (by show 2 ≤ sizeLine; decide) fun p16 H16 hp16 s16 e16 => ?_
      have hnum : ∃ number : Int, atI [V.int (turn % base), V.int (turn * (base / 9973) + turn % 7)] (if decide (1000 < base) = true then 1 else 0) = some (.int number) ∧ 0 ≤ number ∧ number ≤ 1000000000000 := by
        by_cases z : 1000 < base
        · exact ⟨_, by rw [decide_eq_true z, if_pos rfl]; rfl, nc, nd⟩
        · exact ⟨_, by rw [decide_eq_false z, if_neg (by decide)]; rfl, na, by have := nb z; omega⟩
      obtain ⟨number, enu, nu0, nu1⟩ := hnum
      refine i_ix (.inl (SqL.of e16)) enu ?_
      have hp16' := hp16
      have ef16 := s16 _ _ (k15.one nfo ef14)
      have eb16 := s16 _ _ (k15.one nbs eb14)
      have kk16 : Kp [d] H H16 := (k14.trans k15).same s16
      refine ⟨i_tyL ef16, ⟨by decide, by decide, by decide⟩, ?_⟩
      refine i_newL (by show 2 ≤ sizeLine; decide) fun p17 H17 hp17 s17 e17 => ?_
      have pick : ∀ bb : Bool, ∃ z : Int, atI [V.int number, V.int (10 ^ Int.toNat 12)] (if bb = true then 1 else 0) = some (.int z) ∧ 0 ≤ z ∧ z ≤ 1000000000000 := fun bb => by
        cases bb
        · exact ⟨number, rfl, nu0, nu1⟩
        · exact ⟨10 ^ Int.toNat 12, rfl, by decide, by decide⟩
      have put : ∀ (bb : Bool) (Q' : VK), (∀ (z : Int) (H' : Hp), 0 ≤ z → z ≤ 1000000000000 → Kp [fo] H17 H' → H' fo = some (.lst ((ns ++ [z]).map V.int)) → Q' .non H') → hIx K p17 (if bb = true then 1 else 0) H17 (fun y H1 => hApp fo y H1 Q') := fun bb Q' hq => by
        obtain ⟨z, ez, z0, z1⟩ := pick bb
        exact i_ix (.inl (SqL.of e17)) ez (i_appI (s17 _ _ ef16) (by omega) fun H18 k18 e18 => hq z H18 z0 z1 k18 e18)
      have fin : ∀ (z : Int) (H18 : Hp), 0 ≤ z → z ≤ 1000000000000 → Kp [fo] H17 H18 → H18 fo = some (.lst ((ns ++ [z]).map V.int)) → ∀ σ : St, σ = [some (.ref d), some (.int most), some (.int many), some (.ref bs), some (.int base), some (.bl mixed), some (.int one), some (.int (1 + ot)), some (.int th), some (.bl free), some (.int likes), some (.ref fo), some (.int (0 + (i : Int))), some (.int at_), some (.int turn), some (.int number), none] → ∃ (base : Int) (ns' : List Int) (o12 o13 o14 o15 : Option V), 1 ≤ base ∧ base ≤ 1000000000001 ∧ ns'.length = i + 1 ∧ (∀ z ∈ ns', 0 ≤ z ∧ z ≤ 1000000000000) ∧ DrawsAt H18 d ∧ Kp [d] H H18 ∧ H18 bs = some (.lst (bsL.map V.int)) ∧ H18 fo = some (.lst (ns'.map V.int)) ∧ σ = [some (.ref d), some (.int most), some (.int many), some (.ref bs), some (.int base), some (.bl mixed), some (.int one), some (.int (1 + ot)), some (.int th), some (.bl free), some (.int likes), some (.ref fo), o12, o13, o14, o15, none] := fun z H18 z0 z1 k18 e18 σ hσ =>
        ⟨base, ns ++ [z], _, _, _, _, ba0, ba1, by simp [hl], fun y hy => by
          rcases List.mem_append.mp hy with hy | hy
          · exact hz y hy
          · have : y = z := by simpa using hy
            subst this; exact ⟨z0, z1⟩, ((hd15.same s16).same s17).kp k18 (by simpa using Ne.symm nfo), (kk16.same s17).new k18 hfo0, k18.one nfb (s17 _ _ eb16), e18, hσ⟩
      refine ⟨⟨by decide, by decide, by decide⟩, dec2 (fun c => ⟨by decide, ?_⟩) (fun c => ?_)⟩
      · exact put _ _ fun z H18 z0 z1 k18 e18 => fin z H18 z0 z1 k18 e18 _ rfl
      · refine put _ _ fun z H18 z0 z1 k18 e18 => ?_
        exact fin z H18 z0 z1 k18 e18 _ rfl
    · rintro σ H' ⟨base, ns, o12, o13, o14, o15, _, _, h1, h2, h3, h4, _, h5, rfl⟩
      exact ⟨base, ns, o12, o13, o14, o15, by omega, h2, h3, h4, h5, rfl⟩
  rintro σ H14 ⟨base, ns, o12, o13, o14, o15, hl, hz, hd14, k14, e14, rfl⟩
  refine ⟨d, 8, rfl, hd14, by decide, fun sh H15 sh0 sh1 hd15 k15 => ?_⟩
  have e15 := k15.one nfo e14
  have kk15 := k14.trans k15
  have rowN : ∀ ms : List Int, ms.length = ns.length → (∀ z ∈ ms, 0 ≤ z ∧ z ≤ 1000000000000) → RowN ms := fun ms h1 h2 => ⟨by omega, by omega, fun n hn => (h2 n hn).1, fun n hn => (h2 n hn).2⟩
  refine dec2 (fun c => ?_) (fun c => ?_)
  · refine i_sorted (SqL.of e15) (by omega) fun p16 H16 ns' hperm hp16 s16 e16 => ?_
    have n16 : p16 ≠ d := (hd15.ne hp16).symm
    exact q p16 ns' H16 (rowN _ hperm.length_eq fun z hz' => hz z (hperm.mem_iff.mp hz')) (by rw [hperm.length_eq]; omega) (hd15.same s16) (kk15.same s16) e16 n16 (kk15.free (by simpa using n16) hp16)
  refine dec2 (fun c => ?_) (fun c => ?_)
  · refine i_sorted (SqL.of e15) (by omega) fun p16 H16 ns' hperm hp16 s16 e16 => ?_
    refine ⟨rfl, i_rev (SqL.of e16) fun p17 H17 hp17 s17 e17 => ?_⟩
    have n17 : p17 ≠ d := ((hd15.same s16).ne hp17).symm
    have e17' : H17 p17 = some (.lst (ns'.reverse.map V.int)) := by rw [e17, List.map_reverse]
    exact q p17 ns'.reverse H17 (rowN _ (by rw [List.length_reverse]; exact hperm.length_eq) fun z hz' => hz z (hperm.mem_iff.mp (List.mem_reverse.mp hz'))) (by rw [List.length_reverse, hperm.length_eq]; omega) ((hd15.same s16).same s17) ((kk15.same s16).same s17) e17' n17 ((kk15.same s16).free (by simpa using n17) hp17)
  refine dec2 (fun c => ?_) (fun c => ?_)
  · have hne : ns ≠ [] := fun z => by rw [z] at hl; simp at hl; omega
    refine ⟨⟨_, SqL.of e15⟩, comp_lst (ns.map V.int) (fun i D σ H' ys => ∃ ws : List Int, ys = ws.map V.int ∧ ws.length = i ∧ (∀ z ∈ ws, 0 ≤ z ∧ z ≤ 1000000000000) ∧ Same H15 H' ∧ ∃ o, σ = [o, some (.ref fo)]) ?_ ?_ ?_ ?_⟩
    · intro D H' hD s' e'
      exact ⟨[], rfl, rfl, by simp, s', _, rfl⟩
    · rintro i D σ H' ys hD ⟨_, _, _, _, s', _⟩
      exact SqL.of (s' _ _ e15)
    · rintro i x D σ H' ys hx hD ⟨ws, rfl, hlw, hw, s', o, rfl⟩ eD
      obtain ⟨z, rfl, hz1, hz2⟩ := vints_at hx
      have hi : i < ns.length := (List.getElem?_eq_some_iff.mp hz1).1
      refine bT (i_newL (by show 2 ≤ sizeLine; decide) fun p17 H17 hp17 s17 e17 => ?_)
      refine i_max (SqL.of (s17 _ _ (s' _ _ e15))) hne fun M hM hmax => ?_
      have pick : ∀ bb : Bool, ∃ y : Int, atI [V.int 0, V.int z] (if bb = true then 1 else 0) = some (.int y) ∧ 0 ≤ y ∧ y ≤ 1000000000000 := fun bb => by
        cases bb
        · exact ⟨0, rfl, by decide, by decide⟩
        · exact ⟨z, rfl, (hz z hz2).1, (hz z hz2).2⟩
      obtain ⟨y, ey, y0, y1⟩ := pick (decide (z = M))
      refine i_ix (.inl (SqL.of e17)) ey ?_
      refine ⟨s17 _ _ eD, sz_lt (by rw [List.length_map]; omega), fun H18 k18 e18 => ⟨ws ++ [y], map_snoc ws _, by simp [hlw], fun v hv => ?_, (s'.trans s17).new k18 hD, _, rfl⟩⟩
      rcases List.mem_append.mp hv with hv | hv
      · exact hw v hv
      · have : v = y := by simpa using hv
        subst this; exact ⟨y0, y1⟩
    · rintro D σ H' ys hD ⟨ws, rfl, hlw, hw, s', _⟩ eD
      rw [List.length_map] at hlw
      have nD : D ≠ d := (hd15.ne hD).symm
      exact q D ws H' (rowN _ hlw hw) (by rw [hlw]; omega) (hd15.same s') (kk15.same s') eD nD (kk15.free (by simpa using nD) hD)
  · exact q fo ns H15 (rowN _ rfl hz) (by omega) hd15 kk15 e15 nfo hfo0

abbrev s_law_pieces : Stmt := top 15
theorem sc_law_pieces : FnScope ["draws", "row", "some"] ["draws", "row"] (defScope s_law_pieces) := ⟨rfl, rfl, rfl, by decide +kernel, rfl, by decide +kernel, by decide +kernel⟩
theorem l_law_pieces_some : Loc (defScope s_law_pieces) "some" := Or.inl (by kernel_rfl)
theorem v_law_pieces_draws : Vis (defScope s_law_pieces) "draws" := Or.inl (by kernel_rfl)
theorem v_law_pieces_row : Vis (defScope s_law_pieces) "row" := Or.inl (by kernel_rfl)
theorem v_law_pieces_some : Vis (defScope s_law_pieces) "some" := Or.inl (by kernel_rfl)
theorem g_law_pieces__law_take : (defScope s_law_pieces).names.lookup ("_law_take" : Str) = some NameKind.globalImplicit := by kernel_rfl
theorem g_law_pieces_len : (defScope s_law_pieces).names.lookup ("len" : Str) = some NameKind.globalImplicit := by kernel_rfl
theorem g_law_pieces_min : (defScope s_law_pieces).names.lookup ("min" : Str) = some NameKind.globalImplicit := by kernel_rfl
def t_law_pieces {cdv : Value} {A : Around} {outer : List Env} {s : Shared} {H : Hp} {E : XK} (B : Bl mg) (D_law_take : Def P w K mg base 1 "_law_take" ["draws", "many"] sp_law_take) (hr : Room 1 (A.deeper (PyProof.Rows.envOfC "_law_pieces" (defScope s_law_pieces) s.heap.objs.size f cdv))) :
    { t : TS // QB (cxOf CX0 P w K mg base ["draws", "row", "some"] "_law_pieces" (defScope s_law_pieces) f cdv A outer s H E).nox (defBody s_law_pieces) t } :=
  ⟨_, (qb_cons (qs_set (i := 2) sc_law_pieces.nd rfl l_law_pieces_some (.inl rfl) (qe_lst (qa_cons qe_int (qa_cons (qe_cB (kLen (K := K) rfl) g_law_pieces_len B.len boot_len' (qa_cons (qv 1 rfl v_law_pieces_row) qa_nil)) (qa_cons (qe_cB (kMin (K := K) rfl rfl) g_law_pieces_min B.min boot_min' (qa_cons (qe_cB (kLen (K := K) rfl) g_law_pieces_len B.len boot_len' (qa_cons (qv 1 rfl v_law_pieces_row) qa_nil)) (qa_cons (qe_op opAdd qe_int (qe_def D_law_take hr (by decide) g_law_pieces__law_take (qa_cons (qv 0 rfl v_law_pieces_draws) (qa_cons qe_int qa_nil)))) qa_nil))) (qa_cons (qe_op opAdd qe_int (qe_op opMod (qe_def D_law_take hr (by decide) g_law_pieces__law_take (qa_cons (qv 0 rfl v_law_pieces_draws) (qa_cons qe_int qa_nil))) (qe_cB (kLen (K := K) rfl) g_law_pieces_len B.len boot_len' (qa_cons (qv 1 rfl v_law_pieces_row) qa_nil)))) qa_nil))))))
    (qb_one (qs_ret (ke_ix (K := K) rfl (qv 2 rfl v_law_pieces_some) (ke_ix (K := K) rfl (qe_lst (qa_cons qe_int (qa_cons qe_int (qa_cons qe_int (qa_cons qe_int (qa_cons qe_int (qa_cons qe_int (qa_cons qe_int qa_nil)))))))) (qe_def D_law_take hr (by decide) g_law_pieces__law_take (qa_cons (qv 0 rfl v_law_pieces_draws) (qa_cons qe_int qa_nil))) (fun _ _ => rfl)) (fun _ _ => rfl)))))⟩
theorem ok_law_pieces (B : Bl mg) (D_law_take : Def P w K mg base 1 "_law_take" ["draws", "many"] sp_law_take) (F : Fun K "_law_pieces" "_law_pieces" s_law_pieces f fd) : FnOk P w K mg base CX0 2 f fd ["draws", "row"] sp_law_pieces := by
  refine F.okq sc_law_pieces (fun vs H Q E h => ?_) (fun cdv A outer s H vs Q E hr h => ?_)
  · obtain ⟨d, r, ns, rfl, _⟩ := h; rfl
  obtain ⟨d, r, ns, rfl, hd, hr0, nrd, n1, n2, q⟩ := h
  refine ⟨t_law_pieces B D_law_take hr, ?_⟩
  refine i_lenI hr0 (i_lenI hr0 ⟨d, 4, rfl, hd, by decide, fun g H1 g0 g1 hd1 k1 => ?_⟩)
  refine ⟨d, 1000, rfl, hd1, by decide, fun g' H2 g0' g1' hd2 k2 => ?_⟩
  have er2 := k2.one nrd (k1.one nrd hr0)
  refine i_lenI er2 ⟨by omega, i_newL (by show 4 ≤ sizeLine; decide) fun p3 H3 hp3 s3 e3 => ?_⟩
  refine i_newL (by show 7 ≤ sizeLine; decide) fun p4 H4 hp4 s4 e4 => ?_
  refine ⟨d, 7, rfl, (hd2.same s3).same s4, by decide, fun g5 H5 g50 g51 hd5 k5 => ?_⟩
  have n3 : p3 ≠ d := (hd2.ne hp3).symm
  have n4 : p4 ≠ d := ((hd2.same s3).ne hp4).symm
  have e4' : H5 p4 = some (.lst (([0, 1, 2, 2, 3, 3, 3] : List Int).map V.int)) := k5.one n4 e4
  refine i_ixI e4' g50 (by simpa using g51) ?_
  have hm := atInts (ns := [0, 1, 2, 2, 3, 3, 3]) g50 (by simpa using g51)
  generalize ([0, 1, 2, 2, 3, 3, 3] : List Int).getD g5.toNat 0 = j at hm
  have hj : 0 ≤ j ∧ j < 4 := by
    simp only [List.mem_cons, List.not_mem_nil, or_false] at hm
    omega
  have b0 := Int.emod_nonneg g' (show (ns.length : Int) ≠ 0 by omega)
  have b1 := Int.emod_lt_of_pos g' (show (0 : Int) < ns.length by omega)
  have e3' : H5 p3 = some (.lst (([1, (ns.length : Int), min (ns.length : Int) (2 + g), 1 + g' % (ns.length : Int)] : List Int).map V.int)) := k5.one n3 (s4 _ _ e3)
  refine i_ixI e3' hj.1 (by simpa using hj.2) ?_
  have hm2 := atInts (ns := [1, (ns.length : Int), min (ns.length : Int) (2 + g), 1 + g' % (ns.length : Int)]) hj.1 (by simpa using hj.2)
  generalize ([1, (ns.length : Int), min (ns.length : Int) (2 + g), 1 + g' % (ns.length : Int)] : List Int).getD j.toNat 0 = z at hm2
  have hz : 1 ≤ z ∧ z ≤ ns.length := by
    simp only [List.mem_cons, List.not_mem_nil, or_false] at hm2
    omega
  have ez : z = ((z.toNat : Nat) : Int) := by omega
  rw [ez]
  exact q _ H5 (by omega) (by omega) hd5 ((((k1.trans k2).same s3).same s4).trans k5)

end
end K

set_option linter.all false
set_option Elab.async false
set_option maxRecDepth 100000
set_option maxHeartbeats 4000000
namespace K
open PySem L2
section
variable {C : Addr} {P : Program} {w : World} {K : PySem.W.Frag} {mg : Str → Option Value} {base : Heap} {f : Addr} {fd : FuncData}

abbrev s_is_whole : Stmt := top 4
theorem sc_is_whole : FnScope ["thing"] ["thing"] (defScope s_is_whole) := ⟨rfl, rfl, rfl, by decide +kernel, rfl, by decide +kernel, by decide +kernel⟩
theorem v_is_whole_thing : Vis (defScope s_is_whole) "thing" := Or.inl (by kernel_rfl)
theorem g_is_whole_bool : (defScope s_is_whole).names.lookup ("bool" : Str) = some NameKind.globalImplicit := by kernel_rfl
theorem g_is_whole_int : (defScope s_is_whole).names.lookup ("int" : Str) = some NameKind.globalImplicit := by kernel_rfl
theorem g_is_whole_isinstance : (defScope s_is_whole).names.lookup ("isinstance" : Str) = some NameKind.globalImplicit := by kernel_rfl
def t_is_whole {cdv : Value} {A : Around} {outer : List Env} {s : Shared} {H : Hp} {E : XK} (B : Bl mg) (hr : Room 0 (A.deeper (PyProof.Rows.envOfC "is_whole" (defScope s_is_whole) s.heap.objs.size f cdv))) :
    { t : TS // QB (cxOf CX0 P w K mg base ["thing"] "is_whole" (defScope s_is_whole) f cdv A outer s H E).nox (defBody s_is_whole) t } :=
  ⟨_, (qb_one (qs_ret (ke_and (K := K) rfl (qe_cB (kIsiG (K := K) rfl) g_is_whole_isinstance B.isinstance boot_isinstance' (qa_cons (qv 0 rfl v_is_whole_thing) (qa_cons (qe_ty g_is_whole_int B.int boot_int) qa_nil))) (qe_one (ke_not (K := K) rfl (qe_cB (kIsiG (K := K) rfl) g_is_whole_isinstance B.isinstance boot_isinstance' (qa_cons (qv 0 rfl v_is_whole_thing) (qa_cons (qe_ty g_is_whole_bool B.bool boot_bool) qa_nil))))))))⟩
/-- a thing of any kind -/
inductive An (H : Hp) : V → Prop where
  | int (i : Int) : An H (.int i)
  | odd {x : V} (o : Odd H x) : An H x
  | dK {a : Addr} {kvs : List (Key × V)} (h : H a = some (.dK kvs)) : An H (.ref a)
theorem An.same {H H' : Hp} {x : V} (s : Same H H') (o : An H x) : An H' x := by
  cases o with
  | int i => exact .int i
  | odd o => exact .odd (o.same s)
  | dK h => exact .dK (s _ _ h)
def isI : V → Bool
  | .int _ => true
  | _ => false
def isB : V → Bool
  | .bl _ => true
  | _ => false
theorem An.isInt {x : V} {H : Hp} {Q : VK} (o : An H x) (q : Q (.bl (isI x || isB x)) H) : hIsiG K x "int" H Q := by
  cases o with
  | int i => exact i_isiG (i_isi (.int i) (by simp) (by simp) q)
  | odd o => cases o with
    | non => exact i_isiG (i_isi .non (by simp) (by simp) q)
    | bl b => exact i_isiG (i_isi (.bl b) (by simp) (by simp) q)
    | str z => exact i_isiG (i_isi (.str z) (by simp) (by simp) q)
    | lst h => exact i_isiG (i_isi (.lst h) (by simp) (by simp) q)
    | tup h => exact i_isiG (i_isi (.tup h) (by simp) (by simp) q)
    | dct h => exact i_isiE h (.inl rfl) (.inl rfl) q
    | exc h => exact i_isiE h (.inr rfl) (.inl rfl) q
  | dK h => exact i_isiG (i_isi (.dK h) (by simp) (by simp) q)
theorem An.isBool {x : V} {H : Hp} {Q : VK} (o : An H x) (q : Q (.bl (isB x)) H) : hIsiG K x "bool" H Q := by
  cases o with
  | int i => exact i_isiG (i_isi (.int i) (by simp) (by simp) q)
  | odd o => cases o with
    | non => exact i_isiG (i_isi .non (by simp) (by simp) q)
    | bl b => exact i_isiG (i_isi (.bl b) (by simp) (by simp) q)
    | str z => exact i_isiG (i_isi (.str z) (by simp) (by simp) q)
    | lst h => exact i_isiG (i_isi (.lst h) (by simp) (by simp) q)
    | tup h => exact i_isiG (i_isi (.tup h) (by simp) (by simp) q)
    | dct h => exact i_isiE h (.inl rfl) (.inr (.inl rfl)) q
    | exc h => exact i_isiE h (.inr rfl) (.inr (.inl rfl)) q
  | dK h => exact i_isiG (i_isi (.dK h) (by simp) (by simp) q)
/-- the list that a thing is -/
def lsOf (H : Hp) : V → Option (List V)
  | .ref a => match H a with
    | some (.lst xs) => some xs
    | _ => none
  | _ => none
theorem lsOf_lst {H : Hp} {a : Addr} {xs : List V} (h : H a = some (.lst xs)) : lsOf H (.ref a) = some xs := by simp [lsOf, h]
theorem lsOf_some {H : Hp} {x : V} {xs : List V} (h : lsOf H x = some xs) : ∃ a, x = .ref a ∧ H a = some (.lst xs) := by
  cases x with
  | ref a =>
    refine ⟨a, rfl, ?_⟩
    simp only [lsOf] at h
    split at h
    · rename_i e; cases h; exact e
    · cases h
  | _ => cases h
theorem An.isList {x : V} {H : Hp} {Q : VK} (o : An H x) (q : Q (.bl (lsOf H x).isSome) H) : hIsiG K x "list" H Q := by
  cases o with
  | int i => exact i_isiG (i_isi (.int i) (by simp) (by simp) q)
  | odd o => cases o with
    | non => exact i_isiG (i_isi .non (by simp) (by simp) q)
    | bl b => exact i_isiG (i_isi (.bl b) (by simp) (by simp) q)
    | str z => exact i_isiG (i_isi (.str z) (by simp) (by simp) q)
    | lst h => exact i_isiG (i_isi (.lst h) (by simp) (by simp) (by rw [lsOf_lst h] at q; exact q))
    | tup h => exact i_isiG (i_isi (.tup h) (by simp) (by simp) (by simp only [lsOf, h] at q; exact q))
    | dct h => exact i_isiE h (.inl rfl) (.inr (.inr (.inl rfl))) (by simp only [lsOf, h, exo] at q; exact q)
    | exc h => exact i_isiE h (.inr rfl) (.inr (.inr (.inl rfl))) (by simp only [lsOf, h, exo] at q; exact q)
  | dK h => exact i_isiG (i_isi (.dK h) (by simp) (by simp) (by simp only [lsOf, h] at q; exact q))
theorem tg_an {S : List Addr} {n B : Nat} {H : Hp} {x : V} (h : Tg S n B H x) : An H x := by
  obtain ⟨d, h, _⟩ := h
  cases x with
  | non => exact .odd .non
  | bl b => exact .odd (.bl b)
  | int i => exact .int i
  | str z => exact .odd (.str z)
  | ref a =>
    cases n with
    | zero => exact (show False from h).elim
    | succ n =>
      obtain ⟨_, h⟩ := h
      rcases h with ⟨xs, ds, h1, _⟩ | ⟨xs, ds, h1, _⟩ | ⟨xs, ds, h1, _⟩
      · exact .odd (.lst h1)
      · exact .odd (.tup h1)
      · exact .dK h1
  | _ => cases n <;> exact (show False from h).elim
theorem fit_mem {B : Nat} : ∀ {ds : List PyData}, PyData.showableAll ds = true → PyData.leavesShortAll 50 ds = true → PyData.bulkAll ds ≤ B → ∀ d ∈ ds, Fit B d
  | d :: ds, h1, h2, h3, e, he => by
    simp only [PyData.showableAll, PyData.leavesShortAll, PyData.bulkAll, Bool.and_eq_true] at h1 h2 h3
    rcases List.mem_cons.mp he with rfl | he
    · exact ⟨h1.1, h2.1, by omega⟩
    · exact fit_mem h1.2 h2.2 (by omega) e he
theorem paired_mem {α β : Type} {F : α → β → Prop} : ∀ {l : List α} {m : List β}, Paired F l m → ∀ a ∈ l, ∃ b ∈ m, F a b
  | _, _, .cons f t, a, h => by
    rcases List.mem_cons.mp h with rfl | h
    · exact ⟨_, List.mem_cons_self, f⟩
    · obtain ⟨b, hb, f⟩ := paired_mem t a h
      exact ⟨b, List.mem_cons_of_mem _ hb, f⟩
/-- the items of a thing that is a list -/
theorem tg_items {S : List Addr} {n B : Nat} {H : Hp} {a : Addr} {xs : List V} (h : Tg S (n + 1) B H (.ref a)) (e : H a = some (.lst xs)) : a ∉ S ∧ ∀ x ∈ xs, Tg S n B H x := by
  obtain ⟨d, ⟨hs, h⟩, f⟩ := h
  refine ⟨hs, fun x hx => ?_⟩
  rcases h with ⟨ys, ds, h1, rfl, h3⟩ | ⟨ys, ds, h1, _⟩ | ⟨ys, ds, h1, _⟩
  · rw [h1] at e; cases e
    obtain ⟨d, hd, r⟩ := paired_mem h3 x hx
    exact ⟨d, r, fit_mem f.sh f.lf f.bk d hd⟩
  · rw [h1] at e; cases e
  · rw [h1] at e; cases e
theorem An.ls {H H' : Hp} {x : V} (o : An H x) (s : Same H H') : lsOf H' x = lsOf H x := by
  cases o with
  | int i => rfl
  | odd o => cases o with
    | non => rfl
    | bl b => rfl
    | str z => rfl
    | lst h => simp only [lsOf, h, s _ _ h]
    | tup h => simp only [lsOf, h, s _ _ h]
    | dct h => simp only [lsOf, h, s _ _ h]
    | exc h => simp only [lsOf, h, s _ _ h]
  | dK h => simp only [lsOf, h, s _ _ h]
theorem i_repV {H : Hp} {a : Addr} {Q : VK} {z : V} {k : Int} (h1 : H a = some (.lst [z])) (h0 : 0 ≤ k) (hl : k ≤ 2000) (q : ∀ p H', H p = none → Same H H' → H' p = some (.lst (List.replicate k.toNat z)) → Q (.ref p) H') : hRep a k H Q := by
  have e : ∀ n : Nat, (List.replicate n [z]).flatten = List.replicate n z := by
    intro n
    induction n with
    | zero => rfl
    | succ n ih => rw [List.replicate_succ, List.flatten_cons, ih, List.replicate_succ]; rfl
  unfold hRep
  refine ⟨_, h1, by omega, by omega, ?_, fun p hp => q p _ hp (same_upd hp) ?_⟩
  · rw [sizeLine_eq]; simp only [List.length_cons, List.length_nil]; omega
  · rw [e]; exact upd_same
def sp_is_whole : Sp := fun vs H Q _ => ∃ x, vs = [x] ∧ An H x ∧ Q (.bl (isI x)) H
theorem ok_is_whole (B : Bl mg) (F : Fun K "is_whole" "is_whole" s_is_whole f fd) : FnOk P w K mg base CX0 1 f fd ["thing"] sp_is_whole := by
  refine F.okq sc_is_whole (fun vs H Q E h => ?_) (fun cdv A outer s H vs Q E hr h => ?_)
  · obtain ⟨i, rfl, _⟩ := h; rfl
  obtain ⟨x, rfl, h, q⟩ := h
  refine ⟨t_is_whole B  hr, ?_⟩
  refine h.isInt ?_
  cases x with
  | int i => exact bT (h.isBool q)
  | bl b => exact bT (h.isBool q)
  | _ => exact bF q

/-- the tuple that a thing is -/
def tpOf (H : Hp) : V → Option (List V)
  | .ref a => match H a with
    | some (.tup xs) => some xs
    | _ => none
  | _ => none
theorem tpOf_tup {H : Hp} {a : Addr} {xs : List V} (h : H a = some (.tup xs)) : tpOf H (.ref a) = some xs := by simp [tpOf, h]
theorem tpOf_some {H : Hp} {x : V} {xs : List V} (h : tpOf H x = some xs) : ∃ a, x = .ref a ∧ H a = some (.tup xs) := by
  cases x with
  | ref a =>
    refine ⟨a, rfl, ?_⟩
    simp only [tpOf] at h
    split at h
    · rename_i e; cases h; exact e
    · cases h
  | _ => cases h
def isS : V → Bool
  | .str _ => true
  | _ => false
theorem An.isTup {x : V} {H : Hp} {Q : VK} (o : An H x) (q : Q (.bl (tpOf H x).isSome) H) : hIsiG K x "tuple" H Q := by
  cases o with
  | int i => exact i_isiG (i_isi (.int i) (by simp) (by simp) q)
  | odd o => cases o with
    | non => exact i_isiG (i_isi .non (by simp) (by simp) q)
    | bl b => exact i_isiG (i_isi (.bl b) (by simp) (by simp) q)
    | str z => exact i_isiG (i_isi (.str z) (by simp) (by simp) q)
    | lst h => exact i_isiG (i_isi (.lst h) (by simp) (by simp) (by simp only [tpOf, h] at q; exact q))
    | tup h => exact i_isiG (i_isi (.tup h) (by simp) (by simp) (by rw [tpOf_tup h] at q; exact q))
    | dct h => exact i_isiE h (.inl rfl) (.inr (.inr (.inr (.inr rfl)))) (by simp only [tpOf, h, exo] at q; exact q)
    | exc h => exact i_isiE h (.inr rfl) (.inr (.inr (.inr (.inr rfl)))) (by simp only [tpOf, h, exo] at q; exact q)
  | dK h => exact i_isiG (i_isi (.dK h) (by simp) (by simp) (by simp only [tpOf, h] at q; exact q))
theorem An.isStr {x : V} {H : Hp} {Q : VK} (o : An H x) (q : Q (.bl (isS x)) H) : hIsiG K x "str" H Q := by
  cases o with
  | int i => exact i_isiG (i_isi (.int i) (by simp) (by simp) q)
  | odd o => cases o with
    | non => exact i_isiG (i_isi .non (by simp) (by simp) q)
    | bl b => exact i_isiG (i_isi (.bl b) (by simp) (by simp) q)
    | str z => exact i_isiG (i_isi (.str z) (by simp) (by simp) q)
    | lst h => exact i_isiG (i_isi (.lst h) (by simp) (by simp) q)
    | tup h => exact i_isiG (i_isi (.tup h) (by simp) (by simp) q)
    | dct h => exact i_isiE h (.inl rfl) (.inr (.inr (.inr (.inl rfl)))) q
    | exc h => exact i_isiE h (.inr rfl) (.inr (.inr (.inr (.inl rfl)))) q
  | dK h => exact i_isiG (i_isi (.dK h) (by simp) (by simp) q)
theorem An.tp {H H' : Hp} {x : V} (o : An H x) (s : Same H H') : tpOf H' x = tpOf H x := by
  cases o with
  | int i => rfl
  | odd o => cases o with
    | non => rfl
    | bl b => rfl
    | str z => rfl
    | lst h => simp only [tpOf, h, s _ _ h]
    | tup h => simp only [tpOf, h, s _ _ h]
    | dct h => simp only [tpOf, h, s _ _ h]
    | exc h => simp only [tpOf, h, s _ _ h]
  | dK h => simp only [tpOf, h, s _ _ h]
/-- a thing, known n deep -/
def Kn : Nat → Hp → V → Prop
  | 0, H, x => An H x
  | n + 1, H, x => An H x ∧ (∀ xs, lsOf H x = some xs → ∀ y ∈ xs, Kn n H y) ∧ ∀ xs, tpOf H x = some xs → ∀ y ∈ xs, Kn n H y
theorem Kn.an {n : Nat} {H : Hp} {x : V} (h : Kn n H x) : An H x := by cases n with | zero => exact h | succ n => exact h.1
theorem Kn.same : ∀ {n : Nat} {H H' : Hp} {x : V}, Same H H' → Kn n H x → Kn n H' x
  | 0, _, _, _, s, h => An.same s h
  | n + 1, _, _, _, s, h => ⟨h.1.same s, fun xs e y hy => (h.2.1 xs (by rw [← h.1.ls s]; exact e) y hy).same s, fun xs e y hy => (h.2.2 xs (by rw [← h.1.tp s]; exact e) y hy).same s⟩
theorem tg_itemsT {S : List Addr} {n B : Nat} {H : Hp} {a : Addr} {xs : List V} (h : Tg S (n + 1) B H (.ref a)) (e : H a = some (.tup xs)) : a ∉ S ∧ ∀ x ∈ xs, Tg S n B H x := by
  obtain ⟨d, ⟨hs, h⟩, f⟩ := h
  refine ⟨hs, fun x hx => ?_⟩
  rcases h with ⟨ys, ds, h1, _⟩ | ⟨ys, ds, h1, rfl, h3⟩ | ⟨ys, ds, h1, _⟩
  · rw [h1] at e; cases e
  · rw [h1] at e; cases e
    obtain ⟨d, hd, r⟩ := paired_mem h3 x hx
    exact ⟨d, r, fit_mem f.sh f.lf f.bk d hd⟩
  · rw [h1] at e; cases e
theorem tg_kn {S : List Addr} {B : Nat} {H : Hp} : ∀ (k n : Nat) (x : V), Tg S n B H x → Kn k H x
  | 0, n, x, h => tg_an h
  | k + 1, n, x, h => ⟨tg_an h, fun xs e y hy => by
      obtain ⟨a, rfl, ea⟩ := lsOf_some e
      exact tg_kn k n y ((tg_items (h.le (Nat.le_succ n) (Nat.le_refl B)) ea).2 y hy), fun xs e y hy => by
      obtain ⟨a, rfl, ea⟩ := tpOf_some e
      exact tg_kn k n y ((tg_itemsT (h.le (Nat.le_succ n) (Nat.le_refl B)) ea).2 y hy)⟩
theorem i_lenT {H : Hp} {a : Addr} {Q : VK} {xs : List V} (h : H a = some (.tup xs)) (q : Q (.int xs.length) H) : hLen K a H Q := i_len (.inr (SqT.of h)) q

end
end K

set_option linter.all false
set_option Elab.async false
set_option maxRecDepth 100000
set_option maxHeartbeats 4000000
namespace K
open PySem L2
section
variable {C : Addr} {P : Program} {w : World} {K : PySem.W.Frag} {mg : Str → Option Value} {base : Heap} {f : Addr} {fd : FuncData}

abbrev s_is_within : Stmt := top 5
theorem sc_is_within : FnScope ["thing", "low", "high"] ["thing", "low", "high"] (defScope s_is_within) := ⟨rfl, rfl, rfl, by decide +kernel, rfl, by decide +kernel, by decide +kernel⟩
theorem v_is_within_high : Vis (defScope s_is_within) "high" := Or.inl (by kernel_rfl)
theorem v_is_within_low : Vis (defScope s_is_within) "low" := Or.inl (by kernel_rfl)
theorem v_is_within_thing : Vis (defScope s_is_within) "thing" := Or.inl (by kernel_rfl)
theorem g_is_within_is_whole : (defScope s_is_within).names.lookup ("is_whole" : Str) = some NameKind.globalImplicit := by kernel_rfl
def t_is_within {cdv : Value} {A : Around} {outer : List Env} {s : Shared} {H : Hp} {E : XK} (B : Bl mg) (D_is_whole : Def P w K mg base 1 "is_whole" ["thing"] sp_is_whole) (hr : Room 1 (A.deeper (PyProof.Rows.envOfC "is_within" (defScope s_is_within) s.heap.objs.size f cdv))) :
    { t : TS // QB (cxOf CX0 P w K mg base ["thing", "low", "high"] "is_within" (defScope s_is_within) f cdv A outer s H E).nox (defBody s_is_within) t } :=
  ⟨_, (qb_one (qs_ret (ke_and (K := K) rfl (qe_def D_is_whole hr (by decide) g_is_within_is_whole (qa_cons (qv 0 rfl v_is_within_thing) qa_nil)) (qe_one (qe_chain opLe opLe (qv 1 rfl v_is_within_low) (qv 0 rfl v_is_within_thing) (qv 2 rfl v_is_within_high))))))⟩
def inW (x : V) (l u : Int) : Bool := match x with
  | .int i => decide (l ≤ i ∧ i ≤ u)
  | _ => false
def sp_is_within : Sp := fun vs H Q _ => ∃ (x : V) (l u : Int), vs = [x, .int l, .int u] ∧ An H x ∧ Q (.bl (inW x l u)) H
theorem ok_is_within (B : Bl mg) (D_is_whole : Def P w K mg base 1 "is_whole" ["thing"] sp_is_whole) (F : Fun K "is_within" "is_within" s_is_within f fd) : FnOk P w K mg base CX0 2 f fd ["thing", "low", "high"] sp_is_within := by
  refine F.okq sc_is_within (fun vs H Q E h => ?_) (fun cdv A outer s H vs Q E hr h => ?_)
  · obtain ⟨x, l, u, rfl, _⟩ := h; rfl
  obtain ⟨x, l, u, rfl, h, q⟩ := h
  refine ⟨t_is_within B D_is_whole hr, ?_⟩
  refine ⟨_, rfl, h, ?_⟩
  cases x with
  | int i =>
    refine bT (dec2 (fun c => ?_) (fun c => ?_))
    · have e : inW (.int i) l u = decide (i ≤ u) := by simp [inW, c]
      rw [e] at q; exact q
    · have e : inW (.int i) l u = false := by simp [inW, c]
      rw [e] at q; exact q
  | _ => exact bF q
theorem drop_at {xs : List V} {i : Nat} {x : V} (h : xs[i]? = some x) : xs.drop i = x :: xs.drop (i + 1) := by
  obtain ⟨hi, e⟩ := List.getElem?_eq_some_iff.mp h
  rw [List.drop_eq_getElem_cons hi, e]

end
end K

set_option linter.all false
set_option Elab.async false
set_option maxRecDepth 100000
set_option maxHeartbeats 4000000
namespace K
open PySem L2
section
variable {C : Addr} {P : Program} {w : World} {K : PySem.W.Frag} {mg : Str → Option Value} {base : Heap} {f : Addr} {fd : FuncData}

abbrev s_is_stretch : Stmt := top 10
theorem sc_is_stretch : FnScope ["row", "thing", "least", "begin", "end"] ["row", "thing", "least"] (defScope s_is_stretch) := ⟨rfl, rfl, rfl, by decide +kernel, rfl, by decide +kernel, by decide +kernel⟩
theorem l_is_stretch_begin : Loc (defScope s_is_stretch) "begin" := Or.inl (by kernel_rfl)
theorem l_is_stretch_end : Loc (defScope s_is_stretch) "end" := Or.inl (by kernel_rfl)
theorem v_is_stretch_begin : Vis (defScope s_is_stretch) "begin" := Or.inl (by kernel_rfl)
theorem v_is_stretch_end : Vis (defScope s_is_stretch) "end" := Or.inl (by kernel_rfl)
theorem v_is_stretch_least : Vis (defScope s_is_stretch) "least" := Or.inl (by kernel_rfl)
theorem v_is_stretch_row : Vis (defScope s_is_stretch) "row" := Or.inl (by kernel_rfl)
theorem v_is_stretch_thing : Vis (defScope s_is_stretch) "thing" := Or.inl (by kernel_rfl)
theorem g_is_stretch_is_within : (defScope s_is_stretch).names.lookup ("is_within" : Str) = some NameKind.globalImplicit := by kernel_rfl
theorem g_is_stretch_isinstance : (defScope s_is_stretch).names.lookup ("isinstance" : Str) = some NameKind.globalImplicit := by kernel_rfl
theorem g_is_stretch_len : (defScope s_is_stretch).names.lookup ("len" : Str) = some NameKind.globalImplicit := by kernel_rfl
theorem g_is_stretch_tuple : (defScope s_is_stretch).names.lookup ("tuple" : Str) = some NameKind.globalImplicit := by kernel_rfl
def t_is_stretch {cdv : Value} {A : Around} {outer : List Env} {s : Shared} {H : Hp} {E : XK} (B : Bl mg) (D_is_within : Def P w K mg base 2 "is_within" ["thing", "low", "high"] sp_is_within) (hr : Room 2 (A.deeper (PyProof.Rows.envOfC "is_stretch" (defScope s_is_stretch) s.heap.objs.size f cdv))) :
    { t : TS // QB (cxOf CX0 P w K mg base ["row", "thing", "least", "begin", "end"] "is_stretch" (defScope s_is_stretch) f cdv A outer s H E).nox (defBody s_is_stretch) t } :=
  ⟨_, (qb_cons (qs_if (QW.pt (qw_or (qt_not (kt_val (K := K) rfl (qe_cB (kIsiG (K := K) rfl) g_is_stretch_isinstance B.isinstance boot_isinstance' (qa_cons (qv 1 rfl v_is_stretch_thing) (qa_cons (qe_ty g_is_stretch_tuple B.tuple boot_tuple) qa_nil))))) (qw_or1 (qt_cmp (kNeG (K := K) rfl hr) (qe_cB (kLen (K := K) rfl) g_is_stretch_len B.len boot_len' (qa_cons (qv 1 rfl v_is_stretch_thing) qa_nil)) qe_int)))) (qb_one (qs_ret qe_bl)) qb_nil)
    (qb_cons (qs_asg (qv 1 rfl v_is_stretch_thing) (kg_tup (K := K) rfl rfl (qgs_cons (qg_name (i := 3) sc_is_stretch.nd rfl l_is_stretch_begin (.inl rfl)) (qgs_cons (qg_name (i := 4) sc_is_stretch.nd rfl l_is_stretch_end (.inl rfl)) qgs_nil))))
    (qb_one (qs_ret (ke_and (K := K) rfl (qe_def D_is_within hr (by decide) g_is_stretch_is_within (qa_cons (qv 4 rfl v_is_stretch_end) (qa_cons qe_int (qa_cons (qe_cB (kLen (K := K) rfl) g_is_stretch_len B.len boot_len' (qa_cons (qv 0 rfl v_is_stretch_row) qa_nil)) qa_nil)))) (qe_one (qe_def D_is_within hr (by decide) g_is_stretch_is_within (qa_cons (qv 3 rfl v_is_stretch_begin) (qa_cons (qv 2 rfl v_is_stretch_least) (qa_cons (qe_op opSub (qv 4 rfl v_is_stretch_end) qe_int) qa_nil))))))))))⟩
abbrev s_are_stretches : Stmt := top 9
theorem sc_are_stretches : FnScope ["row", "many", "thing", "least", "stretch"] ["row", "many", "thing"] (defScope s_are_stretches) := ⟨rfl, rfl, rfl, by decide +kernel, rfl, by decide +kernel, by decide +kernel⟩
theorem l_are_stretches_least : Loc (defScope s_are_stretches) "least" := Or.inl (by kernel_rfl)
theorem l_are_stretches_stretch : Loc (defScope s_are_stretches) "stretch" := Or.inl (by kernel_rfl)
theorem v_are_stretches_least : Vis (defScope s_are_stretches) "least" := Or.inl (by kernel_rfl)
theorem v_are_stretches_many : Vis (defScope s_are_stretches) "many" := Or.inl (by kernel_rfl)
theorem v_are_stretches_row : Vis (defScope s_are_stretches) "row" := Or.inl (by kernel_rfl)
theorem v_are_stretches_stretch : Vis (defScope s_are_stretches) "stretch" := Or.inl (by kernel_rfl)
theorem v_are_stretches_thing : Vis (defScope s_are_stretches) "thing" := Or.inl (by kernel_rfl)
theorem g_are_stretches_is_stretch : (defScope s_are_stretches).names.lookup ("is_stretch" : Str) = some NameKind.globalImplicit := by kernel_rfl
theorem g_are_stretches_isinstance : (defScope s_are_stretches).names.lookup ("isinstance" : Str) = some NameKind.globalImplicit := by kernel_rfl
theorem g_are_stretches_len : (defScope s_are_stretches).names.lookup ("len" : Str) = some NameKind.globalImplicit := by kernel_rfl
theorem g_are_stretches_list : (defScope s_are_stretches).names.lookup ("list" : Str) = some NameKind.globalImplicit := by kernel_rfl
def t_are_stretches {cdv : Value} {A : Around} {outer : List Env} {s : Shared} {H : Hp} {E : XK} (B : Bl mg) (D_is_stretch : Def P w K mg base 3 "is_stretch" ["row", "thing", "least"] sp_is_stretch) (hr : Room 3 (A.deeper (PyProof.Rows.envOfC "are_stretches" (defScope s_are_stretches) s.heap.objs.size f cdv))) :
    { t : TS // QB (cxOf CX0 P w K mg base ["row", "many", "thing", "least", "stretch"] "are_stretches" (defScope s_are_stretches) f cdv A outer s H E).nox (defBody s_are_stretches) t } :=
  ⟨_, (qb_cons (qs_if (QW.pt (qw_or (qt_not (kt_val (K := K) rfl (qe_cB (kIsiG (K := K) rfl) g_are_stretches_isinstance B.isinstance boot_isinstance' (qa_cons (qv 2 rfl v_are_stretches_thing) (qa_cons (qe_ty g_are_stretches_list B.list boot_list) qa_nil))))) (qw_or1 (qt_cmp (kNeG (K := K) rfl hr) (qe_cB (kLen (K := K) rfl) g_are_stretches_len B.len boot_len' (qa_cons (qv 2 rfl v_are_stretches_thing) qa_nil)) (qv 1 rfl v_are_stretches_many))))) (qb_one (qs_ret qe_bl)) qb_nil)
    (qb_cons (qs_set (i := 3) sc_are_stretches.nd rfl l_are_stretches_least (.inl rfl) qe_int)
    (qb_mid (qs_for PassesOwn.never rfl (ki_list (K := K) rfl (qv 2 rfl v_are_stretches_thing)) (qg_name (i := 4) sc_are_stretches.nd rfl l_are_stretches_stretch (.inl rfl)) (qb_cons (qs_if (qt_not (kt_val (K := K) rfl (qe_def D_is_stretch hr (by decide) g_are_stretches_is_stretch (qa_cons (qv 0 rfl v_are_stretches_row) (qa_cons (qv 4 rfl v_are_stretches_stretch) (qa_cons (qv 3 rfl v_are_stretches_least) qa_nil)))))) (qb_one (qs_ret qe_bl)) qb_nil)
    (qb_one (qs_set (i := 3) sc_are_stretches.nd rfl l_are_stretches_least (.inl rfl) (qe_op opSub (ke_ix (K := K) rfl (qv 4 rfl v_are_stretches_stretch) qe_int (fun _ _ => rfl)) qe_int)))))
    (qb_one (qs_ret qe_bl)))))⟩
/-- the begin and the end of a stretch -/
def stOf (H : Hp) (N lo : Int) (x : V) : Option (Int × Int) := match tpOf H x with
  | some [.int b, .int e] => if lo ≤ b ∧ b + 2 ≤ e ∧ e ≤ N then some (b, e) else none
  | _ => none
theorem stOf_is {H : Hp} {N lo : Int} {x : V} {p : Int × Int} (h : stOf H N lo x = some p) : tpOf H x = some [.int p.1, .int p.2] ∧ lo ≤ p.1 ∧ p.1 + 2 ≤ p.2 ∧ p.2 ≤ N := by
  unfold stOf at h
  split at h
  · rename_i b e e1
    split at h
    · rename_i c; cases h; exact ⟨e1, c⟩
    · cases h
  · cases h
theorem stOf_yes {H : Hp} {N lo b e : Int} {x : V} (h : tpOf H x = some [.int b, .int e]) (c : lo ≤ b ∧ b + 2 ≤ e ∧ e ≤ N) : stOf H N lo x = some (b, e) := by unfold stOf; rw [h]; simp only; rw [if_pos c]
theorem stOf_no {H : Hp} {N lo b e : Int} {x : V} (h : tpOf H x = some [.int b, .int e]) (c : ¬ (lo ≤ b ∧ b + 2 ≤ e ∧ e ≤ N)) : stOf H N lo x = none := by unfold stOf; rw [h]; simp only; rw [if_neg c]
theorem stOf_same {H H' : Hp} {N lo : Int} {x : V} (o : An H x) (s : Same H H') : stOf H' N lo x = stOf H N lo x := by unfold stOf; rw [o.tp s]
def sp_is_stretch : Sp := fun vs H Q _ => ∃ (r : Addr) (x : V) (lo : Int) (ys : List V), vs = [.ref r, x, .int lo] ∧ H r = some (.lst ys) ∧ Kn 1 H x ∧ 0 ≤ lo ∧ Q (.bl (stOf H ys.length lo x).isSome) H
theorem ok_is_stretch (B : Bl mg) (D_is_within : Def P w K mg base 2 "is_within" ["thing", "low", "high"] sp_is_within) (F : Fun K "is_stretch" "is_stretch" s_is_stretch f fd) : FnOk P w K mg base CX0 3 f fd ["row", "thing", "least"] sp_is_stretch := by
  refine F.okq sc_is_stretch (fun vs H Q E h => ?_) (fun cdv A outer s H vs Q E hr h => ?_)
  · obtain ⟨r, x, lo, ys, rfl, _⟩ := h; rfl
  obtain ⟨r, x, lo, ys, rfl, er, hx, h0, q⟩ := h
  refine ⟨t_is_stretch B D_is_within hr, ?_⟩
  refine hx.1.isTup ?_
  cases ht : tpOf H x with
  | none =>
    have e : stOf H ys.length lo x = none := by unfold stOf; rw [ht]
    rw [e] at q; exact bT (bT q)
  | some zs =>
    obtain ⟨a, rfl, ea⟩ := tpOf_some ht
    refine bF (i_lenT ea (ndec2 (fun c => ?_) (fun c => ?_)))
    · have e : stOf H ys.length lo (.ref a) = none := by
        unfold stOf; rw [ht]
        split
        · rename_i z; cases z; exact absurd rfl c
        · rfl
      rw [e] at q; exact q
    · obtain ⟨b, e, rfl⟩ : ∃ b e, zs = [b, e] := by
        match zs, c with
        | [b, e], _ => exact ⟨b, e, rfl⟩
        | [], c => exact absurd c (by decide)
        | [_], c => exact absurd c (by simp)
        | _ :: _ :: _ :: _, c => exact absurd c (by simp; omega)
      refine i_unp ea rfl (i_lenL er ⟨e, 2, _, rfl, hx.2.2 _ ht e (by simp), ?_⟩)
      have hb := hx.2.2 _ ht b (by simp)
      have no : (∀ i j : Int, b = .int i → e = .int j → ¬ (lo ≤ i ∧ i + 2 ≤ j ∧ j ≤ (ys.length : Int))) → stOf H ys.length lo (.ref a) = none := fun hn => by
        unfold stOf; rw [ht]
        split
        · rename_i z; cases z; rw [if_neg (hn _ _ rfl rfl)]
        · rfl
      cases e with
      | int j =>
        cases hw : inW (.int j) 2 (ys.length : Int) with
        | false =>
          rw [no fun i j' _ e c => by cases e; simp [inW] at hw; omega] at q
          exact bF q
        | true =>
          refine bT ⟨b, lo, _, rfl, hb, ?_⟩
          cases b with
          | int i =>
            have ew : (stOf H ys.length lo (.ref a)).isSome = inW (.int i) lo (j - 2) := by
              by_cases c : lo ≤ i ∧ i + 2 ≤ j ∧ j ≤ (ys.length : Int)
              · rw [stOf_yes ht c]; simp [inW]; omega
              · rw [stOf_no ht c]; simp [inW] at hw ⊢; omega
            rw [ew] at q; exact q
          | _ => rw [no fun i j e => by cases e] at q; exact q
      | _ => rw [no fun i j _ e => by cases e] at q; exact bF q
/-- the stretches of a list, if they are ones -/
def stl (H : Hp) (N : Int) : Int → List V → Option (List (Int × Int))
  | _, [] => some []
  | lo, x :: xs => match stOf H N lo x with
    | some p => (stl H N (p.2 - 1) xs).map (p :: ·)
    | none => none
def sp_are_stretches : Sp := fun vs H Q _ => ∃ (r : Addr) (x : V) (m : Nat) (ys : List V), vs = [.ref r, .int m, x] ∧ H r = some (.lst ys) ∧ Kn 2 H x ∧ Q (.bl (match lsOf H x with | some zs => decide (zs.length = m) && (stl H ys.length 0 zs).isSome | none => false)) H
theorem ok_are_stretches (B : Bl mg) (D_is_stretch : Def P w K mg base 3 "is_stretch" ["row", "thing", "least"] sp_is_stretch) (F : Fun K "are_stretches" "are_stretches" s_are_stretches f fd) : FnOk P w K mg base CX0 4 f fd ["row", "many", "thing"] sp_are_stretches := by
  refine F.okq sc_are_stretches (fun vs H Q E h => ?_) (fun cdv A outer s H vs Q E hr h => ?_)
  · obtain ⟨r, x, m, ys, rfl, _⟩ := h; rfl
  obtain ⟨r, x, m, ys, rfl, er, hx, q⟩ := h
  refine ⟨t_are_stretches B D_is_stretch hr, ?_⟩
  refine hx.1.isList ?_
  cases hl : lsOf H x with
  | none => rw [hl] at q; exact bT (bT q)
  | some zs =>
    rw [hl] at q
    replace q : Q (.bl (decide (zs.length = m) && (stl H ys.length 0 zs).isSome)) H := q
    obtain ⟨a, rfl, ea⟩ := lsOf_some hl
    have hall := hx.2.1 _ hl
    refine bF (i_lenL ea (ndec2 (fun c => ?_) (fun c => ?_)))
    · rw [decide_eq_false (by omega), Bool.false_and] at q; exact q
    · rw [decide_eq_true (by omega), Bool.true_and] at q
      refine ⟨fun σ H' => H' = H ∧ (stl H ys.length 0 zs).isSome = true, ?_, ?_⟩
      · refine ⟨⟨_, SqL.of ea⟩, for_list (xs := zs) (fun i σ H' => H' = H ∧ ∃ (l : Int) (o : Option V), 0 ≤ l ∧ (stl H ys.length l (zs.drop i)).isSome = (stl H ys.length 0 zs).isSome ∧ σ = [some (.ref r), some (.int m), some (.ref a), some (.int l), o]) ?_ ?_ ?_ ?_⟩
        · exact ⟨rfl, 0, _, by decide, rfl, rfl⟩
        · rintro i σ H' _ ⟨rfl, _⟩
          exact SqL.of ea
        · rintro i y σ H' hy ⟨rfl, l, o, hl0, hc, rfl⟩
          refine ⟨r, y, l, ys, rfl, er, hall y (List.mem_of_getElem? hy), hl0, ?_⟩
          rw [drop_at hy] at hc
          cases hs : stOf H' ys.length l y with
          | none => simp only [stl, hs] at hc; rw [← hc] at q; exact bT q
          | some p =>
            obtain ⟨e1, e2, e3, e4⟩ := stOf_is hs
            obtain ⟨b, rfl, eb⟩ := tpOf_some e1
            simp only [stl, hs, Option.isSome_map] at hc
            refine bF (i_ixT 1 eb rfl rfl ?_)
            exact ⟨rfl, p.2 - 1, _, by omega, hc, rfl⟩
        · rintro σ H' ⟨rfl, l, o, _, hc, _⟩
          rw [List.drop_length] at hc
          exact ⟨rfl, hc.symm⟩
      · rintro σ H' ⟨rfl, hc⟩
        rw [hc] at q
        exact q

end
end K

set_option linter.all false
set_option Elab.async false
set_option maxRecDepth 100000
set_option maxHeartbeats 4000000
namespace K
open PySem L2
section
variable {C : Addr} {P : Program} {w : World} {K : PySem.W.Frag} {mg : Str → Option Value} {base : Heap} {f : Addr} {fd : FuncData}

abbrev s_check_many : Stmt := top 6
theorem sc_check_many : FnScope ["row", "many"] ["row", "many"] (defScope s_check_many) := ⟨rfl, rfl, rfl, by decide +kernel, rfl, by decide +kernel, by decide +kernel⟩
theorem v_check_many_many : Vis (defScope s_check_many) "many" := Or.inl (by kernel_rfl)
theorem v_check_many_row : Vis (defScope s_check_many) "row" := Or.inl (by kernel_rfl)
theorem g_check_many_is_within : (defScope s_check_many).names.lookup ("is_within" : Str) = some NameKind.globalImplicit := by kernel_rfl
theorem g_check_many_len : (defScope s_check_many).names.lookup ("len" : Str) = some NameKind.globalImplicit := by kernel_rfl
def t_check_many {cdv : Value} {A : Around} {outer : List Env} {s : Shared} {H : Hp} {E : XK} (B : Bl mg) (D_is_within : Def P w K mg base 2 "is_within" ["thing", "low", "high"] sp_is_within) (hr : Room 2 (A.deeper (PyProof.Rows.envOfC "check_many" (defScope s_check_many) s.heap.objs.size f cdv))) :
    { t : TS // QB (cxOf CX0 P w K mg base ["row", "many"] "check_many" (defScope s_check_many) f cdv A outer s H E).nox (defBody s_check_many) t } :=
  ⟨_, (qb_one (qs_if (qt_not (kt_val (K := K) rfl (qe_def D_is_within hr (by decide) g_check_many_is_within (qa_cons (qv 1 rfl v_check_many_many) (qa_cons qe_int (qa_cons (qe_cB (kLen (K := K) rfl) g_check_many_len B.len boot_len' (qa_cons (qv 0 rfl v_check_many_row) qa_nil)) qa_nil)))))) (qb_one qs_never) qb_nil))⟩
abbrev s_says_greatest : Stmt := top 8
theorem sc_says_greatest : FnScope ["row", "many", "thing", "word", "shown"] ["row", "many", "thing"] (defScope s_says_greatest) := ⟨rfl, rfl, rfl, by decide +kernel, rfl, by decide +kernel, by decide +kernel⟩
theorem l_says_greatest_shown : Loc (defScope s_says_greatest) "shown" := Or.inl (by kernel_rfl)
theorem l_says_greatest_word : Loc (defScope s_says_greatest) "word" := Or.inl (by kernel_rfl)
theorem v_says_greatest_many : Vis (defScope s_says_greatest) "many" := Or.inl (by kernel_rfl)
theorem v_says_greatest_row : Vis (defScope s_says_greatest) "row" := Or.inr (Or.inl (by kernel_rfl))
theorem v_says_greatest_shown : Vis (defScope s_says_greatest) "shown" := Or.inl (by kernel_rfl)
theorem v_says_greatest_thing : Vis (defScope s_says_greatest) "thing" := Or.inl (by kernel_rfl)
theorem v_says_greatest_word : Vis (defScope s_says_greatest) "word" := Or.inl (by kernel_rfl)
theorem g_says_greatest_are_stretches : (defScope s_says_greatest).names.lookup ("are_stretches" : Str) = some NameKind.globalImplicit := by kernel_rfl
theorem g_says_greatest_check_many : (defScope s_says_greatest).names.lookup ("check_many" : Str) = some NameKind.globalImplicit := by kernel_rfl
theorem g_says_greatest_is_within : (defScope s_says_greatest).names.lookup ("is_within" : Str) = some NameKind.globalImplicit := by kernel_rfl
theorem g_says_greatest_isinstance : (defScope s_says_greatest).names.lookup ("isinstance" : Str) = some NameKind.globalImplicit := by kernel_rfl
theorem g_says_greatest_len : (defScope s_says_greatest).names.lookup ("len" : Str) = some NameKind.globalImplicit := by kernel_rfl
theorem g_says_greatest_min : (defScope s_says_greatest).names.lookup ("min" : Str) = some NameKind.globalImplicit := by kernel_rfl
theorem g_says_greatest_str : (defScope s_says_greatest).names.lookup ("str" : Str) = some NameKind.globalImplicit := by kernel_rfl
theorem g_says_greatest_tuple : (defScope s_says_greatest).names.lookup ("tuple" : Str) = some NameKind.globalImplicit := by kernel_rfl
def t_says_greatest {cdv : Value} {A : Around} {outer : List Env} {s : Shared} {H : Hp} {E : XK} (B : Bl mg) (D_check_many : Def P w K mg base 3 "check_many" ["row", "many"] sp_check_many) (D_is_within : Def P w K mg base 2 "is_within" ["thing", "low", "high"] sp_is_within) (D_are_stretches : Def P w K mg base 4 "are_stretches" ["row", "many", "thing"] sp_are_stretches) (hr : Room 4 (A.deeper (PyProof.Rows.envOfC "says_greatest" (defScope s_says_greatest) s.heap.objs.size f cdv))) :
    { t : TS // QB (cxOf CX0 P w K mg base ["row", "many", "thing", "word", "shown"] "says_greatest" (defScope s_says_greatest) f cdv A outer s H E).nox (defBody s_says_greatest) t } :=
  ⟨_, (qb_cons (qs_ex (qe_def D_check_many hr (by decide) g_says_greatest_check_many (qa_cons (qv 0 rfl v_says_greatest_row) (qa_cons (qv 1 rfl v_says_greatest_many) qa_nil))))
    (qb_cons (qs_if (QW.pt (qw_or (qt_not (kt_val (K := K) rfl (qe_cB (kIsiG (K := K) rfl) g_says_greatest_isinstance B.isinstance boot_isinstance' (qa_cons (qv 2 rfl v_says_greatest_thing) (qa_cons (qe_ty g_says_greatest_tuple B.tuple boot_tuple) qa_nil))))) (qw_or (qt_cmp (kNeG (K := K) rfl hr) (qe_cB (kLen (K := K) rfl) g_says_greatest_len B.len boot_len' (qa_cons (qv 2 rfl v_says_greatest_thing) qa_nil)) qe_int) (qw_or1 (qt_not (kt_val (K := K) rfl (qe_cB (kIsiG (K := K) rfl) g_says_greatest_isinstance B.isinstance boot_isinstance' (qa_cons (ke_ix (K := K) rfl (qv 2 rfl v_says_greatest_thing) qe_int (fun _ _ => rfl)) (qa_cons (qe_ty g_says_greatest_str B.str boot_str) qa_nil))))))))) (qb_one (qs_ret qe_non)) qb_nil)
    (qb_cons (qs_asg (qv 2 rfl v_says_greatest_thing) (kg_tup (K := K) rfl rfl (qgs_cons (qg_name (i := 3) sc_says_greatest.nd rfl l_says_greatest_word (.inl rfl)) (qgs_cons (qg_name (i := 4) sc_says_greatest.nd rfl l_says_greatest_shown (.inl rfl)) qgs_nil))))
    (qb_cons (qs_if (QW.pt (qw_and (qt_cmp (kEqG (K := K) rfl hr) (qv 3 rfl v_says_greatest_word) qe_str) (qw_and1 (kt_val (K := K) rfl (qe_def D_is_within hr (by decide) g_says_greatest_is_within (qa_cons (qv 4 rfl v_says_greatest_shown) (qa_cons qe_int (qa_cons (qe_op opSub (qe_cB (kLen (K := K) rfl) g_says_greatest_len B.len boot_len' (qa_cons (qv 0 rfl v_says_greatest_row) qa_nil)) qe_int) qa_nil)))))))) (qb_one (qs_ret (ke_ix (K := K) rfl (qv 0 rfl v_says_greatest_row) (qv 4 rfl v_says_greatest_shown) (fun _ _ => rfl)))) qb_nil)
    (qb_cons (qs_if (QW.pt (qw_and (qt_cmp (kEqG (K := K) rfl hr) (qv 3 rfl v_says_greatest_word) qe_str) (qw_and1 (kt_val (K := K) rfl (qe_def D_are_stretches hr (by decide) g_says_greatest_are_stretches (qa_cons (qv 0 rfl v_says_greatest_row) (qa_cons (qv 1 rfl v_says_greatest_many) (qa_cons (qv 4 rfl v_says_greatest_shown) qa_nil)))))))) (qb_one (qs_ret (qe_cB (kMin (K := K) rfl rfl) g_says_greatest_min B.min boot_min' (qa_cons (qe_cp ["begin", "end", "row"] [none, none, some 0] rfl (ki_list (K := K) rfl (qv 4 rfl v_says_greatest_shown)) (fun _ _ _ _ _ _ => (kg_tup (K := K) rfl rfl (qgs_cons (qg_name (i := 0) (show (["begin", "end", "row"] : List Str).Nodup by decide +kernel) rfl (by first | exact Or.inl rfl | exact Or.inr rfl) (by first | exact .inl rfl | exact .inr rfl)) (qgs_cons (qg_name (i := 1) (show (["begin", "end", "row"] : List Str).Nodup by decide +kernel) rfl (by first | exact Or.inl rfl | exact Or.inr rfl) (by first | exact .inl rfl | exact .inr rfl)) qgs_nil)))) (fun _ _ _ _ _ _ => qif_nil) (fun _ _ _ _ _ _ => (qe_cB (kSum (K := K) rfl rfl) rfl B.sum boot_sum' (qa_cons (ke_slice (K := K) rfl (qv 2 rfl (by first | exact Or.inl rfl | exact Or.inr (Or.inl rfl) | exact Or.inr (Or.inr rfl))) (qo_some (qv 0 rfl (by first | exact Or.inl rfl | exact Or.inr (Or.inl rfl) | exact Or.inr (Or.inr rfl)))) (qo_some (qv 1 rfl (by first | exact Or.inl rfl | exact Or.inr (Or.inl rfl) | exact Or.inr (Or.inr rfl))))) qa_nil)))) qa_nil)))) qb_nil)
    (qb_one (qs_ret qe_non)))))))⟩
def sp_check_many : Sp := fun vs H Q _ => ∃ (r : Addr) (m : Int) (xs : List V), vs = [.ref r, .int m] ∧ H r = some (.lst xs) ∧ 1 ≤ m ∧ m ≤ xs.length ∧ Q .non H
theorem ok_check_many (B : Bl mg) (D_is_within : Def P w K mg base 2 "is_within" ["thing", "low", "high"] sp_is_within) (F : Fun K "check_many" "check_many" s_check_many f fd) : FnOk P w K mg base CX0 3 f fd ["row", "many"] sp_check_many := by
  refine F.okq sc_check_many (fun vs H Q E h => ?_) (fun cdv A outer s H vs Q E hr h => ?_)
  · obtain ⟨r, m, xs, rfl, _⟩ := h; rfl
  obtain ⟨r, m, xs, rfl, hr0, h1, h2, q⟩ := h
  refine ⟨t_check_many B D_is_within hr, ?_⟩
  refine i_lenL hr0 ⟨.int m, 1, _, rfl, .int m, ?_⟩
  have e : inW (.int m) 1 (xs.length : Int) = true := decide_eq_true ⟨h1, h2⟩
  rw [e]
  exact bF q
/-- the sum of a stretch -/
def sg (ns : List Int) (p : Int × Int) : Int := ((ns.drop p.1.toNat).take (p.2.toNat - p.1.toNat)).sum
/-- the thing is a paper: a number, or stretches -/
def PN (H : Hp) (n : Nat) (x : V) (i : Nat) : Prop := tpOf H x = some [.str "number", .int i] ∧ i < n
def PS (H : Hp) (n m : Nat) (x : V) (ps : List (Int × Int)) : Prop := ∃ y zs, tpOf H x = some [.str "stretches", y] ∧ lsOf H y = some zs ∧ zs.length = m ∧ stl H n 0 zs = some ps
theorem stl_len {H : Hp} {N : Int} : ∀ {zs : List V} {lo : Int} {ps : List (Int × Int)}, stl H N lo zs = some ps → ps.length = zs.length
  | [], _, _, h => by cases h; rfl
  | z :: zs, lo, ps, h => by
    simp only [stl] at h
    split at h
    · obtain ⟨qs, h1, rfl⟩ := Option.map_eq_some_iff.mp h
      simp [stl_len h1]
    · cases h
theorem stl_at {H : Hp} {N : Int} : ∀ {zs : List V} {lo : Int} {ps : List (Int × Int)}, 0 ≤ lo → stl H N lo zs = some ps → ∀ (i : Nat) (z : V), zs[i]? = some z → ∃ p, ps[i]? = some p ∧ tpOf H z = some [.int p.1, .int p.2] ∧ 0 ≤ p.1 ∧ p.1 + 2 ≤ p.2 ∧ p.2 ≤ N
  | [], _, _, _, _, i, z, h => by simp at h
  | y :: zs, lo, ps, h0, h, i, z, hz => by
    simp only [stl] at h
    split at h
    · rename_i p hp
      obtain ⟨qs, h1, rfl⟩ := Option.map_eq_some_iff.mp h
      obtain ⟨e1, e2, e3, e4⟩ := stOf_is hp
      cases i with
      | zero => simp at hz; subst hz; exact ⟨p, rfl, e1, by omega, e3, e4⟩
      | succ i => simp at hz; obtain ⟨q, g1, g2⟩ := stl_at (lo := p.2 - 1) (by omega) h1 i z hz; exact ⟨q, by simpa using g1, g2⟩
    · cases h
theorem sg_cut {ns : List Int} {p : Int × Int} (h0 : 0 ≤ p.1) (h1 : p.1 + 2 ≤ p.2) (h2 : p.2 ≤ ns.length) : cutV (ns.map V.int) (some p.1) (some p.2) = ((ns.drop p.1.toNat).take (p.2.toNat - p.1.toNat)).map V.int := by
  obtain ⟨b, hb⟩ : ∃ b : Nat, p.1 = (b : Int) := ⟨p.1.toNat, by omega⟩
  obtain ⟨e, he⟩ : ∃ e : Nat, p.2 = (e : Int) := ⟨p.2.toNat, by omega⟩
  rw [hb, he, cutV_ints, HT.sIx_nat, HT.sIx_nat, Nat.min_eq_left (show b ≤ ns.length by omega), Nat.min_eq_left (show e ≤ ns.length by omega)]
  simp
def sp_says_greatest : Sp := fun vs H Q _ => ∃ (r : Addr) (x : V) (m : Nat) (ns : List Int), vs = [.ref r, .int m, x] ∧ H r = some (.lst (ns.map V.int)) ∧ RowN ns ∧ 1 ≤ m ∧ m ≤ ns.length ∧ Kn 3 H x ∧
  (∀ i, PN H ns.length x i → Q (.int (ns.getD i 0)) H) ∧ (∀ ps, PS H ns.length m x ps → ∀ M H', M ∈ ps.map (sg ns) → (∀ g ∈ ps.map (sg ns), M ≤ g) → Same H H' → Q (.int M) H') ∧ ((¬ ∃ i, PN H ns.length x i) → (¬ ∃ ps, PS H ns.length m x ps) → Q .non H)
theorem ok_says_greatest (B : Bl mg) (D_check_many : Def P w K mg base 3 "check_many" ["row", "many"] sp_check_many) (D_is_within : Def P w K mg base 2 "is_within" ["thing", "low", "high"] sp_is_within) (D_are_stretches : Def P w K mg base 4 "are_stretches" ["row", "many", "thing"] sp_are_stretches) (F : Fun K "says_greatest" "says_greatest" s_says_greatest f fd) : FnOk P w K mg base CX0 5 f fd ["row", "many", "thing"] sp_says_greatest := by
  refine F.okq sc_says_greatest (fun vs H Q E h => ?_) (fun cdv A outer s H vs Q E hr h => ?_)
  · obtain ⟨r, x, m, ns, rfl, _⟩ := h; rfl
  obtain ⟨r, x, m, ns, rfl, er, rn, hm1, hmn, hx, q1, q2, qn⟩ := h
  have hle : ns.length ≤ 120 := rn.le
  refine ⟨t_says_greatest B D_check_many D_is_within D_are_stretches hr, ?_⟩
  refine ⟨r, m, _, rfl, er, by omega, by rw [List.length_map]; omega, ?_⟩
  refine hx.1.isTup ?_
  cases ht : tpOf H x with
  | none => exact bT (bT (qn (fun ⟨i, e, _⟩ => by rw [ht] at e; cases e) (fun ⟨ps, y, zs, e, _⟩ => by rw [ht] at e; cases e)))
  | some ws =>
  obtain ⟨a, rfl, ea⟩ := tpOf_some ht
  have no2 : ws.length ≠ 2 → Q .non H := fun c => qn (fun ⟨i, e, _⟩ => by rw [ht] at e; cases e; exact c rfl) (fun ⟨ps, y, zs, e, _⟩ => by rw [ht] at e; cases e; exact c rfl)
  refine bF (i_lenT ea (ndec2 (fun c => bT (no2 (by omega))) (fun c => ?_)))
  obtain ⟨wd, y, rfl⟩ : ∃ b e, ws = [b, e] := by
    match ws, c with
    | [b, e], _ => exact ⟨b, e, rfl⟩
    | [], c => exact absurd c (by decide)
    | [_], c => exact absurd c (by simp)
    | _ :: _ :: _ :: _, c => exact absurd c (by simp; omega)
  have kw := hx.2.2 _ ht wd (by simp)
  have ky := hx.2.2 _ ht y (by simp)
  refine i_ixT 0 ea rfl rfl ?_
  refine kw.an.isStr ?_
  have non : (∀ w, wd = .str w → w ≠ "number" ∧ w ≠ "stretches") → Q .non H := fun hn => qn (fun ⟨i, e, _⟩ => by rw [ht] at e; cases e; exact (hn _ rfl).1 rfl) (fun ⟨ps, y, zs, e, _⟩ => by rw [ht] at e; cases e; exact (hn _ rfl).2 rfl)
  cases wd with
  | str w =>
    refine bF (i_unp ea rfl ?_)
    by_cases c1 : w = "number"
    · subst c1
      have c2 : ¬ (Str.ofString "number" = Str.ofString "stretches") := by decide +kernel
      have noS : ¬ ∃ ps, PS H ns.length m (.ref a) ps := fun ⟨ps, y, zs, e, _⟩ => by rw [ht] at e; cases e
      refine bIs (by simp) (i_lenI er ⟨y, 0, _, rfl, ky.an, ?_⟩)
      cases hw : inW y 0 ((ns.length : Int) - 1) with
      | true =>
        cases y with
        | int i =>
          simp [inW] at hw
          obtain ⟨k, rfl⟩ : ∃ k : Nat, i = (k : Int) := ⟨i.toNat, by omega⟩
          refine bT (i_ixI er (by omega) (by omega) ?_)
          exact q1 k ⟨ht, by omega⟩
        | _ => cases hw
      | false =>
        have noN : ¬ ∃ i, PN H ns.length (.ref a) i := fun ⟨i, e, hi⟩ => by
          rw [ht] at e; cases e
          simp [inW] at hw; omega
        exact bF (bNo (by simp [c2]) (bF (qn noN noS)))
    · refine bNo (by simp [c1]) (bF ?_)
      by_cases c2 : w = "stretches"
      · subst c2
        have noN : ¬ ∃ i, PN H ns.length (.ref a) i := fun ⟨i, e, _⟩ => by rw [ht] at e; cases e
        refine bIs (by simp) ⟨r, y, m, _, rfl, er, ky, ?_⟩
        rw [List.length_map]
        cases hl : lsOf H y with
        | none => exact bF (qn noN fun ⟨ps, y', zs, e, e2, _⟩ => by rw [ht] at e; cases e; rw [hl] at e2; cases e2)
        | some zs =>
          have nps : (¬ ∃ ps, zs.length = m ∧ stl H ns.length 0 zs = some ps) → ¬ ∃ ps, PS H ns.length m (.ref a) ps := fun hn ⟨ps, y', zs', e, e2, e3, e4⟩ => by
            rw [ht] at e; cases e; rw [hl] at e2; cases e2; exact hn ⟨ps, e3, e4⟩
          show vTru K (.bl (decide (zs.length = m) && (stl H ns.length 0 zs).isSome)) H _
          by_cases hp : ∃ ps, zs.length = m ∧ stl H ns.length 0 zs = some ps
          · obtain ⟨ps, e3, e4⟩ := hp
            rw [decide_eq_true e3, e4]
            obtain ⟨b, rfl, eb⟩ := lsOf_some hl
            have hpl := stl_len e4
            refine bT ⟨⟨_, SqL.of eb⟩, comp_lst zs (fun i D σ H' out => out = ((ps.take i).map (sg ns)).map V.int ∧ Same H H' ∧ ∃ o1 o2, σ = [o1, o2, some (.ref r)]) ?_ ?_ ?_ ?_⟩
            · intro D H' hD s' e'
              exact ⟨rfl, s', _, _, rfl⟩
            · rintro i D σ H' out hD ⟨_, s', _⟩
              exact SqL.of (s' _ _ eb)
            · rintro i z D σ H' out hz hD ⟨rfl, s', o1, o2, rfl⟩ eD
              obtain ⟨p, hp1, hp2, hp3, hp4, hp5⟩ := stl_at (by decide) e4 i z hz
              obtain ⟨c, rfl, ec⟩ := tpOf_some hp2
              refine i_unp (s' _ _ ec) rfl (bT (i_sl (SqL.of (s' _ _ er)) fun qa H6 hq s6 e6 => ?_))
              rw [sg_cut hp3 hp4 hp5] at e6
              refine i_sum (SqL.of e6) ?_
              have hil := (List.getElem?_eq_some_iff.mp hz).1
              refine ⟨s6 _ _ eD, sz_lt (by simp; omega), fun H7 k7 e7 => ⟨?_, (s'.trans s6).new k7 hD, _, _, rfl⟩⟩
              rw [take_snoc hp1, List.map_append, List.map_append]; rfl
            · rintro D σ H' out hD ⟨rfl, s', _⟩ eD
              rw [← hpl, List.take_length] at eD
              refine i_min (SqL.of eD) (fun z => ?_) fun M hM hmin => q2 ps ⟨_, zs, ht, hl, e3, e4⟩ M H' hM hmin s'
              have := congrArg List.length z
              simp at this
              rw [this] at hpl
              simp at hpl
              omega
          · have e : (decide (zs.length = m) && (stl H ns.length 0 zs).isSome) = false := by
              by_cases e3 : zs.length = m
              · cases e4 : stl H ns.length 0 zs with
                | none => simp
                | some ps => exact absurd ⟨ps, e3, e4⟩ hp
              · simp [e3]
            rw [e]
            exact bF (qn noN (nps hp))
      · exact bNo (by simp [c2]) (bF (non fun w' e => by cases e; exact ⟨c1, c2⟩))
  | _ => exact bT (non fun w e => by cases e)

end
end K

set_option linter.all false
set_option Elab.async false
set_option maxRecDepth 100000
set_option maxHeartbeats 4000000
namespace K
open PySem L2
section
variable {C : Addr} {P : Program} {w : World} {K : PySem.W.Frag} {mg : Str → Option Value} {base : Heap} {f : Addr} {fd : FuncData}

abbrev s_law_fewest : Stmt := top 17
theorem sc_law_fewest : FnScope ["row", "bound", "many", "total", "number"] ["row", "bound"] (defScope s_law_fewest) := ⟨rfl, rfl, rfl, by decide +kernel, rfl, by decide +kernel, by decide +kernel⟩
theorem l_law_fewest_many : Loc (defScope s_law_fewest) "many" := Or.inl (by kernel_rfl)
theorem l_law_fewest_number : Loc (defScope s_law_fewest) "number" := Or.inl (by kernel_rfl)
theorem l_law_fewest_total : Loc (defScope s_law_fewest) "total" := Or.inl (by kernel_rfl)
theorem v_law_fewest_bound : Vis (defScope s_law_fewest) "bound" := Or.inl (by kernel_rfl)
theorem v_law_fewest_many : Vis (defScope s_law_fewest) "many" := Or.inl (by kernel_rfl)
theorem v_law_fewest_number : Vis (defScope s_law_fewest) "number" := Or.inl (by kernel_rfl)
theorem v_law_fewest_row : Vis (defScope s_law_fewest) "row" := Or.inl (by kernel_rfl)
theorem v_law_fewest_total : Vis (defScope s_law_fewest) "total" := Or.inl (by kernel_rfl)
theorem g_law_fewest_len : (defScope s_law_fewest).names.lookup ("len" : Str) = some NameKind.globalImplicit := by kernel_rfl
def t_law_fewest {cdv : Value} {A : Around} {outer : List Env} {s : Shared} {H : Hp} {E : XK} (B : Bl mg) (hr : Room 0 (A.deeper (PyProof.Rows.envOfC "_law_fewest" (defScope s_law_fewest) s.heap.objs.size f cdv))) :
    { t : TS // QB (cxOf CX0 P w K mg base ["row", "bound", "many", "total", "number"] "_law_fewest" (defScope s_law_fewest) f cdv A outer s H E).nox (defBody s_law_fewest) t } :=
  ⟨_, (qb_cons (qs_set (i := 2) sc_law_fewest.nd rfl l_law_fewest_many (.inl rfl) qe_int)
    (qb_cons (qs_set (i := 3) sc_law_fewest.nd rfl l_law_fewest_total (.inl rfl) qe_int)
    (qb_mid (qs_for PassesOwn.never rfl (ki_list (K := K) rfl (qv 0 rfl v_law_fewest_row)) (qg_name (i := 4) sc_law_fewest.nd rfl l_law_fewest_number (.inl rfl)) (qb_cons (qs_if (qt_cmp opGt (qv 4 rfl v_law_fewest_number) (qv 1 rfl v_law_fewest_bound)) (qb_one (qs_ret (qe_op opAdd (qe_cB (kLen (K := K) rfl) g_law_fewest_len B.len boot_len' (qa_cons (qv 0 rfl v_law_fewest_row) qa_nil)) qe_int))) qb_nil)
    (qb_cons (qs_set (i := 3) sc_law_fewest.nd rfl l_law_fewest_total (.inl rfl) (qe_op opAdd (qv 3 rfl v_law_fewest_total) (qv 4 rfl v_law_fewest_number)))
    (qb_one (qs_if (qt_cmp opGt (qv 3 rfl v_law_fewest_total) (qv 1 rfl v_law_fewest_bound)) (qb_cons (qs_set (i := 2) sc_law_fewest.nd rfl l_law_fewest_many (.inl rfl) (qe_op opAdd (qv 2 rfl v_law_fewest_many) qe_int))
    (qb_one (qs_set (i := 3) sc_law_fewest.nd rfl l_law_fewest_total (.inl rfl) (qv 4 rfl v_law_fewest_number)))) qb_nil)))))
    (qb_one (qs_ret (qv 2 rfl v_law_fewest_many))))))⟩
abbrev s_law_greatest : Stmt := top 18
theorem sc_law_greatest : FnScope ["row", "many", "low", "high", "bound"] ["row", "many"] (defScope s_law_greatest) := ⟨rfl, rfl, rfl, by decide +kernel, rfl, by decide +kernel, by decide +kernel⟩
theorem l_law_greatest_bound : Loc (defScope s_law_greatest) "bound" := Or.inl (by kernel_rfl)
theorem l_law_greatest_high : Loc (defScope s_law_greatest) "high" := Or.inl (by kernel_rfl)
theorem l_law_greatest_low : Loc (defScope s_law_greatest) "low" := Or.inl (by kernel_rfl)
theorem v_law_greatest_bound : Vis (defScope s_law_greatest) "bound" := Or.inl (by kernel_rfl)
theorem v_law_greatest_high : Vis (defScope s_law_greatest) "high" := Or.inl (by kernel_rfl)
theorem v_law_greatest_low : Vis (defScope s_law_greatest) "low" := Or.inl (by kernel_rfl)
theorem v_law_greatest_many : Vis (defScope s_law_greatest) "many" := Or.inl (by kernel_rfl)
theorem v_law_greatest_row : Vis (defScope s_law_greatest) "row" := Or.inl (by kernel_rfl)
theorem g_law_greatest__law_fewest : (defScope s_law_greatest).names.lookup ("_law_fewest" : Str) = some NameKind.globalImplicit := by kernel_rfl
theorem g_law_greatest_sum : (defScope s_law_greatest).names.lookup ("sum" : Str) = some NameKind.globalImplicit := by kernel_rfl
def t_law_greatest {cdv : Value} {A : Around} {outer : List Env} {s : Shared} {H : Hp} {E : XK} (B : Bl mg) (D_law_fewest : Def P w K mg base 1 "_law_fewest" ["row", "bound"] sp_law_fewest) (hr : Room 1 (A.deeper (PyProof.Rows.envOfC "_law_greatest" (defScope s_law_greatest) s.heap.objs.size f cdv))) :
    { t : TS // QB (cxOf CX0 P w K mg base ["row", "many", "low", "high", "bound"] "_law_greatest" (defScope s_law_greatest) f cdv A outer s H E).nox (defBody s_law_greatest) t } :=
  ⟨_, (qb_cons (qs_set (i := 2) sc_law_greatest.nd rfl l_law_greatest_low (.inl rfl) qe_int)
    (qb_cons (qs_set (i := 3) sc_law_greatest.nd rfl l_law_greatest_high (.inl rfl) (qe_cB (kSum (K := K) rfl rfl) g_law_greatest_sum B.sum boot_sum' (qa_cons (qv 0 rfl v_law_greatest_row) qa_nil)))
    (qb_mid (qs_while PassesOwn.never (qt_cmp opLt (qv 2 rfl v_law_greatest_low) (qv 3 rfl v_law_greatest_high)) (qb_cons (qs_set (i := 4) sc_law_greatest.nd rfl l_law_greatest_bound (.inl rfl) (qe_op opFdiv (qe_op opAdd (qv 2 rfl v_law_greatest_low) (qv 3 rfl v_law_greatest_high)) qe_int))
    (qb_one (qs_if (qt_cmp opLe (qe_def D_law_fewest hr (by decide) g_law_greatest__law_fewest (qa_cons (qv 0 rfl v_law_greatest_row) (qa_cons (qv 4 rfl v_law_greatest_bound) qa_nil))) (qv 1 rfl v_law_greatest_many)) (qb_one (qs_set (i := 3) sc_law_greatest.nd rfl l_law_greatest_high (.inl rfl) (qv 4 rfl v_law_greatest_bound))) (qb_one (qs_set (i := 2) sc_law_greatest.nd rfl l_law_greatest_low (.inl rfl) (qe_op opAdd (qv 4 rfl v_law_greatest_bound) qe_int)))))))
    (qb_one (qs_ret (qv 2 rfl v_law_greatest_low))))))⟩
def sp_law_fewest : Sp := fun vs H Q _ => ∃ (r : Addr) (b : Int) (ns : List Int), vs = [.ref r, .int b] ∧ H r = some (.lst (ns.map V.int)) ∧ ns.length ≤ 1000 ∧ ∀ i : Int, Q (.int i) H
theorem ok_law_fewest (B : Bl mg) (F : Fun K "_law_fewest" "_law_fewest" s_law_fewest f fd) : FnOk P w K mg base CX0 1 f fd ["row", "bound"] sp_law_fewest := by
  refine F.okq sc_law_fewest (fun vs H Q E h => ?_) (fun cdv A outer s H vs Q E hr h => ?_)
  · obtain ⟨r, b, ns, rfl, _⟩ := h; rfl
  obtain ⟨r, b, ns, rfl, hr0, hle, q⟩ := h
  refine ⟨t_law_fewest B  hr, ?_⟩
  refine ⟨fun σ H' => H' = H ∧ ∃ (i : Int) (o3 o4 : Option V), σ = [some (.ref r), some (.int b), some (.int i), o3, o4], ?_, ?_⟩
  · refine ⟨⟨_, SqL.of hr0⟩, for_list (xs := ns.map V.int) (fun i σ H' => H' = H ∧ ∃ (i t : Int) (o4 : Option V), σ = [some (.ref r), some (.int b), some (.int i), some (.int t), o4]) ?_ ?_ ?_ ?_⟩
    · exact ⟨rfl, 1, 0, _, rfl⟩
    · rintro i σ H' _ ⟨rfl, _⟩
      exact SqL.of hr0
    · rintro i x σ H' hx ⟨rfl, k, t, o4, rfl⟩
      obtain ⟨z, rfl, hz, _⟩ := vints_at hx
      exact dec2 (fun c => i_lenI hr0 (q _)) (fun c => dec2 (fun c2 => ⟨rfl, _, _, _, rfl⟩) (fun c2 => ⟨rfl, _, _, _, rfl⟩))
    · rintro σ H' ⟨rfl, k, t, o4, rfl⟩
      exact ⟨rfl, _, _, _, rfl⟩
  · rintro σ H' ⟨rfl, i, o3, o4, rfl⟩
    exact q i
def sp_law_greatest : Sp := fun vs H Q _ => ∃ (r : Addr) (m : Nat) (ns : List Int), vs = [.ref r, .int m] ∧ H r = some (.lst (ns.map V.int)) ∧ RowN ns ∧ ∀ t : Int, Q (.int t) H
theorem ok_law_greatest (B : Bl mg) (D_law_fewest : Def P w K mg base 1 "_law_fewest" ["row", "bound"] sp_law_fewest) (F : Fun K "_law_greatest" "_law_greatest" s_law_greatest f fd) : FnOk P w K mg base CX0 2 f fd ["row", "many"] sp_law_greatest := by
  refine F.okq sc_law_greatest (fun vs H Q E h => ?_) (fun cdv A outer s H vs Q E hr h => ?_)
  · obtain ⟨r, m, ns, rfl, _⟩ := h; rfl
  obtain ⟨r, m, ns, rfl, hr0, rn, q⟩ := h
  refine ⟨t_law_greatest B D_law_fewest hr, ?_⟩
  have hle : ns.length ≤ 1000 := by have := rn.le; omega
  refine i_sum (SqL.of hr0) ?_
  refine ⟨fun σ H' => H' = H ∧ ∃ (t : Int) (o3 o4 : Option V), σ = [some (.ref r), some (.int m), some (.int t), o3, o4], ?_, ?_⟩
  · refine while_m (fun mm σ H' => ∃ lo hi : Int, ∃ o4, mm = (hi - lo).toNat ∧ H' = H ∧ σ = [some (.ref r), some (.int m), some (.int lo), some (.int hi), o4]) _ ⟨0, ns.sum, _, rfl, rfl, rfl⟩ ?_
    rintro mm σ H1 ⟨lo, hi, o4, rfl, rfl, rfl⟩
    refine dec2 (fun c => ?_) (fun c => ?_)
    · refine ⟨⟨by decide, by decide⟩, r, (lo + hi) / 2, ns, rfl, hr0, hle, fun i => ?_⟩
      refine dec2 (fun c2 => ?_) (fun c2 => ?_)
      · exact ⟨((lo + hi) / 2 - lo).toNat, by omega, lo, (lo + hi) / 2, _, rfl, rfl, rfl⟩
      · exact ⟨(hi - ((lo + hi) / 2 + 1)).toNat, by omega, (lo + hi) / 2 + 1, hi, _, rfl, rfl, rfl⟩
    · exact ⟨rfl, _, _, _, rfl⟩
  · rintro σ H1 ⟨rfl, t, o3, o4, rfl⟩
    exact q t

end
end K

set_option linter.all false
set_option Elab.async false
set_option maxRecDepth 100000
set_option maxHeartbeats 4000000
namespace K
open PySem L2
section
variable {C : Addr} {P : Program} {w : World} {K : PySem.W.Frag} {mg : Str → Option Value} {base : Heap} {f : Addr} {fd : FuncData}

abbrev s_law_among : Stmt := top 19
theorem sc_law_among : FnScope ["thing", "low", "high"] ["thing", "low", "high"] (defScope s_law_among) := ⟨rfl, rfl, rfl, by decide +kernel, rfl, by decide +kernel, by decide +kernel⟩
theorem v_law_among_high : Vis (defScope s_law_among) "high" := Or.inl (by kernel_rfl)
theorem v_law_among_low : Vis (defScope s_law_among) "low" := Or.inl (by kernel_rfl)
theorem v_law_among_thing : Vis (defScope s_law_among) "thing" := Or.inl (by kernel_rfl)
theorem g_law_among_bool : (defScope s_law_among).names.lookup ("bool" : Str) = some NameKind.globalImplicit := by kernel_rfl
theorem g_law_among_int : (defScope s_law_among).names.lookup ("int" : Str) = some NameKind.globalImplicit := by kernel_rfl
theorem g_law_among_isinstance : (defScope s_law_among).names.lookup ("isinstance" : Str) = some NameKind.globalImplicit := by kernel_rfl
def t_law_among {cdv : Value} {A : Around} {outer : List Env} {s : Shared} {H : Hp} {E : XK} (B : Bl mg) (hr : Room 0 (A.deeper (PyProof.Rows.envOfC "_law_among" (defScope s_law_among) s.heap.objs.size f cdv))) :
    { t : TS // QB (cxOf CX0 P w K mg base ["thing", "low", "high"] "_law_among" (defScope s_law_among) f cdv A outer s H E).nox (defBody s_law_among) t } :=
  ⟨_, (qb_one (qs_ret (ke_and (K := K) rfl (qe_cB (kIsiG (K := K) rfl) g_law_among_isinstance B.isinstance boot_isinstance' (qa_cons (qv 0 rfl v_law_among_thing) (qa_cons (qe_ty g_law_among_int B.int boot_int) qa_nil))) (ke_and (K := K) rfl (ke_not (K := K) rfl (qe_cB (kIsiG (K := K) rfl) g_law_among_isinstance B.isinstance boot_isinstance' (qa_cons (qv 0 rfl v_law_among_thing) (qa_cons (qe_ty g_law_among_bool B.bool boot_bool) qa_nil)))) (qe_one (qe_chain opLe opLe (qv 1 rfl v_law_among_low) (qv 0 rfl v_law_among_thing) (qv 2 rfl v_law_among_high)))))))⟩
abbrev s_law_whole : Stmt := top 16
theorem sc_law_whole : FnScope ["thing"] ["thing"] (defScope s_law_whole) := ⟨rfl, rfl, rfl, by decide +kernel, rfl, by decide +kernel, by decide +kernel⟩
theorem v_law_whole_thing : Vis (defScope s_law_whole) "thing" := Or.inl (by kernel_rfl)
theorem g_law_whole_bool : (defScope s_law_whole).names.lookup ("bool" : Str) = some NameKind.globalImplicit := by kernel_rfl
theorem g_law_whole_int : (defScope s_law_whole).names.lookup ("int" : Str) = some NameKind.globalImplicit := by kernel_rfl
theorem g_law_whole_isinstance : (defScope s_law_whole).names.lookup ("isinstance" : Str) = some NameKind.globalImplicit := by kernel_rfl
def t_law_whole {cdv : Value} {A : Around} {outer : List Env} {s : Shared} {H : Hp} {E : XK} (B : Bl mg) (hr : Room 0 (A.deeper (PyProof.Rows.envOfC "_law_whole" (defScope s_law_whole) s.heap.objs.size f cdv))) :
    { t : TS // QB (cxOf CX0 P w K mg base ["thing"] "_law_whole" (defScope s_law_whole) f cdv A outer s H E).nox (defBody s_law_whole) t } :=
  ⟨_, (qb_one (qs_ret (ke_and (K := K) rfl (qe_cB (kIsiG (K := K) rfl) g_law_whole_isinstance B.isinstance boot_isinstance' (qa_cons (qv 0 rfl v_law_whole_thing) (qa_cons (qe_ty g_law_whole_int B.int boot_int) qa_nil))) (qe_one (ke_not (K := K) rfl (qe_cB (kIsiG (K := K) rfl) g_law_whole_isinstance B.isinstance boot_isinstance' (qa_cons (qv 0 rfl v_law_whole_thing) (qa_cons (qe_ty g_law_whole_bool B.bool boot_bool) qa_nil))))))))⟩
def sp_law_among : Sp := fun vs H Q _ => ∃ (x : V) (l u : Int), vs = [x, .int l, .int u] ∧ An H x ∧ Q (.bl (inW x l u)) H
theorem ok_law_among (B : Bl mg) (F : Fun K "_law_among" "_law_among" s_law_among f fd) : FnOk P w K mg base CX0 1 f fd ["thing", "low", "high"] sp_law_among := by
  refine F.okq sc_law_among (fun vs H Q E h => ?_) (fun cdv A outer s H vs Q E hr h => ?_)
  · obtain ⟨x, l, u, rfl, _⟩ := h; rfl
  obtain ⟨x, l, u, rfl, h, q⟩ := h
  refine ⟨t_law_among B  hr, ?_⟩
  refine h.isInt ?_
  cases x with
  | int i =>
    refine bT (h.isBool (bT (dec2 (fun c => ?_) (fun c => ?_))))
    · have e : inW (.int i) l u = decide (i ≤ u) := by simp [inW, c]
      rw [e] at q; exact q
    · have e : inW (.int i) l u = false := by simp [inW, c]
      rw [e] at q; exact q
  | bl b => exact bT (h.isBool (bF q))
  | _ => exact bF q
def sp_law_whole : Sp := fun vs H Q _ => ∃ i : Int, vs = [.int i] ∧ Q (.bl true) H
theorem ok_law_whole (B : Bl mg) (F : Fun K "_law_whole" "_law_whole" s_law_whole f fd) : FnOk P w K mg base CX0 1 f fd ["thing"] sp_law_whole := by
  refine F.okq sc_law_whole (fun vs H Q E h => ?_) (fun cdv A outer s H vs Q E hr h => ?_)
  · obtain ⟨i, rfl, _⟩ := h; rfl
  obtain ⟨i, rfl, q⟩ := h
  refine ⟨t_law_whole B  hr, ?_⟩
  have h : An H (.int i) := .int i
  exact h.isInt (bT (h.isBool q))

end
end K

set_option linter.all false
set_option Elab.async false
set_option maxRecDepth 100000
set_option maxHeartbeats 4000000
namespace K
open PySem L2
section
variable {C : Addr} {P : Program} {w : World} {K : PySem.W.Frag} {mg : Str → Option Value} {base : Heap} {f : Addr} {fd : FuncData}

abbrev s_law_says_greatest : Stmt := top 20
theorem sc_law_says_greatest : FnScope ["row", "many", "thing", "sums", "last", "one"] ["row", "many", "thing"] (defScope s_law_says_greatest) := ⟨rfl, rfl, rfl, by decide +kernel, rfl, by decide +kernel, by decide +kernel⟩
theorem l_law_says_greatest_last : Loc (defScope s_law_says_greatest) "last" := Or.inl (by kernel_rfl)
theorem l_law_says_greatest_one : Loc (defScope s_law_says_greatest) "one" := Or.inl (by kernel_rfl)
theorem l_law_says_greatest_sums : Loc (defScope s_law_says_greatest) "sums" := Or.inl (by kernel_rfl)
theorem v_law_says_greatest_last : Vis (defScope s_law_says_greatest) "last" := Or.inl (by kernel_rfl)
theorem v_law_says_greatest_many : Vis (defScope s_law_says_greatest) "many" := Or.inl (by kernel_rfl)
theorem v_law_says_greatest_one : Vis (defScope s_law_says_greatest) "one" := Or.inl (by kernel_rfl)
theorem v_law_says_greatest_row : Vis (defScope s_law_says_greatest) "row" := Or.inl (by kernel_rfl)
theorem v_law_says_greatest_sums : Vis (defScope s_law_says_greatest) "sums" := Or.inl (by kernel_rfl)
theorem v_law_says_greatest_thing : Vis (defScope s_law_says_greatest) "thing" := Or.inl (by kernel_rfl)
theorem g_law_says_greatest__law_among : (defScope s_law_says_greatest).names.lookup ("_law_among" : Str) = some NameKind.globalImplicit := by kernel_rfl
theorem g_law_says_greatest_isinstance : (defScope s_law_says_greatest).names.lookup ("isinstance" : Str) = some NameKind.globalImplicit := by kernel_rfl
theorem g_law_says_greatest_len : (defScope s_law_says_greatest).names.lookup ("len" : Str) = some NameKind.globalImplicit := by kernel_rfl
theorem g_law_says_greatest_list : (defScope s_law_says_greatest).names.lookup ("list" : Str) = some NameKind.globalImplicit := by kernel_rfl
theorem g_law_says_greatest_min : (defScope s_law_says_greatest).names.lookup ("min" : Str) = some NameKind.globalImplicit := by kernel_rfl
theorem g_law_says_greatest_str : (defScope s_law_says_greatest).names.lookup ("str" : Str) = some NameKind.globalImplicit := by kernel_rfl
theorem g_law_says_greatest_sum : (defScope s_law_says_greatest).names.lookup ("sum" : Str) = some NameKind.globalImplicit := by kernel_rfl
theorem g_law_says_greatest_tuple : (defScope s_law_says_greatest).names.lookup ("tuple" : Str) = some NameKind.globalImplicit := by kernel_rfl
def t_law_says_greatest {cdv : Value} {A : Around} {outer : List Env} {s : Shared} {H : Hp} {E : XK} (B : Bl mg) (D_law_among : Def P w K mg base 1 "_law_among" ["thing", "low", "high"] sp_law_among) (hr : Room 1 (A.deeper (PyProof.Rows.envOfC "_law_says_greatest" (defScope s_law_says_greatest) s.heap.objs.size f cdv))) :
    { t : TS // QB (cxOf CX0 P w K mg base ["row", "many", "thing", "sums", "last", "one"] "_law_says_greatest" (defScope s_law_says_greatest) f cdv A outer s H E).nox (defBody s_law_says_greatest) t } :=
  ⟨_, (qb_cons (qs_if (QW.pt (qw_or (qt_not (kt_val (K := K) rfl (qe_cB (kIsiG (K := K) rfl) g_law_says_greatest_isinstance B.isinstance boot_isinstance' (qa_cons (qv 2 rfl v_law_says_greatest_thing) (qa_cons (qe_ty g_law_says_greatest_tuple B.tuple boot_tuple) qa_nil))))) (qw_or1 (qt_cmp (kNeG (K := K) rfl hr) (qe_cB (kLen (K := K) rfl) g_law_says_greatest_len B.len boot_len' (qa_cons (qv 2 rfl v_law_says_greatest_thing) qa_nil)) qe_int)))) (qb_one (qs_ret qe_non)) qb_nil)
    (qb_cons (qs_if (QW.pt (qw_and (kt_val (K := K) rfl (qe_cB (kIsiG (K := K) rfl) g_law_says_greatest_isinstance B.isinstance boot_isinstance' (qa_cons (ke_ix (K := K) rfl (qv 2 rfl v_law_says_greatest_thing) qe_int (fun _ _ => rfl)) (qa_cons (qe_ty g_law_says_greatest_str B.str boot_str) qa_nil)))) (qw_and1 (qt_cmp (kEqG (K := K) rfl hr) (ke_ix (K := K) rfl (qv 2 rfl v_law_says_greatest_thing) qe_int (fun _ _ => rfl)) qe_str)))) (qb_one (qs_ret (qe_if (kt_val (K := K) rfl (qe_def D_law_among hr (by decide) g_law_says_greatest__law_among (qa_cons (ke_ix (K := K) rfl (qv 2 rfl v_law_says_greatest_thing) qe_int (fun _ _ => rfl)) (qa_cons qe_int (qa_cons (qe_op opSub (qe_cB (kLen (K := K) rfl) g_law_says_greatest_len B.len boot_len' (qa_cons (qv 0 rfl v_law_says_greatest_row) qa_nil)) qe_int) qa_nil))))) (ke_ix (K := K) rfl (qv 0 rfl v_law_says_greatest_row) (ke_ix (K := K) rfl (qv 2 rfl v_law_says_greatest_thing) qe_int (fun _ _ => rfl)) (fun _ _ => rfl)) qe_non))) qb_nil)
    (qb_cons (qs_if (QW.pt (qw_or (qt_not (kt_val (K := K) rfl (qe_cB (kIsiG (K := K) rfl) g_law_says_greatest_isinstance B.isinstance boot_isinstance' (qa_cons (ke_ix (K := K) rfl (qv 2 rfl v_law_says_greatest_thing) qe_int (fun _ _ => rfl)) (qa_cons (qe_ty g_law_says_greatest_str B.str boot_str) qa_nil))))) (qw_or (qt_cmp (kNeG (K := K) rfl hr) (ke_ix (K := K) rfl (qv 2 rfl v_law_says_greatest_thing) qe_int (fun _ _ => rfl)) qe_str) (qw_or1 (qt_not (kt_val (K := K) rfl (qe_cB (kIsiG (K := K) rfl) g_law_says_greatest_isinstance B.isinstance boot_isinstance' (qa_cons (ke_ix (K := K) rfl (qv 2 rfl v_law_says_greatest_thing) qe_int (fun _ _ => rfl)) (qa_cons (qe_ty g_law_says_greatest_list B.list boot_list) qa_nil))))))))) (qb_one (qs_ret qe_non)) qb_nil)
    (qb_cons (qs_if (qt_cmp (kNeG (K := K) rfl hr) (qe_cB (kLen (K := K) rfl) g_law_says_greatest_len B.len boot_len' (qa_cons (ke_ix (K := K) rfl (qv 2 rfl v_law_says_greatest_thing) qe_int (fun _ _ => rfl)) qa_nil)) (qv 1 rfl v_law_says_greatest_many)) (qb_one (qs_ret qe_non)) qb_nil)
    (qb_cons (qs_set (i := 3) sc_law_says_greatest.nd rfl l_law_says_greatest_sums (.inl rfl) (qe_lst qa_nil))
    (qb_cons (qs_set (i := 4) sc_law_says_greatest.nd rfl l_law_says_greatest_last (.inl rfl) qe_int)
    (qb_mid (qs_for PassesOwn.never rfl (ki_list (K := K) rfl (ke_ix (K := K) rfl (qv 2 rfl v_law_says_greatest_thing) qe_int (fun _ _ => rfl))) (qg_name (i := 5) sc_law_says_greatest.nd rfl l_law_says_greatest_one (.inl rfl)) (qb_cons (qs_if (QW.pt (qw_or (qt_not (kt_val (K := K) rfl (qe_cB (kIsiG (K := K) rfl) g_law_says_greatest_isinstance B.isinstance boot_isinstance' (qa_cons (qv 5 rfl v_law_says_greatest_one) (qa_cons (qe_ty g_law_says_greatest_tuple B.tuple boot_tuple) qa_nil))))) (qw_or (qt_cmp (kNeG (K := K) rfl hr) (qe_cB (kLen (K := K) rfl) g_law_says_greatest_len B.len boot_len' (qa_cons (qv 5 rfl v_law_says_greatest_one) qa_nil)) qe_int) (qw_or1 (qt_not (kt_val (K := K) rfl (qe_def D_law_among hr (by decide) g_law_says_greatest__law_among (qa_cons (ke_ix (K := K) rfl (qv 5 rfl v_law_says_greatest_one) qe_int (fun _ _ => rfl)) (qa_cons (qv 4 rfl v_law_says_greatest_last) (qa_cons (qe_cB (kLen (K := K) rfl) g_law_says_greatest_len B.len boot_len' (qa_cons (qv 0 rfl v_law_says_greatest_row) qa_nil)) qa_nil)))))))))) (qb_one (qs_ret qe_non)) qb_nil)
    (qb_cons (qs_if (qt_not (kt_val (K := K) rfl (qe_def D_law_among hr (by decide) g_law_says_greatest__law_among (qa_cons (ke_ix (K := K) rfl (qv 5 rfl v_law_says_greatest_one) qe_int (fun _ _ => rfl)) (qa_cons (qe_op opAdd (ke_ix (K := K) rfl (qv 5 rfl v_law_says_greatest_one) qe_int (fun _ _ => rfl)) qe_int) (qa_cons (qe_cB (kLen (K := K) rfl) g_law_says_greatest_len B.len boot_len' (qa_cons (qv 0 rfl v_law_says_greatest_row) qa_nil)) qa_nil)))))) (qb_one (qs_ret qe_non)) qb_nil)
    (qb_cons (qs_ex (ke_m1 (K := K) rfl PySem.F.plainAttrs_list PySem.F.slot_list_append PySem.F.type_list_append mtApp (qv 3 rfl v_law_says_greatest_sums) (qe_cB (kSum (K := K) rfl rfl) g_law_says_greatest_sum B.sum boot_sum' (qa_cons (ke_slice (K := K) rfl (qv 0 rfl v_law_says_greatest_row) (qo_some (ke_ix (K := K) rfl (qv 5 rfl v_law_says_greatest_one) qe_int (fun _ _ => rfl))) (qo_some (ke_ix (K := K) rfl (qv 5 rfl v_law_says_greatest_one) qe_int (fun _ _ => rfl)))) qa_nil))))
    (qb_one (qs_set (i := 4) sc_law_says_greatest.nd rfl l_law_says_greatest_last (.inl rfl) (qe_op opSub (ke_ix (K := K) rfl (qv 5 rfl v_law_says_greatest_one) qe_int (fun _ _ => rfl)) qe_int)))))))
    (qb_one (qs_ret (qe_cB (kMin (K := K) rfl rfl) g_law_says_greatest_min B.min boot_min' (qa_cons (qv 3 rfl v_law_says_greatest_sums) qa_nil)))))))))))⟩
def sp_law_says_greatest : Sp := fun vs H Q _ => ∃ (r : Addr) (x : V) (m : Nat) (ns : List Int), vs = [.ref r, .int m, x] ∧ H r = some (.lst (ns.map V.int)) ∧ RowN ns ∧ 1 ≤ m ∧ m ≤ ns.length ∧ Kn 3 H x ∧
  (∀ i, PN H ns.length x i → Q (.int (ns.getD i 0)) H) ∧ (∀ ps, PS H ns.length m x ps → ∀ M H', M ∈ ps.map (sg ns) → (∀ g ∈ ps.map (sg ns), M ≤ g) → Same H H' → Q (.int M) H') ∧ ((¬ ∃ i, PN H ns.length x i) → (¬ ∃ ps, PS H ns.length m x ps) → ∀ H', Same H H' → Q .non H')
theorem ok_law_says_greatest (B : Bl mg) (D_law_among : Def P w K mg base 1 "_law_among" ["thing", "low", "high"] sp_law_among) (F : Fun K "_law_says_greatest" "_law_says_greatest" s_law_says_greatest f fd) : FnOk P w K mg base CX0 2 f fd ["row", "many", "thing"] sp_law_says_greatest := by
  refine F.okq sc_law_says_greatest (fun vs H Q E h => ?_) (fun cdv A outer s H vs Q E hr h => ?_)
  · obtain ⟨r, x, m, ns, rfl, _⟩ := h; rfl
  obtain ⟨r, x, m, ns, rfl, er, rn, hm1, hmn, hx, q1, q2, qn⟩ := h
  have hle : ns.length ≤ 120 := rn.le
  have qnH := fun a b => qn a b H (Same.refl H)
  refine ⟨t_law_says_greatest B D_law_among hr, ?_⟩
  refine hx.1.isTup ?_
  cases ht : tpOf H x with
  | none => exact bT (bT (qnH (fun ⟨i, e, _⟩ => by rw [ht] at e; cases e) (fun ⟨ps, y, zs, e, _⟩ => by rw [ht] at e; cases e)))
  | some ws =>
  obtain ⟨a, rfl, ea⟩ := tpOf_some ht
  have no2 : ws.length ≠ 2 → Q .non H := fun c => qnH (fun ⟨i, e, _⟩ => by rw [ht] at e; cases e; exact c rfl) (fun ⟨ps, y, zs, e, _⟩ => by rw [ht] at e; cases e; exact c rfl)
  refine bF (i_lenT ea (ndec2 (fun c => no2 (by omega)) (fun c => ?_)))
  obtain ⟨wd, y, rfl⟩ : ∃ b e, ws = [b, e] := by
    match ws, c with
    | [b, e], _ => exact ⟨b, e, rfl⟩
    | [], c => exact absurd c (by decide)
    | [_], c => exact absurd c (by simp)
    | _ :: _ :: _ :: _, c => exact absurd c (by simp; omega)
  have kw := hx.2.2 _ ht wd (by simp)
  have ky := hx.2.2 _ ht y (by simp)
  have non : (∀ w, wd = .str w → w ≠ "number" ∧ w ≠ "stretches") → Q .non H := fun hn => qnH (fun ⟨i, e, _⟩ => by rw [ht] at e; cases e; exact (hn _ rfl).1 rfl) (fun ⟨ps, y, zs, e, _⟩ => by rw [ht] at e; cases e; exact (hn _ rfl).2 rfl)
  refine i_ixT 0 ea rfl rfl ?_
  refine kw.an.isStr ?_
  cases wd with
  | str w =>
    refine bT (i_ixT 0 ea rfl rfl ?_)
    by_cases c1 : w = "number"
    · subst c1
      have noS : ¬ ∃ ps, PS H ns.length m (.ref a) ps := fun ⟨ps, y, zs, e, _⟩ => by rw [ht] at e; cases e
      refine bIs (by simp) (i_ixT 1 ea rfl rfl (i_lenI er ⟨y, 0, _, rfl, ky.an, ?_⟩))
      cases hw : inW y 0 ((ns.length : Int) - 1) with
      | true =>
        cases y with
        | int i =>
          simp [inW] at hw
          obtain ⟨k, rfl⟩ : ∃ k : Nat, i = (k : Int) := ⟨i.toNat, by omega⟩
          refine bT (i_ixT 1 ea rfl rfl (i_ixI er (by omega) (by omega) ?_))
          exact q1 k ⟨ht, by omega⟩
        | _ => cases hw
      | false =>
        have noN : ¬ ∃ i, PN H ns.length (.ref a) i := fun ⟨i, e, hi⟩ => by
          rw [ht] at e; cases e
          simp [inW] at hw; omega
        exact bF (qnH noN noS)
    · refine bNo (by simp [c1]) ?_
      refine i_ixT 0 ea rfl rfl ?_
      refine kw.an.isStr (bF (i_ixT 0 ea rfl rfl ?_))
      by_cases c2 : w = "stretches"
      · subst c2
        have noN : ¬ ∃ i, PN H ns.length (.ref a) i := fun ⟨i, e, _⟩ => by rw [ht] at e; cases e
        refine bNo (by simp) (i_ixT 1 ea rfl rfl ?_)
        refine ky.an.isList ?_
        cases hl : lsOf H y with
        | none => exact bT (qnH noN fun ⟨ps, y', zs, e, e2, _⟩ => by rw [ht] at e; cases e; rw [hl] at e2; cases e2)
        | some zs =>
          obtain ⟨b, rfl, eb⟩ := lsOf_some hl
          have noS : (zs.length = m → stl H ns.length 0 zs = none) → ¬ ∃ ps, PS H ns.length m (.ref a) ps := fun hn ⟨ps, y', zs', e, e2, e3, e4⟩ => by
            rw [ht] at e; cases e; rw [hl] at e2; cases e2; rw [hn e3] at e4; cases e4
          refine bF (i_ixT 1 ea rfl rfl (i_lenL eb (ndec2 (fun c => qnH noN (noS fun z => absurd z (by omega))) (fun c => ?_))))
          have hzm : zs.length = m := by omega
          have hall : ∀ z ∈ zs, Kn 1 H z := fun z hz => ky.2.1 _ hl z hz
          refine i_newL (by show 0 ≤ sizeLine; decide) fun ps0 H1 hps0 s1 e1 => ?_
          refine ⟨fun σ H' => Same H H' ∧ (∃ ps, stl H ns.length 0 zs = some ps ∧ H' ps0 = some (.lst ((ps.map (sg ns)).map V.int))) ∧ ∃ o4 o5, σ = [some (.ref r), some (.int m), some (.ref a), some (.ref ps0), o4, o5], ?_, ?_⟩
          · refine i_ixT 1 (s1 _ _ ea) rfl rfl ?_
            refine ⟨⟨_, SqL.of (s1 _ _ eb)⟩, for_list (xs := zs) (fun i σ H' => Same H H' ∧ (∃ (l : Int) (pre : List (Int × Int)), 0 ≤ l ∧ pre.length = i ∧ stl H ns.length 0 zs = (stl H ns.length l (zs.drop i)).map (pre ++ ·) ∧ H' ps0 = some (.lst ((pre.map (sg ns)).map V.int)) ∧ ∃ o5, σ = [some (.ref r), some (.int m), some (.ref a), some (.ref ps0), some (.int l), o5])) ?_ ?_ ?_ ?_⟩
            · exact ⟨s1, 0, [], by decide, rfl, by simp, e1, _, rfl⟩
            · rintro i σ H' _ ⟨s', _⟩
              exact SqL.of (s' _ _ eb)
            · rintro i z σ H' hz ⟨s', l, pre, hl0, hpl, hst, ep, o5, rfl⟩
              have kz := hall z (List.mem_of_getElem? hz)
              rw [drop_at hz] at hst
              have none_ : stOf H ns.length l z = none → Q .non H' := fun hs => qn noN (noS fun _ => by rw [hst]; simp [stl, hs]) H' s'
              refine (kz.1.same s').isTup ?_
              rw [kz.1.tp s']
              cases hz2 : tpOf H z with
              | none => exact bT (bT (none_ (by unfold stOf; rw [hz2])))
              | some us =>
                obtain ⟨c, rfl, ec⟩ := tpOf_some hz2
                have ec' := s' _ _ ec
                refine bF (i_lenT ec' (ndec2 (fun c2 => bT (none_ ?_)) (fun c2 => ?_)))
                · unfold stOf; rw [hz2]
                  split
                  · rename_i z; cases z; exact absurd rfl c2
                  · rfl
                obtain ⟨bb, ee, rfl⟩ : ∃ b e, us = [b, e] := by
                  match us, c2 with
                  | [b, e], _ => exact ⟨b, e, rfl⟩
                  | [], c => exact absurd c (by decide)
                  | [_], c => exact absurd c (by simp)
                  | _ :: _ :: _ :: _, c => exact absurd c (by simp; omega)
                have kb := (kz.2.2 _ hz2 bb (by simp)).same s'
                have ke := (kz.2.2 _ hz2 ee (by simp)).same s'
                have no : (∀ i j : Int, bb = .int i → ee = .int j → ¬ (l ≤ i ∧ i + 2 ≤ j ∧ j ≤ (ns.length : Int))) → stOf H ns.length l (.ref c) = none := fun hn => by
                  unfold stOf; rw [hz2]
                  split
                  · rename_i z; cases z; rw [if_neg (hn _ _ rfl rfl)]
                  · rfl
                refine i_ixT 0 ec' rfl rfl (i_lenI (s' _ _ er) ⟨bb, l, _, rfl, kb, ?_⟩)
                cases hw : inW bb l (ns.length : Int) with
                | false =>
                  refine bT (none_ (no fun i j e1 e2 cc => ?_))
                  subst e1
                  simp [inW] at hw; omega
                | true =>
                  cases bb with
                  | int i0 =>
                    refine bF (i_ixT 1 ec' rfl rfl (i_ixT 0 ec' rfl rfl (i_lenI (s' _ _ er) ⟨ee, _, _, rfl, ke, ?_⟩)))
                    cases hw2 : inW ee (i0 + 2) (ns.length : Int) with
                    | false =>
                      refine bT (none_ (no fun i j e1 e2 cc => ?_))
                      cases e1
                      subst e2
                      simp [inW] at hw2; omega
                    | true =>
                      cases ee with
                      | int j0 =>
                        simp [inW] at hw hw2
                        have hst1 := stOf_yes hz2 (show l ≤ i0 ∧ i0 + 2 ≤ j0 ∧ j0 ≤ (ns.length : Int) by omega)
                        refine bF ?_
                        refine ⟨i_tyL ep, i_ixT 0 ec' rfl rfl (i_ixT 1 ec' rfl rfl (i_sl (SqL.of (s' _ _ er)) fun qa H6 hq s6 e6 => ?_))⟩
                        rw [sg_cut (p := (i0, j0)) (by show 0 ≤ i0; omega) (by show i0 + 2 ≤ j0; omega) (by show j0 ≤ (ns.length : Int); omega)] at e6
                        have hil := (List.getElem?_eq_some_iff.mp hz).1
                        refine i_sum (SqL.of e6) (i_app (s6 _ _ ep) (sz_lt (by simp; omega)) fun H7 k7 e7 => ?_)
                        have nc : c ≠ ps0 := fun z => by rw [z, hps0] at ec; cases ec
                        refine i_ixT 1 (k7.one nc (s6 _ _ ec')) rfl rfl ?_
                        refine ⟨(s'.trans s6).new k7 hps0, j0 - 1, pre ++ [(i0, j0)], by omega, by simp [hpl], ?_, ?_, _, rfl⟩
                        · rw [hst]
                          simp only [stl, hst1]
                          rw [Option.map_map]
                          congr 1
                          funext x
                          simp
                        · rw [e7, List.map_append, List.map_append]; rfl
                      | _ => cases hw2
                  | _ => cases hw
            · rintro σ H' ⟨s', l, pre, hl0, hpl, hst, ep, o5, rfl⟩
              rw [List.drop_length] at hst
              exact ⟨s', ⟨pre, by rw [hst]; simp [stl], ep⟩, _, _, rfl⟩
          · rintro σ H' ⟨s', ⟨ps, hst, ep⟩, o4, o5, rfl⟩
            have hpl := stl_len hst
            refine i_min (SqL.of ep) (fun z => ?_) fun M hM hmin => q2 ps ⟨_, zs, ht, hl, hzm, hst⟩ M H' hM hmin s'
            have := congrArg List.length z
            simp at this
            rw [this] at hpl
            simp at hpl
            omega
      · exact bIs (by simp [c2]) (bT (non fun w' e => by cases e; exact ⟨c1, c2⟩))
  | _ =>
    refine bF (bF ?_)
    refine i_ixT 0 ea rfl rfl ?_
    exact kw.an.isStr (bT (bT (non fun w e => by cases e)))

end
end K

set_option linter.all false
set_option Elab.async false
set_option maxRecDepth 100000
set_option maxHeartbeats 4000000
namespace K
open PySem L2
section
variable {C : Addr} {P : Program} {w : World} {K : PySem.W.Frag} {mg : Str → Option Value} {base : Heap} {f : Addr} {fd : FuncData}

abbrev s_law_right : Stmt := top 26
theorem sc_law_right : FnScope ["row", "many", "thing", "due", "handed", "kept", "found"] ["row", "many", "thing"] (defScope s_law_right) := ⟨rfl, rfl, rfl, by decide +kernel, rfl, by decide +kernel, by decide +kernel⟩
theorem l_law_right_due : Loc (defScope s_law_right) "due" := Or.inl (by kernel_rfl)
theorem l_law_right_found : Loc (defScope s_law_right) "found" := Or.inl (by kernel_rfl)
theorem l_law_right_handed : Loc (defScope s_law_right) "handed" := Or.inl (by kernel_rfl)
theorem l_law_right_kept : Loc (defScope s_law_right) "kept" := Or.inl (by kernel_rfl)
theorem v_law_right_due : Vis (defScope s_law_right) "due" := Or.inl (by kernel_rfl)
theorem v_law_right_found : Vis (defScope s_law_right) "found" := Or.inl (by kernel_rfl)
theorem v_law_right_handed : Vis (defScope s_law_right) "handed" := Or.inl (by kernel_rfl)
theorem v_law_right_kept : Vis (defScope s_law_right) "kept" := Or.inl (by kernel_rfl)
theorem v_law_right_many : Vis (defScope s_law_right) "many" := Or.inl (by kernel_rfl)
theorem v_law_right_row : Vis (defScope s_law_right) "row" := Or.inl (by kernel_rfl)
theorem v_law_right_thing : Vis (defScope s_law_right) "thing" := Or.inl (by kernel_rfl)
theorem g_law_right__law_says_greatest : (defScope s_law_right).names.lookup ("_law_says_greatest" : Str) = some NameKind.globalImplicit := by kernel_rfl
theorem g_law_right__law_whole : (defScope s_law_right).names.lookup ("_law_whole" : Str) = some NameKind.globalImplicit := by kernel_rfl
theorem g_law_right_list : (defScope s_law_right).names.lookup ("list" : Str) = some NameKind.globalImplicit := by kernel_rfl
theorem g_law_right_repr : (defScope s_law_right).names.lookup ("repr" : Str) = some NameKind.globalImplicit := by kernel_rfl
theorem g_law_right_says_greatest : (defScope s_law_right).names.lookup ("says_greatest" : Str) = some NameKind.globalImplicit := by kernel_rfl
def t_law_right {cdv : Value} {A : Around} {outer : List Env} {s : Shared} {H : Hp} {E : XK} (B : Bl mg) (D_law_says_greatest : Def P w K mg base 2 "_law_says_greatest" ["row", "many", "thing"] sp_law_says_greatest) (D_says_greatest : Def P w K mg base 5 "says_greatest" ["row", "many", "thing"] sp_says_greatest) (D_law_whole : Def P w K mg base 1 "_law_whole" ["thing"] sp_law_whole) (hr : Room 5 (A.deeper (PyProof.Rows.envOfC "_law_right" (defScope s_law_right) s.heap.objs.size f cdv))) :
    { t : TS // QB (cxOf CX0 P w K mg base ["row", "many", "thing", "due", "handed", "kept", "found"] "_law_right" (defScope s_law_right) f cdv A outer s H E).nox (defBody s_law_right) t } :=
  ⟨_, (qb_cons (qs_set (i := 3) sc_law_right.nd rfl l_law_right_due (.inl rfl) (qe_def D_law_says_greatest hr (by decide) g_law_right__law_says_greatest (qa_cons (qv 0 rfl v_law_right_row) (qa_cons (qv 1 rfl v_law_right_many) (qa_cons (qv 2 rfl v_law_right_thing) qa_nil)))))
    (qb_cons (qs_set (i := 4) sc_law_right.nd rfl l_law_right_handed (.inl rfl) (qe_cT (kList (K := K) rfl) g_law_right_list B.list boot_list (qa_cons (qv 0 rfl v_law_right_row) qa_nil)))
    (qb_cons (qs_set (i := 5) sc_law_right.nd rfl l_law_right_kept (.inl rfl) (qe_cB (callReprD hr) g_law_right_repr B.repr boot_repr' (qa_cons (qv 2 rfl v_law_right_thing) qa_nil)))
    (qb_cons (qs_set (i := 6) sc_law_right.nd rfl l_law_right_found (.inl rfl) (qe_def D_says_greatest hr (by decide) g_law_right_says_greatest (qa_cons (qv 4 rfl v_law_right_handed) (qa_cons (qv 1 rfl v_law_right_many) (qa_cons (qv 2 rfl v_law_right_thing) qa_nil)))))
    (qb_cons (qs_if (QW.pt (qw_or (qt_cmp (kNeG (K := K) rfl hr) (qv 4 rfl v_law_right_handed) (qv 0 rfl v_law_right_row)) (qw_or1 (qt_cmp (kNeG (K := K) rfl hr) (qe_cB (callReprD hr) g_law_right_repr B.repr boot_repr' (qa_cons (qv 2 rfl v_law_right_thing) qa_nil)) (qv 5 rfl v_law_right_kept))))) (qb_one (qs_ret qe_bl)) qb_nil)
    (qb_one (qs_ret (qe_if (qt_cmp opIs (qv 3 rfl v_law_right_due) qe_non) (qe_cmp opIs (qv 6 rfl v_law_right_found) qe_non) (ke_and (K := K) rfl (qe_def D_law_whole hr (by decide) g_law_right__law_whole (qa_cons (qv 6 rfl v_law_right_found) qa_nil)) (qe_one (qe_cmp (kEqG (K := K) rfl hr) (qv 6 rfl v_law_right_found) (qv 3 rfl v_law_right_due))))))))))))⟩
theorem tpls {H H' : Hp} {N : Int} (s : Same H H') : ∀ {zs : List V} {lo : Int}, (∀ z ∈ zs, An H z) → stl H' N lo zs = stl H N lo zs
  | [], _, _ => rfl
  | z :: zs, lo, h => by
    simp only [stl, stOf_same (h z List.mem_cons_self) s]
    cases stOf H N lo z with
    | none => rfl
    | some p => simp only; rw [tpls s fun z hz => h z (List.mem_cons_of_mem _ hz)]
theorem pn_same {H H' : Hp} {n : Nat} {x : V} {i : Nat} (k : Kn 3 H x) (s : Same H H') : PN H' n x i ↔ PN H n x i := by unfold PN; rw [k.an.tp s]
theorem ps_same {H H' : Hp} {n m : Nat} {x : V} {ps : List (Int × Int)} (k : Kn 3 H x) (s : Same H H') : PS H' n m x ps ↔ PS H n m x ps := by
  unfold PS
  rw [k.an.tp s]
  constructor
  · rintro ⟨y, zs, e1, e2, e3, e4⟩
    have ky := k.2.2 _ e1 y (by simp)
    rw [ky.an.ls s] at e2
    rw [tpls (lo := 0) s fun z hz => (ky.2.1 _ e2 z hz).an] at e4
    exact ⟨y, zs, e1, e2, e3, e4⟩
  · rintro ⟨y, zs, e1, e2, e3, e4⟩
    have ky := k.2.2 _ e1 y (by simp)
    refine ⟨y, zs, e1, by rw [ky.an.ls s]; exact e2, e3, ?_⟩
    rw [tpls (lo := 0) s fun z hz => (ky.2.1 _ e2 z hz).an]; exact e4
theorem pn_uniq {H : Hp} {n : Nat} {x : V} {i j : Nat} (h : PN H n x i) (g : PN H n x j) : i = j := by
  have := h.1
  rw [g.1] at this
  simp at this
  omega
theorem ps_uniq {H : Hp} {n m : Nat} {x : V} {ps qs : List (Int × Int)} (h : PS H n m x ps) (g : PS H n m x qs) : ps = qs := by
  obtain ⟨y, zs, e1, e2, _, e4⟩ := h
  obtain ⟨y', zs', f1, f2, _, f4⟩ := g
  rw [e1] at f1
  simp at f1
  subst f1
  rw [e2] at f2; cases f2
  rw [e4] at f4; cases f4; rfl
theorem pn_ps {H : Hp} {n m : Nat} {x : V} {i : Nat} {ps : List (Int × Int)} (h : PN H n x i) (g : PS H n m x ps) : False := by
  obtain ⟨y, zs, e1, _⟩ := g
  rw [h.1] at e1
  simp at e1
  exact absurd e1.1 (by decide +kernel)
def sp_law_right : Sp := fun vs H Q _ => ∃ (r : Addr) (x : V) (m : Nat) (ns : List Int) (S : List Addr) (n B : Nat), vs = [.ref r, .int m, x] ∧ H r = some (.lst (ns.map V.int)) ∧ RowN ns ∧ 1 ≤ m ∧ m ≤ ns.length ∧ Tg S n B H x ∧ n ≤ 30 ∧ B ≤ 320000 ∧ ∀ H', Same H H' → Q (.bl true) H'
theorem ok_law_right (B : Bl mg) (D_law_says_greatest : Def P w K mg base 2 "_law_says_greatest" ["row", "many", "thing"] sp_law_says_greatest) (D_says_greatest : Def P w K mg base 5 "says_greatest" ["row", "many", "thing"] sp_says_greatest) (D_law_whole : Def P w K mg base 1 "_law_whole" ["thing"] sp_law_whole) (F : Fun K "_law_right" "_law_right" s_law_right f fd) : FnOk P w K mg base CX0 6 f fd ["row", "many", "thing"] sp_law_right := by
  refine F.okq sc_law_right (fun vs H Q E h => ?_) (fun cdv A outer s H vs Q E hr h => ?_)
  · obtain ⟨r, x, m, ns, S, n, B, rfl, _⟩ := h; rfl
  obtain ⟨r, x, m, ns, S, n, W, rfl, er, rn, hm1, hmn, tx, hn, hW, q⟩ := h
  have kn := tg_kn 3 n x tx
  obtain ⟨dd, rd, ft⟩ := id tx
  refine ⟨t_law_right B D_law_says_greatest D_says_greatest D_law_whole hr, ?_⟩
  have hdN : ∀ M : Int, id (decide (M = M)) = true := fun M => decide_eq_true rfl
  refine ⟨r, x, m, ns, rfl, er, rn, hm1, hmn, kn, fun i P => ?_, fun ps P M H1 hM hmin s1 => ?_, fun hN hS H1 s1 => ?_⟩
  · refine i_copy er fun p2 H2 hp2 s2 e2 => ?_
    refine i_reprD (rd.kp s2.kp) ft hn hW ?_
    refine ⟨p2, x, m, ns, rfl, e2, rn, hm1, hmn, kn.same s2, fun j P2 => ?_, fun ps P2 => (pn_ps P ((ps_same kn s2).mp P2)).elim, fun hz => absurd ⟨i, (pn_same kn s2).mpr P⟩ hz⟩
    have ej := pn_uniq P ((pn_same kn s2).mp P2)
    subst ej
    refine i_eqI (ns := ns) (ms := ns) (SqL.of e2) (SqL.of (s2 _ _ er)) (bNo (by simp) ?_)
    refine i_reprD (rd.kp s2.kp) ft hn hW (bNo (by simp) ?_)
    refine bF ⟨_, rfl, bT ?_⟩
    show Q (.bl (id (decide (_ = _)))) H2
    rw [hdN]; exact q H2 s2
  · refine i_copy (s1 _ _ er) fun p2 H2 hp2 s2 e2 => ?_
    have s02 := s1.trans s2
    refine i_reprD (rd.kp s02.kp) ft hn hW ?_
    refine ⟨p2, x, m, ns, rfl, e2, rn, hm1, hmn, kn.same s02, fun j P2 => (pn_ps ((pn_same kn s02).mp P2) P).elim, fun ps2 P2 M2 H4 hM2 hmin2 s4 => ?_, fun _ hz => absurd ⟨ps, (ps_same kn s02).mpr P⟩ hz⟩
    have ep := ps_uniq P ((ps_same kn s02).mp P2)
    subst ep
    have eM : M2 = M := by have := hmin M2 hM2; have := hmin2 M hM; omega
    subst eM
    have s04 := s02.trans s4
    refine i_eqI (ns := ns) (ms := ns) (SqL.of (s4 _ _ e2)) (SqL.of (s04 _ _ er)) (bNo (by simp) ?_)
    refine i_reprD (rd.kp s04.kp) ft hn hW (bNo (by simp) ?_)
    refine bF ⟨M2, rfl, bT ?_⟩
    show Q (.bl (id (decide (M2 = M2)))) H4
    rw [hdN]; exact q H4 s04
  · refine i_copy (s1 _ _ er) fun p2 H2 hp2 s2 e2 => ?_
    have s02 := s1.trans s2
    refine i_reprD (rd.kp s02.kp) ft hn hW ?_
    refine ⟨p2, x, m, ns, rfl, e2, rn, hm1, hmn, kn.same s02, fun j P2 => absurd ⟨j, (pn_same kn s02).mp P2⟩ hN, fun ps2 P2 => absurd ⟨ps2, (ps_same kn s02).mp P2⟩ hS, fun _ _ => ?_⟩
    refine i_eqI (ns := ns) (ms := ns) (SqL.of e2) (SqL.of (s02 _ _ er)) (bNo (by simp) ?_)
    refine i_reprD (rd.kp s02.kp) ft hn hW (bNo (by simp) ?_)
    exact bT (q H2 s02)

end
end K

set_option linter.all false
set_option Elab.async false
set_option maxRecDepth 100000
set_option maxHeartbeats 4000000
namespace K
open PySem L2
section
variable {C : Addr} {P : Program} {w : World} {K : PySem.W.Frag} {mg : Str → Option Value} {base : Heap} {f : Addr} {fd : FuncData}

abbrev s_law_odd : Stmt := top 22
theorem sc_law_odd : FnScope ["draws"] ["draws"] (defScope s_law_odd) := ⟨rfl, rfl, rfl, by decide +kernel, rfl, by decide +kernel, by decide +kernel⟩
theorem v_law_odd_draws : Vis (defScope s_law_odd) "draws" := Or.inl (by kernel_rfl)
theorem g_law_odd__law_take : (defScope s_law_odd).names.lookup ("_law_take" : Str) = some NameKind.globalImplicit := by kernel_rfl
def t_law_odd {cdv : Value} {A : Around} {outer : List Env} {s : Shared} {H : Hp} {E : XK} (B : Bl mg) (D_law_take : Def P w K mg base 1 "_law_take" ["draws", "many"] sp_law_take) (hr : Room 1 (A.deeper (PyProof.Rows.envOfC "_law_odd" (defScope s_law_odd) s.heap.objs.size f cdv))) :
    { t : TS // QB (cxOf CX0 P w K mg base ["draws"] "_law_odd" (defScope s_law_odd) f cdv A outer s H E).nox (defBody s_law_odd) t } :=
  ⟨_, (qb_one (qs_ret (ke_ix (K := K) rfl (qe_lst (qa_cons qe_bl (qa_cons qe_bl (qa_cons qe_non (qa_cons qe_str (qa_cons qe_str (qa_cons (qe_lst (qa_cons qe_int qa_nil)) (qa_cons (qe_tup (qa_cons qe_int qa_nil)) (qa_cons qe_dnew (qa_cons (qe_un unNeg qe_int) (qa_cons (qe_op opPow qe_int qe_int) (qa_cons (qe_op opSub qe_int (qe_op opPow qe_int qe_int)) qa_nil)))))))))))) (qe_def D_law_take hr (by decide) g_law_odd__law_take (qa_cons (qv 0 rfl v_law_odd_draws) (qa_cons qe_int qa_nil))) (fun _ _ => rfl))))⟩
abbrev s_law_spoilt : Stmt := top 23
theorem sc_law_spoilt : FnScope ["draws", "some", "size", "at", "one", "way", "new"] ["draws", "some", "size"] (defScope s_law_spoilt) := ⟨rfl, rfl, rfl, by decide +kernel, rfl, by decide +kernel, by decide +kernel⟩
theorem l_law_spoilt_at : Loc (defScope s_law_spoilt) "at" := Or.inl (by kernel_rfl)
theorem l_law_spoilt_new : Loc (defScope s_law_spoilt) "new" := Or.inl (by kernel_rfl)
theorem l_law_spoilt_one : Loc (defScope s_law_spoilt) "one" := Or.inl (by kernel_rfl)
theorem l_law_spoilt_way : Loc (defScope s_law_spoilt) "way" := Or.inl (by kernel_rfl)
theorem v_law_spoilt_at : Vis (defScope s_law_spoilt) "at" := Or.inl (by kernel_rfl)
theorem v_law_spoilt_draws : Vis (defScope s_law_spoilt) "draws" := Or.inl (by kernel_rfl)
theorem v_law_spoilt_new : Vis (defScope s_law_spoilt) "new" := Or.inl (by kernel_rfl)
theorem v_law_spoilt_one : Vis (defScope s_law_spoilt) "one" := Or.inl (by kernel_rfl)
theorem v_law_spoilt_size : Vis (defScope s_law_spoilt) "size" := Or.inl (by kernel_rfl)
theorem v_law_spoilt_some : Vis (defScope s_law_spoilt) "some" := Or.inl (by kernel_rfl)
theorem v_law_spoilt_way : Vis (defScope s_law_spoilt) "way" := Or.inl (by kernel_rfl)
theorem g_law_spoilt__law_odd : (defScope s_law_spoilt).names.lookup ("_law_odd" : Str) = some NameKind.globalImplicit := by kernel_rfl
theorem g_law_spoilt__law_take : (defScope s_law_spoilt).names.lookup ("_law_take" : Str) = some NameKind.globalImplicit := by kernel_rfl
theorem g_law_spoilt_int : (defScope s_law_spoilt).names.lookup ("int" : Str) = some NameKind.globalImplicit := by kernel_rfl
theorem g_law_spoilt_isinstance : (defScope s_law_spoilt).names.lookup ("isinstance" : Str) = some NameKind.globalImplicit := by kernel_rfl
theorem g_law_spoilt_len : (defScope s_law_spoilt).names.lookup ("len" : Str) = some NameKind.globalImplicit := by kernel_rfl
theorem g_law_spoilt_list : (defScope s_law_spoilt).names.lookup ("list" : Str) = some NameKind.globalImplicit := by kernel_rfl
theorem g_law_spoilt_tuple : (defScope s_law_spoilt).names.lookup ("tuple" : Str) = some NameKind.globalImplicit := by kernel_rfl
def t_law_spoilt {cdv : Value} {A : Around} {outer : List Env} {s : Shared} {H : Hp} {E : XK} (B : Bl mg) (D_law_take : Def P w K mg base 1 "_law_take" ["draws", "many"] sp_law_take) (D_law_odd : Def P w K mg base 2 "_law_odd" ["draws"] sp_law_odd) (hr : Room 2 (A.deeper (PyProof.Rows.envOfC "_law_spoilt" (defScope s_law_spoilt) s.heap.objs.size f cdv))) :
    { t : TS // QB (cxOf CX0 P w K mg base ["draws", "some", "size", "at", "one", "way", "new"] "_law_spoilt" (defScope s_law_spoilt) f cdv A outer s H E).nox (defBody s_law_spoilt) t } :=
  ⟨_, (qb_cons (qs_set (i := 3) sc_law_spoilt.nd rfl l_law_spoilt_at (.inl rfl) (qe_op opMod (qe_def D_law_take hr (by decide) g_law_spoilt__law_take (qa_cons (qv 0 rfl v_law_spoilt_draws) (qa_cons qe_int qa_nil))) (qe_op opAdd (qe_cB (kLen (K := K) rfl) g_law_spoilt_len B.len boot_len' (qa_cons (qv 1 rfl v_law_spoilt_some) qa_nil)) qe_int)))
    (qb_cons (qs_set (i := 4) sc_law_spoilt.nd rfl l_law_spoilt_one (.inl rfl) (ke_ix (K := K) rfl (qe_op opAdd (qv 1 rfl v_law_spoilt_some) (qe_lst (qa_cons (qe_tup (qa_cons qe_int (qa_cons qe_int qa_nil))) qa_nil))) (qv 3 rfl v_law_spoilt_at) (fun _ _ => rfl)))
    (qb_cons (qs_set (i := 5) sc_law_spoilt.nd rfl l_law_spoilt_way (.inl rfl) (qe_def D_law_take hr (by decide) g_law_spoilt__law_take (qa_cons (qv 0 rfl v_law_spoilt_draws) (qa_cons qe_int qa_nil))))
    (qb_cons (qs_if (qt_cmp (kEqG (K := K) rfl hr) (qv 5 rfl v_law_spoilt_way) qe_int) (qb_one (qs_ret (qe_op opAdd (ke_slice (K := K) rfl (qv 1 rfl v_law_spoilt_some) qo_none (qo_some (qv 3 rfl v_law_spoilt_at))) (ke_slice (K := K) rfl (qv 1 rfl v_law_spoilt_some) (qo_some (qe_op opAdd (qv 3 rfl v_law_spoilt_at) qe_int)) qo_none)))) qb_nil)
    (qb_cons (qs_if (qt_cmp (kEqG (K := K) rfl hr) (qv 5 rfl v_law_spoilt_way) qe_int) (qb_one (qs_ret (qe_op opAdd (qe_op opAdd (ke_slice (K := K) rfl (qv 1 rfl v_law_spoilt_some) qo_none (qo_some (qv 3 rfl v_law_spoilt_at))) (qe_lst (qa_cons (qv 4 rfl v_law_spoilt_one) qa_nil))) (ke_slice (K := K) rfl (qv 1 rfl v_law_spoilt_some) (qo_some (qv 3 rfl v_law_spoilt_at)) qo_none)))) qb_nil)
    (qb_cons (qs_if (qt_cmp (kEqG (K := K) rfl hr) (qv 5 rfl v_law_spoilt_way) qe_int) (qb_one (qs_ret (qe_op opAdd (qe_op opAdd (ke_slice (K := K) rfl (qv 1 rfl v_law_spoilt_some) qo_none (qo_some (qv 3 rfl v_law_spoilt_at))) (qe_rev (K := K) rfl (ke_slice (K := K) rfl (qv 1 rfl v_law_spoilt_some) (qo_some (qv 3 rfl v_law_spoilt_at)) (qo_some (qe_op opAdd (qv 3 rfl v_law_spoilt_at) qe_int))) (qo_some (qe_un unNeg qe_int)))) (ke_slice (K := K) rfl (qv 1 rfl v_law_spoilt_some) (qo_some (qe_op opAdd (qv 3 rfl v_law_spoilt_at) qe_int)) qo_none)))) qb_nil)
    (qb_cons (qs_if (QW.pt (qw_and (qt_cmp opLt (qv 5 rfl v_law_spoilt_way) qe_int) (qw_and (kt_val (K := K) rfl (qe_cB (kIsiG (K := K) rfl) g_law_spoilt_isinstance B.isinstance boot_isinstance' (qa_cons (qv 4 rfl v_law_spoilt_one) (qa_cons (qe_ty g_law_spoilt_tuple B.tuple boot_tuple) qa_nil)))) (qw_and1 (qt_cmp (kEqG (K := K) rfl hr) (qe_cB (kLen (K := K) rfl) g_law_spoilt_len B.len boot_len' (qa_cons (qv 4 rfl v_law_spoilt_one) qa_nil)) qe_int))))) (qb_cons (qs_set (i := 6) sc_law_spoilt.nd rfl l_law_spoilt_new (.inl rfl) (ke_ix (K := K) rfl (qe_lst (qa_cons (qe_def D_law_odd hr (by decide) g_law_spoilt__law_odd (qa_cons (qv 0 rfl v_law_spoilt_draws) qa_nil)) (qa_cons (qe_op opMod (qe_def D_law_take hr (by decide) g_law_spoilt__law_take (qa_cons (qv 0 rfl v_law_spoilt_draws) (qa_cons qe_int qa_nil))) (qe_op opAdd (qv 2 rfl v_law_spoilt_size) qe_int)) qa_nil))) (qe_def D_law_take hr (by decide) g_law_spoilt__law_take (qa_cons (qv 0 rfl v_law_spoilt_draws) (qa_cons qe_int qa_nil))) (fun _ _ => rfl)))
    (qb_mid (qs_if (QW.pt (qw_and (kt_val (K := K) rfl (qe_cB (kIsiG (K := K) rfl) g_law_spoilt_isinstance B.isinstance boot_isinstance' (qa_cons (ke_ix (K := K) rfl (qv 4 rfl v_law_spoilt_one) qe_int (fun _ _ => rfl)) (qa_cons (qe_ty g_law_spoilt_int B.int boot_int) qa_nil)))) (qw_and (kt_val (K := K) rfl (qe_cB (kIsiG (K := K) rfl) g_law_spoilt_isinstance B.isinstance boot_isinstance' (qa_cons (ke_ix (K := K) rfl (qv 4 rfl v_law_spoilt_one) qe_int (fun _ _ => rfl)) (qa_cons (qe_ty g_law_spoilt_int B.int boot_int) qa_nil)))) (qw_and1 (qt_cmp opGt (qe_def D_law_take hr (by decide) g_law_spoilt__law_take (qa_cons (qv 0 rfl v_law_spoilt_draws) (qa_cons qe_int qa_nil))) qe_int))))) (qb_one (qs_set (i := 6) sc_law_spoilt.nd rfl l_law_spoilt_new (.inl rfl) (qe_op opAddB (ke_ix (K := K) rfl (qv 4 rfl v_law_spoilt_one) (qe_op opMod (qv 5 rfl v_law_spoilt_way) qe_int) (fun _ _ => rfl)) (ke_ix (K := K) rfl (qe_lst (qa_cons qe_int (qa_cons (qe_un unNeg qe_int) (qa_cons qe_int (qa_cons (qe_un unNeg qe_int) qa_nil))))) (qe_def D_law_take hr (by decide) g_law_spoilt__law_take (qa_cons (qv 0 rfl v_law_spoilt_draws) (qa_cons qe_int qa_nil))) (fun _ _ => rfl))))) qb_nil)
    (qb_one (qs_ret (qe_op opAdd (qe_op opAdd (ke_slice (K := K) rfl (qv 1 rfl v_law_spoilt_some) qo_none (qo_some (qv 3 rfl v_law_spoilt_at))) (qe_lst (qa_cons (ke_ix (K := K) rfl (qe_lst (qa_cons (qe_tup (qa_cons (qv 6 rfl v_law_spoilt_new) (qa_cons (ke_ix (K := K) rfl (qv 4 rfl v_law_spoilt_one) qe_int (fun _ _ => rfl)) qa_nil))) (qa_cons (qe_tup (qa_cons (ke_ix (K := K) rfl (qv 4 rfl v_law_spoilt_one) qe_int (fun _ _ => rfl)) (qa_cons (qv 6 rfl v_law_spoilt_new) qa_nil))) qa_nil))) (qe_op opMod (qv 5 rfl v_law_spoilt_way) qe_int) (fun _ _ => rfl)) qa_nil))) (ke_slice (K := K) rfl (qv 1 rfl v_law_spoilt_some) (qo_some (qe_op opAdd (qv 3 rfl v_law_spoilt_at) qe_int)) qo_none)))))) qb_nil)
    (qb_cons (qs_if (QW.pt (qw_and (qt_cmp (kEqG (K := K) rfl hr) (qv 5 rfl v_law_spoilt_way) qe_int) (qw_and1 (kt_val (K := K) rfl (qe_cB (kIsiG (K := K) rfl) g_law_spoilt_isinstance B.isinstance boot_isinstance' (qa_cons (qv 4 rfl v_law_spoilt_one) (qa_cons (qe_ty g_law_spoilt_tuple B.tuple boot_tuple) qa_nil))))))) (qb_one (qs_ret (qe_op opAdd (qe_op opAdd (ke_slice (K := K) rfl (qv 1 rfl v_law_spoilt_some) qo_none (qo_some (qv 3 rfl v_law_spoilt_at))) (qe_lst (qa_cons (ke_ix (K := K) rfl (qe_lst (qa_cons (qe_cT (kList (K := K) rfl) g_law_spoilt_list B.list boot_list (qa_cons (qv 4 rfl v_law_spoilt_one) qa_nil)) (qa_cons (qe_op opAddT (qv 4 rfl v_law_spoilt_one) (qe_tup (qa_cons qe_int qa_nil))) (qa_cons (qe_sliceT (qv 4 rfl v_law_spoilt_one) qo_none (qo_some qe_int)) (qa_cons (qe_tup qa_nil) qa_nil))))) (qe_def D_law_take hr (by decide) g_law_spoilt__law_take (qa_cons (qv 0 rfl v_law_spoilt_draws) (qa_cons qe_int qa_nil))) (fun _ _ => rfl)) qa_nil))) (ke_slice (K := K) rfl (qv 1 rfl v_law_spoilt_some) (qo_some (qe_op opAdd (qv 3 rfl v_law_spoilt_at) qe_int)) qo_none)))) qb_nil)
    (qb_one (qs_ret (qe_op opAdd (qe_op opAdd (ke_slice (K := K) rfl (qv 1 rfl v_law_spoilt_some) qo_none (qo_some (qv 3 rfl v_law_spoilt_at))) (qe_lst (qa_cons (qe_def D_law_odd hr (by decide) g_law_spoilt__law_odd (qa_cons (qv 0 rfl v_law_spoilt_draws) qa_nil)) qa_nil))) (ke_slice (K := K) rfl (qv 1 rfl v_law_spoilt_some) (qo_some (qe_op opAdd (qv 3 rfl v_law_spoilt_at) (qe_def D_law_take hr (by decide) g_law_spoilt__law_take (qa_cons (qv 0 rfl v_law_spoilt_draws) (qa_cons qe_int qa_nil))))) qo_none))))))))))))⟩
theorem cutV_toV (xs : List V) {i : Nat} (h : i ≤ xs.length) : cutV xs none (some (i : Int)) = xs.take i := by
  unfold cutV; rw [HT.sIx_none, HT.sIx_nat, Nat.min_eq_left h, List.drop_zero, Nat.sub_zero]
theorem cutV_fromV (xs : List V) {i : Nat} (h : i ≤ xs.length) : cutV xs (some (i : Int)) none = xs.drop i := by
  unfold cutV; rw [HT.sIx_none, HT.sIx_nat, Nat.min_eq_left h, List.take_of_length_le (by simp)]
theorem cutV_memV {xs : List V} {lo hi : Option Int} {x : V} (h : x ∈ cutV xs lo hi) : x ∈ xs := List.mem_of_mem_drop (List.mem_of_mem_take h)
theorem tg_newD {d : Addr} {H X : Hp} (hh : DrawsAt H d) (s : Same H X) {a : Addr} (ha : X a = none) : a ∉ [d] := fun z => by
  simp at z; subst z; obtain ⟨_, q, _⟩ := hh; rw [s _ _ q] at ha; cases ha
/-- a thing of a list, its numbers not too great -/
def Eb (d : Addr) (n W b : Nat) (H : Hp) (x : V) : Prop := Tg [d] n W H x ∧ (∀ i, x = .int i → i.natAbs < b) ∧ ∀ ys, tpOf H x = some ys → ∀ i, .int i ∈ ys → i.natAbs < b
theorem tg_tp {S : List Addr} {n B : Nat} {H H' : Hp} {x : V} (t : Tg S n B H x) (k : Kp S H H') : tpOf H' x = tpOf H x := by
  obtain ⟨d, h, _⟩ := t
  cases x with
  | ref a =>
    cases n with
    | zero => exact (show False from h).elim
    | succ n =>
      obtain ⟨hs, h⟩ := h
      rcases h with ⟨xs, ds, h1, _⟩ | ⟨xs, ds, h1, _⟩ | ⟨xs, ds, h1, _⟩ <;> simp only [tpOf, h1, k _ _ hs h1]
  | _ => rfl
theorem Eb.kp {d : Addr} {n W b : Nat} {H H' : Hp} {x : V} (k : Kp [d] H H') (h : Eb d n W b H x) : Eb d n W b H' x := ⟨h.1.kp k, h.2.1, by rw [tg_tp h.1 k]; exact h.2.2⟩
theorem Eb.same {d : Addr} {n W b : Nat} {H H' : Hp} {x : V} (k : Same H H') (h : Eb d n W b H x) : Eb d n W b H' x := h.kp k.kp
theorem Eb.le {d : Addr} {n W b n' W' c : Nat} {H : Hp} {x : V} (h : Eb d n W b H x) (hn : n ≤ n') (hW : W ≤ W') (hc : b ≤ c) : Eb d n' W' c H x := ⟨h.1.le hn hW, fun i e => Nat.lt_of_lt_of_le (h.2.1 i e) hc, fun ys e i hi => Nat.lt_of_lt_of_le (h.2.2 ys e i hi) hc⟩
theorem eb_int {d : Addr} {n W b : Nat} {H : Hp} {i : Int} (h : i.natAbs < b) (hb : b ≤ 10 ^ 40) : Eb d n W b H (.int i) := ⟨tg_int (Nat.lt_of_lt_of_le h hb), (fun j e => by cases e; exact h), fun ys e => by cases e⟩
theorem eb_tup {d a : Addr} {n W b : Nat} {H : Hp} {ys : List V} (na : a ∉ [d]) (e : H a = some (.tup ys)) (h : ∀ y ∈ ys, Tg [d] n W H y) (hi : ∀ i, .int i ∈ ys → i.natAbs < b) : Eb d (n + 1) ((W + 1) * ys.length) b H (.ref a) :=
  ⟨tg_tup na e h, (fun j e => by cases e), fun zs e2 i hz => by rw [tpOf_tup e] at e2; cases e2; exact hi i hz⟩
theorem eb_lst {d a : Addr} {n W b : Nat} {H : Hp} {ys : List V} (na : a ∉ [d]) (e : H a = some (.lst ys)) (h : ∀ y ∈ ys, Tg [d] n W H y) : Eb d (n + 1) ((W + 1) * ys.length) b H (.ref a) :=
  ⟨tg_lst na e h, (fun j e => by cases e), fun zs e2 => by simp only [tpOf, e] at e2; cases e2⟩
/-- the data of a tuple -/
structure F3 (B : Nat) (ds : List PyData) : Prop where
  sh : PyData.showableAll ds = true
  lf : PyData.leavesShortAll 50 ds = true
  bk : PyData.bulkAll ds ≤ B
theorem F3.snoc {B : Nat} : ∀ {ds : List PyData}, F3 B ds → F3 (B + 1) (ds ++ [.int 0])
  | [], h => ⟨by decide +kernel, by decide +kernel, by show 0 + 1 + 0 ≤ B + 1; omega⟩
  | d :: ds, ⟨h1, h2, h3⟩ => by
    simp only [PyData.showableAll, PyData.leavesShortAll, PyData.bulkAll, Bool.and_eq_true] at h1 h2 h3
    obtain ⟨g1, g2, g3⟩ := F3.snoc (B := B - d.bulk - 1) (ds := ds) ⟨h1.2, h2.2, by omega⟩
    exact ⟨by simp only [List.cons_append, PyData.showableAll, h1.1, g1]; rfl, by simp only [List.cons_append, PyData.leavesShortAll, h2.1, g2]; rfl, by simp only [List.cons_append, PyData.bulkAll]; omega⟩
theorem F3.take1 {B : Nat} : ∀ {ds : List PyData}, F3 B ds → F3 B (ds.take 1)
  | [], h => h
  | d :: ds, ⟨h1, h2, h3⟩ => by
    simp only [PyData.showableAll, PyData.leavesShortAll, PyData.bulkAll, Bool.and_eq_true] at h1 h2 h3
    exact ⟨by simp only [List.take_succ_cons, List.take_zero, PyData.showableAll, h1.1]; rfl, by simp only [List.take_succ_cons, List.take_zero, PyData.leavesShortAll, h2.1]; rfl, by simp only [List.take_succ_cons, List.take_zero, PyData.bulkAll]; omega⟩
theorem F3.len {B : Nat} : ∀ {ds : List PyData}, F3 B ds → ds.length ≤ B
  | [], _ => Nat.zero_le _
  | d :: ds, ⟨h1, h2, h3⟩ => by
    simp only [PyData.showableAll, PyData.leavesShortAll, PyData.bulkAll, Bool.and_eq_true] at h1 h2 h3
    have := F3.len (B := B - d.bulk - 1) (ds := ds) ⟨h1.2, h2.2, by omega⟩
    rw [List.length_cons]; omega
theorem paired_len {α β : Type} {F : α → β → Prop} : ∀ {l : List α} {m : List β}, Paired F l m → l.length = m.length
  | _, _, .nil => rfl
  | _, _, .cons _ t => by simp [paired_len t]
theorem paired_take1 {α β : Type} {F : α → β → Prop} : ∀ {l : List α} {m : List β}, Paired F l m → Paired F (l.take 1) (m.take 1)
  | _, _, .nil => .nil
  | _, _, .cons f _ => .cons f .nil
theorem tg_data {S : List Addr} {n B : Nat} {H : Hp} {a : Addr} {us : List V} (h : Tg S (n + 1) B H (.ref a)) (e : H a = some (.tup us)) : ∃ ds, Paired (RD S n H) us ds ∧ F3 B ds := by
  obtain ⟨d, ⟨hs, h⟩, f⟩ := h
  rcases h with ⟨ys, ds, h1, _⟩ | ⟨ys, ds, h1, rfl, h3⟩ | ⟨ys, ds, h1, _⟩
  · rw [h1] at e; cases e
  · rw [h1] at e; cases e; exact ⟨ds, h3, f.sh, f.lf, f.bk⟩
  · rw [h1] at e; cases e
theorem eb_of {d a : Addr} {n B b : Nat} {H H' : Hp} {us : List V} {ds : List PyData} (p : Paired (RD [d] n H) us ds) (f : F3 B ds) (k : Kp [d] H H') (na : a ∉ [d]) (e : H' a = some (.tup us)) (hi : ∀ i, .int i ∈ us → i.natAbs < b) : Eb d (n + 1) B b H' (.ref a) :=
  ⟨⟨.tuple ds, ⟨na, .inr (.inl ⟨us, ds, e, rfl, Paired.imp' (fun a b z => z.kp k) p⟩)⟩, f.sh, f.lf, f.bk⟩, (fun j e => by cases e), fun zs e2 i hz => by rw [tpOf_tup e] at e2; cases e2; exact hi i hz⟩
theorem eb_ofL {d a : Addr} {n B b : Nat} {H H' : Hp} {us : List V} {ds : List PyData} (p : Paired (RD [d] n H) us ds) (f : F3 B ds) (k : Kp [d] H H') (na : a ∉ [d]) (e : H' a = some (.lst us)) : Eb d (n + 1) B b H' (.ref a) :=
  ⟨⟨.list ds, ⟨na, .inl ⟨us, ds, e, rfl, Paired.imp' (fun a b z => z.kp k) p⟩⟩, f.sh, f.lf, f.bk⟩, (fun j e => by cases e), fun zs e2 => by simp only [tpOf, e] at e2; cases e2⟩
theorem i_copyT {a : Addr} {H : Hp} {Q : VK} {ys : List V} (h : H a = some (.tup ys)) (q : ∀ p H', H p = none → Same H H' → H' p = some (.lst ys) → Q (.ref p) H') : hCopy K a H Q := by
  unfold hCopy; exact ⟨ys, .inr (SqT.of h), fun p hp => q p _ hp (same_upd hp) upd_same⟩
def sp_law_odd : Sp := fun vs H Q _ => ∃ (d : Addr), vs = [.ref d] ∧ DrawsAt H d ∧ ∀ y H', DrawsAt H' d → Kp [d] H H' → Eb d 1 4 (10 ^ 21) H' y → Q y H'
theorem ok_law_odd (B : Bl mg) (D_law_take : Def P w K mg base 1 "_law_take" ["draws", "many"] sp_law_take) (F : Fun K "_law_odd" "_law_odd" s_law_odd f fd) : FnOk P w K mg base CX0 2 f fd ["draws"] sp_law_odd := by
  refine F.okq sc_law_odd (fun vs H Q E h => ?_) (fun cdv A outer s H vs Q E hr h => ?_)
  · obtain ⟨d, rfl, _⟩ := h; rfl
  obtain ⟨d, rfl, hh, q⟩ := h
  refine ⟨t_law_odd B D_law_take hr, ?_⟩
  refine i_newL (by show 1 ≤ sizeLine; decide) fun p1 H1 hp1 s1 e1 => i_newT (by show 1 ≤ sizeLine; decide) fun p2 H2 hp2 s2 e2 => i_dnew fun p3 H3 hp3 s3 e3 => ⟨⟨by decide, by decide, by decide⟩, ⟨⟨by decide, by decide, by decide⟩, ?_⟩⟩
  refine i_newL (by show 11 ≤ sizeLine; decide) fun p4 H4 hp4 s4 e4 => ?_
  have s02 := s1.trans s2
  have s03 := s02.trans s3
  have s04 := s03.trans s4
  have t2 := s3.trans s4
  have t1 := s2.trans t2
  have hall : ∀ y ∈ [V.bl true, .bl false, .non, .str "0", .str "", .ref p1, .ref p2, .ref p3, .int (-1), .int (10 ^ Int.toNat 20), .int (0 - 10 ^ Int.toNat 20)], Eb d 1 4 (10 ^ 21) H4 y := by
    have i0 : ∀ x ∈ [V.int 0], Tg [d] 0 0 H4 x := fun x z => by rw [List.mem_singleton.mp z]; exact tg_int (by decide)
    intro y hy
    simp only [List.mem_cons, List.not_mem_nil, or_false] at hy
    rcases hy with rfl | rfl | rfl | rfl | rfl | rfl | rfl | rfl | rfl | rfl | rfl
    · exact ⟨tg_bl, (fun i e => by cases e), fun ys e => by cases e⟩
    · exact ⟨tg_bl, (fun i e => by cases e), fun ys e => by cases e⟩
    · exact ⟨tg_non, (fun i e => by cases e), fun ys e => by cases e⟩
    · exact ⟨tg_str (by decide +kernel) (by decide +kernel), (fun i e => by cases e), fun ys e => by cases e⟩
    · exact ⟨tg_str (by decide +kernel) (by decide +kernel), (fun i e => by cases e), fun ys e => by cases e⟩
    · exact (eb_lst (tg_newD hh (Same.refl H) hp1) (t1 _ _ e1) i0).le (by decide) (by decide) (Nat.le_refl _)
    · exact (eb_tup (tg_newD hh s1 hp2) (t2 _ _ e2) i0 (fun i hi => by simp at hi; subst hi; decide +kernel)).le (by decide) (by decide) (Nat.le_refl _)
    · refine ⟨(tg_dct (n := 0) (B := 0) (tg_newD hh s02 hp3) (s4 _ _ e3) (fun p z => nomatch z)).le (by decide) (by decide), (fun i e => by cases e), fun ys e => ?_⟩
      simp only [tpOf, s4 _ _ e3] at e; cases e
    · exact eb_int (by decide +kernel) (by decide +kernel)
    · exact eb_int (by decide +kernel) (by decide +kernel)
    · exact eb_int (by decide +kernel) (by decide +kernel)
  refine ⟨d, _, rfl, hh.same s04, by decide, fun g HA g0 g1 hhA kA => ?_⟩
  obtain ⟨gn, rfl⟩ : ∃ gn : Nat, g = (gn : Int) := ⟨g.toNat, by omega⟩
  have n4 : p4 ≠ d := by have := tg_newD hh s03 hp4; simpa using this
  have hgn : gn < 11 := by omega
  obtain ⟨o, ho⟩ : ∃ o, ([V.bl true, .bl false, .non, .str "0", .str "", .ref p1, .ref p2, .ref p3, .int (-1), .int (10 ^ Int.toNat 20), .int (0 - 10 ^ Int.toNat 20)])[gn]? = some o := ⟨_, List.getElem?_eq_getElem hgn⟩
  exact i_ixN gn (kA.one n4 e4) rfl ho (q o HA hhA (s04.kp.trans kA) ((hall o (List.mem_of_getElem? ho)).kp kA))
theorem cutV_len (xs : List V) {j : Nat} (m : Nat) (h : j ≤ m) : (xs.take j ++ cutV xs (some (m : Int)) none).length ≤ xs.length := by
  rw [List.length_append, List.length_take]
  unfold cutV
  rw [HT.sIx_nat, HT.sIx_none, List.length_take, List.length_drop]; omega
def sp_law_spoilt : Sp := fun vs H Q _ => ∃ (d r : Addr) (z : Int) (xs : List V) (W b : Nat), vs = [.ref d, .ref r, .int z] ∧ DrawsAt H d ∧ H r = some (.lst xs) ∧ r ≠ d ∧ xs.length ≤ 122 ∧ 1 ≤ z ∧ z ≤ 1000 ∧ 20 ≤ W ∧ W ≤ 1000 ∧ b ≤ 10 ^ 35 ∧ (∀ x ∈ xs, Eb d 2 W b H x) ∧
  ∀ p ys H', DrawsAt H' d → Kp [d] H H' → H' p = some (.lst ys) → H p = none → p ≠ d → (∀ y ∈ ys, Eb d 2 (3 * (W + 5)) (b + 10 ^ 21) H' y) → ys.length ≤ xs.length + 1 → Q (.ref p) H'
theorem ok_law_spoilt (B : Bl mg) (D_law_take : Def P w K mg base 1 "_law_take" ["draws", "many"] sp_law_take) (D_law_odd : Def P w K mg base 2 "_law_odd" ["draws"] sp_law_odd) (F : Fun K "_law_spoilt" "_law_spoilt" s_law_spoilt f fd) : FnOk P w K mg base CX0 3 f fd ["draws", "some", "size"] sp_law_spoilt := by
  refine F.okq sc_law_spoilt (fun vs H Q E h => ?_) (fun cdv A outer s H vs Q E hr h => ?_)
  · obtain ⟨d, r, z, xs, W, b, rfl, _⟩ := h; rfl
  obtain ⟨d, r, sz, xs, W, b, rfl, hh, hr0, nr, hle, hz0, hz1, hW, hW2, hb, hx, q⟩ := h
  have hc : b + 10 ^ 21 ≤ 10 ^ 40 := Nat.le_trans (Nat.add_le_add_right hb _) (by decide +kernel)
  have h21 : 2000 ≤ b + 10 ^ 21 := Nat.le_trans (by decide +kernel) (Nat.le_add_left _ _)
  refine ⟨t_law_spoilt B D_law_take D_law_odd hr, ?_⟩
  refine ⟨d, _, rfl, hh, by decide, fun g H1 g0 g1 hh1 k1 => ?_⟩
  have er1 := k1.one nr hr0
  refine i_lenL er1 ⟨by omega, ?_⟩
  have ha0 := Int.emod_nonneg g (show (xs.length : Int) + 1 ≠ 0 by omega)
  have ha1 := Int.emod_lt_of_pos g (show 0 < (xs.length : Int) + 1 by omega)
  generalize hg2 : g % ((xs.length : Int) + 1) = g2 at ha0 ha1
  obtain ⟨j, rfl⟩ : ∃ j : Nat, g2 = (j : Int) := ⟨g2.toNat, by omega⟩
  have hj : j ≤ xs.length := by omega
  have n1d : d ≠ d → False := fun z => z rfl
  refine i_newT (by show 2 ≤ sizeLine; decide) fun p2 H2 hp2 s2 e2 => i_newL (by show 1 ≤ sizeLine; decide) fun p3 H3 hp3 s3 e3 => ?_
  have s13 := s2.trans s3
  refine i_cat (s13 _ _ er1) e3 (sz_of (by simp; omega)) fun p4 H4 hp4 s4 e4 => ?_
  have s14 := s13.trans s4
  have k02 := k1
  have s34 := s14
  have hh4 := hh1.same s34
  obtain ⟨u, hu⟩ : ∃ u, (xs ++ [V.ref p2])[j]? = some u := ⟨_, List.getElem?_eq_getElem (by simp; omega)⟩
  have hx4 : ∀ x ∈ xs, Eb d 2 (3 * (W + 5)) (b + 10 ^ 21) H4 x := fun x z => (((hx x z).kp k02).same s34).le (Nat.le_refl _) (by omega) (Nat.le_add_right _ _)
  have tu0 : Eb d 2 W (b + 1000) H4 u := by
    rcases List.mem_append.mp (List.mem_of_getElem? hu) with z | z
    · exact (((hx u z).kp k02).same s34).le (Nat.le_refl _) (Nat.le_refl _) (Nat.le_add_right _ _)
    · rw [List.mem_singleton.mp z]
      exact (eb_tup (n := 0) (W := 0) (b := 1000) (tg_newD hh1 (Same.refl H1) hp2) ((s3.trans s4) _ _ e2) (fun y hy => by simp at hy; rcases hy with rfl | rfl <;> exact tg_int (by decide)) (fun i hi => by simp at hi; rcases hi with rfl | rfl <;> decide)).le (by decide) (by simp; omega) (by omega)
  have h1000 : b + 1000 ≤ b + 10 ^ 21 := Nat.add_le_add_left (by decide +kernel) _
  have tu : Eb d 2 (3 * (W + 5)) (b + 10 ^ 21) H4 u := tu0.le (Nat.le_refl _) (by omega) h1000
  refine i_ixN j e4 rfl hu ⟨d, _, rfl, hh4, by decide, fun way H5 w0 w1 hh5 k5 => ?_⟩
  have k05 : Kp [d] H H5 := (k02.same s34).trans k5
  have er5 := k05.one nr hr0
  have hx5 : ∀ x ∈ xs, Eb d 2 (3 * (W + 5)) (b + 10 ^ 21) H5 x := fun x z => (hx4 x z).kp k5
  have tu5 := tu.kp k5
  have hlc := cutV_length xs none (some (j : Int))
  have fin : ∀ {p : Addr} {ys : List V} {X Y : Hp}, Kp [d] H X → DrawsAt X d → Same X Y → H p = none → p ≠ d → Y p = some (.lst ys) → (∀ y ∈ ys, Eb d 2 (3 * (W + 5)) (b + 10 ^ 21) Y y) → ys.length ≤ xs.length + 1 → Q (.ref p) Y := fun k hX s hp np e hy hl => q _ _ _ (hX.same s) (k.same s) e hp np hy hl
  refine dec2 (fun c0 => ?_) (fun c0 => dec2 (fun c1 => ?_) (fun c1 => dec2 (fun c2 => ?_) (fun c2 => ?_)))
  · refine i_sl (SqL.of er5) fun q1 J1 hq1 u1 f1 => i_sl (SqL.of (u1 _ _ er5)) fun q2 J2 hq2 u2 f2 => ?_
    refine i_cat (u2 _ _ f1) f2 (sz_of (by have h2 := cutV_length xs (some ((j : Int) + 1)) none; omega)) fun q3 J3 hq3 u3 f3 => ?_
    rw [cutV_toV xs hj, show ((j : Int) + 1) = ((j + 1 : Nat) : Int) by omega] at f3
    have v2 := u1.trans u2
    have v3 := v2.trans u3
    have hl := cutV_len xs (j + 1) (Nat.le_succ j)
    have nq := tg_newD hh5 v2 hq3
    refine fin k05 hh5 v3 (k05.free nq (v2.free hq3)) (by simpa using nq) f3 (fun y z => ?_) (by omega)
    rcases List.mem_append.mp z with z | z
    · exact (hx5 y (List.mem_of_mem_take z)).same v3
    · exact (hx5 y (cutV_memV z)).same v3
  · refine i_sl (SqL.of er5) fun q1 J1 hq1 u1 f1 => i_newL (by show 1 ≤ sizeLine; decide) fun q2 J2 hq2 u2 f2 => ?_
    rw [cutV_toV xs hj] at f1
    refine i_cat (u2 _ _ f1) f2 (sz_of (by simp; omega)) fun q3 J3 hq3 u3 f3 => ?_
    have v3 := u1.trans (u2.trans u3)
    refine i_sl (SqL.of (v3 _ _ er5)) fun q4 J4 hq4 u4 f4 => ?_
    rw [cutV_fromV xs hj] at f4
    refine i_cat (u4 _ _ f3) f4 (sz_of (by simp; omega)) fun q5 J5 hq5 u5 f5 => ?_
    have v4 := v3.trans u4
    have v5 := v4.trans u5
    have hl : (xs.take j ++ [u] ++ xs.drop j).length ≤ xs.length + 1 := by simp; omega
    have nq := tg_newD hh5 v4 hq5
    refine fin k05 hh5 v5 (k05.free nq (v4.free hq5)) (by simpa using nq) f5 (fun y z => ?_) hl
    rcases List.mem_append.mp z with z | z
    · rcases List.mem_append.mp z with z | z
      · exact (hx5 y (List.mem_of_mem_take z)).same v5
      · rw [List.mem_singleton.mp z]; exact tu5.same v5
    · exact (hx5 y (List.mem_of_mem_drop z)).same v5
  · refine i_sl (SqL.of er5) fun q1 J1 hq1 u1 f1 => i_sl (SqL.of (u1 _ _ er5)) fun q2 J2 hq2 u2 f2 => ⟨rfl, i_rev (SqL.of f2) fun q3 J3 hq3 u3 f3 => ?_⟩
    have l2 := cutV_length xs (some (j : Int)) (some ((j : Int) + 2))
    refine i_cat (u3 _ _ (u2 _ _ f1)) f3 (sz_of (by rw [List.length_reverse]; omega)) fun q4 J4 hq4 u4 f4 => ?_
    have v4 := u1.trans (u2.trans (u3.trans u4))
    have l5 := cutV_length xs (some ((j : Int) + 2)) none
    refine i_sl (SqL.of (v4 _ _ er5)) fun q5 J5 hq5 u5 f5 => i_cat (u5 _ _ f4) f5 (sz_of (by rw [List.length_append, List.length_reverse]; omega)) fun q6 J6 hq6 u6 f6 => ?_
    have v5 := v4.trans u5
    have v6 := v5.trans u6
    have hl : (cutV xs none (some (j : Int)) ++ (cutV xs (some (j : Int)) (some ((j : Int) + 2))).reverse ++ cutV xs (some ((j : Int) + 2)) none).length ≤ xs.length + 1 := by
      rw [List.length_append, List.length_append, List.length_reverse, cutV_toV xs hj, List.length_take]
      unfold cutV
      rw [show ((j : Int) + 2) = ((j + 2 : Nat) : Int) by omega]
      simp only [HT.sIx_nat, HT.sIx_none, List.length_take, List.length_drop]; omega
    have nq := tg_newD hh5 v5 hq6
    refine fin k05 hh5 v6 (k05.free nq (v5.free hq6)) (by simpa using nq) f6 (fun y z => ?_) hl
    refine (hx5 y ?_).same v6
    rcases List.mem_append.mp z with z | z
    · rcases List.mem_append.mp z with z | z
      · exact cutV_memV z
      · exact cutV_memV (List.mem_reverse.mp z)
    · exact cutV_memV z
  · have tail : ∀ {q1 : Addr} {J2 : Hp} {w : V}, q1 ≠ d → H5 q1 = none → Kp [d] H5 J2 → DrawsAt J2 d → J2 q1 = some (.lst (cutV xs none (some (j : Int)))) → Eb d 2 (3 * (W + 5)) (b + 10 ^ 21) J2 w → ∀ k : Nat, k ≤ 1 →
        hNewL [w] J2 fun v1 X1 => vAdd (.ref q1) v1 X1 fun v2 X2 => vSl K (.ref r) (some ((j : Int) + 1)) none X2 fun v3 X3 => vAdd v2 v3 X3 Q := by
      intro q1 J2 w nq1 hq1 k5J hhJ f1 ew k hk
      refine i_newL (by show 1 ≤ sizeLine; decide) fun q2 J3 hq2 u3 f3 => ?_
      refine i_cat (u3 _ _ f1) f3 (sz_of (by simp; omega)) fun q3 J4 hq3 u4 f4 => ?_
      have v4 := u3.trans u4
      refine i_sl (SqL.of (v4 _ _ (k5J.one nr er5))) fun q4 J6 hq4 u6 f6 => ?_
      rw [show ((j : Int) + 1) = ((j + 1 : Nat) : Int) by omega] at f6
      have l6 := cutV_length xs (some ((j + 1 : Nat) : Int)) none
      refine i_cat (u6 _ _ f4) f6 (sz_of (by rw [List.length_append, List.length_singleton]; omega)) fun q5 J7 hq5 u7 f7 => ?_
      have v6 := v4.trans u6
      have v7 := v6.trans u7
      rw [cutV_toV xs hj] at f7
      have hl := cutV_len xs (j + 1) (Nat.le_succ j)
      have nq5 := tg_newD hhJ v6 hq5
      have k0 : Kp [d] H J2 := k05.trans k5J
      refine fin k0 hhJ v7 (k0.free nq5 (v6.free hq5)) (by simpa using nq5) f7 (fun y z => ?_) (by simp at hl ⊢; omega)
      rcases List.mem_append.mp z with z | z
      · rcases List.mem_append.mp z with z | z
        · exact ((hx5 y (List.mem_of_mem_take z)).kp k5J).same v7
        · rw [List.mem_singleton.mp z]; exact ew.same v7
      · exact ((hx5 y (cutV_memV z)).kp k5J).same v7
    -- the ways
    refine dec2 (fun c3 => (tg_an tu5.1).isTup ?_) (fun c3 => bF ?_)
    · cases ht : tpOf H5 u with
      | none =>
        refine bF (bF (dNo (by omega) (bF ?_)))
        refine i_sl (SqL.of er5) fun q1 J1 hq1 u1 f1 => ⟨d, rfl, hh5.same u1, fun w J2 hhJ kJ tw => ?_⟩
        have nq1 : q1 ≠ d := by have := tg_newD hh5 (Same.refl H5) hq1; simpa using this
        refine i_newL (by show 1 ≤ sizeLine; decide) fun q2 J3 hq2 u3 f3 => ?_
        have k5J : Kp [d] H5 J2 := u1.kp.trans kJ
        refine i_cat (u3 _ _ (kJ.one nq1 f1)) f3 (sz_of (by simp; omega)) fun q3 J4 hq3 u4 f4 => ?_
        have v4 := u3.trans u4
        refine ⟨d, _, rfl, hhJ.same v4, by decide, fun g5 J5 g50 g51 hh6 kK => ?_⟩
        have nq3 : q3 ≠ d := by have := tg_newD hhJ u3 hq3; simpa using this
        have k55 : Kp [d] H5 J5 := (k5J.same v4).trans kK
        obtain ⟨gm, rfl⟩ : ∃ gm : Nat, g5 = (gm : Int) := ⟨g5.toNat, by omega⟩
        refine i_sl (SqL.of (k55.one nr er5)) fun q4 J6 hq4 u6 f6 => ?_
        rw [show ((j : Int) + (gm : Int)) = ((j + gm : Nat) : Int) by omega] at f6
        have l6 := cutV_length xs (some ((j + gm : Nat) : Int)) none
        refine i_cat (u6 _ _ (kK.one nq3 f4)) f6 (sz_of (by rw [List.length_append, List.length_singleton]; omega)) fun q5 J7 hq5 u7 f7 => ?_
        have v7 := u6.trans u7
        rw [cutV_toV xs hj] at f7
        have hl := cutV_len xs (j + gm) (Nat.le_add_right j gm)
        have nq5 := tg_newD hh6 u6 hq5
        have k0 : Kp [d] H J5 := k05.trans k55
        have ew : Eb d 2 (3 * (W + 5)) (b + 10 ^ 21) J2 w := tw.le (by decide) (by omega) (Nat.le_add_left _ _)
        refine fin k0 hh6 v7 (k0.free nq5 (u6.free hq5)) (by simpa using nq5) f7 (fun y z => ?_) (by simp at hl ⊢; omega)
        rcases List.mem_append.mp z with z | z
        · rcases List.mem_append.mp z with z | z
          · exact ((hx5 y (List.mem_of_mem_take z)).kp k55).same v7
          · rw [List.mem_singleton.mp z]; exact ((ew.same v4).kp kK).same v7
        · exact ((hx5 y (cutV_memV z)).kp k55).same v7
      | some us =>
        obtain ⟨c, rfl, ec⟩ := tpOf_some ht
        refine bT (i_lenT ec (dec2 (fun c4 => ?_) (fun c4 => ?_)))
        · obtain ⟨p, qq, rfl⟩ : ∃ b e, us = [b, e] := by
            match us, c4 with
            | [b, e], _ => exact ⟨b, e, rfl⟩
            | [], c => exact absurd c (by decide)
            | [_], c => exact absurd c (by simp)
            | _ :: _ :: _ :: _, c => exact absurd c (by simp; omega)
          have tp5 : tpOf H5 (.ref c) = some [p, qq] := ht
          have ebu := (tu0.kp k5)
          obtain ⟨ncS, hit⟩ := tg_itemsT ebu.1 ec
          have nc : c ≠ d := by simpa using ncS
          have tp := hit p (by simp)
          have tq := hit qq (by simp)
          have ip : ∀ i, p = .int i → i.natAbs < b + 1000 := fun i e => ebu.2.2 _ tp5 i (by rw [← e]; simp)
          have iq : ∀ i, qq = .int i → i.natAbs < b + 1000 := fun i e => ebu.2.2 _ tp5 i (by rw [← e]; simp)
          refine ⟨d, rfl, hh5, fun o J1 hhJ1 kJ1 eo => ⟨d, _, rfl, hhJ1, by decide, fun g4 J2 g40 g41 hhJ2 kJ2 => ⟨by omega, i_newL (by show 2 ≤ sizeLine; decide) fun q1 J3 hq1 u3 f3 => ⟨d, _, rfl, hhJ2.same u3, by decide, fun g5 J4 g50 g51 hhJ4 kJ4 => ?_⟩⟩⟩⟩
          have nq1 : q1 ≠ d := by have := tg_newD hhJ2 (Same.refl J2) hq1; simpa using this
          have f3' := kJ4.one nq1 f3
          have k54 : Kp [d] H5 J4 := ((kJ1.trans kJ2).same u3).trans kJ4
          have hg0 := Int.emod_nonneg g4 (show sz + 2 ≠ 0 by omega)
          have hg1 := Int.emod_lt_of_pos g4 (show 0 < sz + 2 by omega)
          have eo4 : Eb d 1 4 (b + 10 ^ 21) J4 o := (((eo.kp kJ2).same u3).kp kJ4).le (Nat.le_refl _) (Nat.le_refl _) (Nat.le_add_left _ _)
          obtain ⟨nw, hnw, en⟩ : ∃ nw, ([o, V.int (g4 % (sz + 2))])[g5.toNat]? = some nw ∧ Eb d 1 4 (b + 10 ^ 21) J4 nw := by
            have : g5 = 0 ∨ g5 = 1 := by omega
            rcases this with rfl | rfl
            · exact ⟨o, rfl, eo4⟩
            · exact ⟨_, rfl, eb_int (by omega) hc⟩
          refine i_ixN g5.toNat f3' (by omega) hnw ?_
          refine ⟨fun σ H' => DrawsAt H' d ∧ Kp [d] H5 H' ∧ ∃ nw, Eb d 1 4 (b + 10 ^ 21) H' nw ∧ σ = [some (.ref d), some (.ref r), some (.int sz), some (.int j), some (.ref c), some (.int way), some nw], ?_, ?_⟩
          · have ec4 := k54.one nc ec
            have nx : DrawsAt J4 d ∧ Kp [d] H5 J4 ∧ ∃ nw', Eb d 1 4 (b + 10 ^ 21) J4 nw' ∧ [some (V.ref d), some (.ref r), some (.int sz), some (.int j), some (.ref c), some (.int way), some nw] = [some (.ref d), some (.ref r), some (.int sz), some (.int j), some (.ref c), some (.int way), some nw'] := ⟨hhJ4, k54, nw, en, rfl⟩
            refine i_ixT 0 ec4 rfl rfl ?_
            refine (tg_an (tp.kp k54)).isInt ?_
            cases hib : (isI p || isB p) with
            | false => exact bF (bF nx)
            | true =>
            refine bT (i_ixT 1 ec4 rfl rfl ?_)
            refine (tg_an (tq.kp k54)).isInt ?_
            cases hiq : (isI qq || isB qq) with
            | false => exact bF (bF nx)
            | true =>
            refine bT ⟨d, _, rfl, hhJ4, by decide, fun g6 J5 g60 g61 hhJ5 kJ5 => ?_⟩
            have k55 := k54.trans kJ5
            refine dec2 (fun c6 => ?_) (fun c6 => ⟨hhJ5, k55, nw, en.kp kJ5, rfl⟩)
            have ec5 := k55.one nc ec
            have hm0 := Int.emod_nonneg way (show (2 : Int) ≠ 0 by decide)
            have hm1 := Int.emod_lt_of_pos way (show (0 : Int) < 2 by decide)
            refine ⟨by decide, ?_⟩
            generalize way % 2 = w2 at hm0 hm1
            obtain ⟨pv, hpv, hpi, hpb⟩ : ∃ pv, ([p, qq])[w2.toNat]? = some pv ∧ (∀ i, pv = .int i → i.natAbs < b + 1000) ∧ (isI pv || isB pv) = true := by
              have : w2 = 0 ∨ w2 = 1 := by omega
              rcases this with rfl | rfl
              · exact ⟨p, rfl, ip, hib⟩
              · exact ⟨qq, rfl, iq, hiq⟩
            refine i_ixT w2.toNat ec5 (by omega) hpv (i_newL (by show 4 ≤ sizeLine; decide) fun q2 J6 hq2 u6 f6 => ⟨d, _, rfl, hhJ5.same u6, by decide, fun g7 J7 g70 g71 hhJ7 kJ7 => ?_⟩)
            have nq2 : q2 ≠ d := by have := tg_newD hhJ5 (Same.refl J5) hq2; simpa using this
            have f6' : J7 q2 = some (.lst (([1, -1, 2, -2] : List Int).map V.int)) := kJ7.one nq2 f6
            refine i_ixI f6' g70 (by simpa using g71) ?_
            have htt : (([1, -1, 2, -2] : List Int).getD g7.toNat 0).natAbs ≤ 2 := by
              have : g7 = 0 ∨ g7 = 1 ∨ g7 = 2 ∨ g7 = 3 := by omega
              rcases this with rfl | rfl | rfl | rfl <;> decide
            generalize ([1, -1, 2, -2] : List Int).getD g7.toNat 0 = tt at htt
            have k57 : Kp [d] H5 J7 := (k55.same u6).trans kJ7
            have sm : ∀ {i : Int}, i.natAbs < b + 1010 → Eb d 1 4 (b + 10 ^ 21) J7 (.int i) := fun hi => eb_int (Nat.lt_of_lt_of_le hi (Nat.add_le_add_left (by decide +kernel) _)) hc
            cases pv with
            | int i => exact ⟨hhJ7, k57, .int (i + tt), sm (by have := hpi i rfl; omega), rfl⟩
            | bl bb => exact ⟨hhJ7, k57, .int (_ + tt), sm (by cases bb <;> simp <;> omega), rfl⟩
            | _ => cases hpb
          rintro σ J ⟨hhJ, k5J, nw, en, rfl⟩
          have ecJ := k5J.one nc ec
          refine i_sl (SqL.of (k5J.one nr er5)) fun q1 J1 hq1 u1 f1 => i_ixT 1 (u1 _ _ ecJ) rfl rfl (i_newT (by show 2 ≤ sizeLine; decide) fun q2 J2 hq2 u2 f2 => i_ixT 0 ((u1.trans u2) _ _ ecJ) rfl rfl (i_newT (by show 2 ≤ sizeLine; decide) fun q3 J3 hq3 u3 f3 => i_newL (by show 2 ≤ sizeLine; decide) fun q4 J4 hq4 u4 f4 => ⟨by decide, ?_⟩))
          have hm0 := Int.emod_nonneg way (show (2 : Int) ≠ 0 by decide)
          have hm1 := Int.emod_lt_of_pos way (show (0 : Int) < 2 by decide)
          generalize way % 2 = w2 at hm0 hm1
          have v2 := u1.trans u2
          have v3 := v2.trans u3
          have v4 := v3.trans u4
          have nq1 : q1 ≠ d := by have := tg_newD hhJ (Same.refl J) hq1; simpa using this
          have k5J4 : Kp [d] H5 J4 := k5J.same v4
          have two : ∀ {a : Addr} {x y : V}, a ∉ [d] → J4 a = some (.tup [x, y]) → Tg [d] 1 (W + 4) J4 x → Tg [d] 1 (W + 4) J4 y → (∀ i, x = .int i → i.natAbs < b + 10 ^ 21) → (∀ i, y = .int i → i.natAbs < b + 10 ^ 21) → Eb d 2 (3 * (W + 5)) (b + 10 ^ 21) J4 (.ref a) := fun na e tx ty ix iy =>
            (eb_tup na e (fun z hz => by simp at hz; rcases hz with rfl | rfl <;> assumption) (fun i hi => by simp at hi; rcases hi with h | h; exact ix i h.symm; exact iy i h.symm)).le (Nat.le_refl _) (by simp; omega) (Nat.le_refl _)
          have tn : Tg [d] 1 (W + 4) J4 nw := (en.1.same v4).le (Nat.le_refl _) (by omega)
          have tp' : Tg [d] 1 (W + 4) J4 p := (tp.kp k5J4).le (Nat.le_refl _) (by omega)
          have tq' : Tg [d] 1 (W + 4) J4 qq := (tq.kp k5J4).le (Nat.le_refl _) (by omega)
          have up : ∀ {x : V}, (∀ i, x = .int i → i.natAbs < b + 1000) → ∀ i, x = .int i → i.natAbs < b + 10 ^ 21 := fun h i e => Nat.lt_of_lt_of_le (h i e) h1000
          obtain ⟨w, hw, ew⟩ : ∃ w, ([V.ref q2, .ref q3])[w2.toNat]? = some w ∧ Eb d 2 (3 * (W + 5)) (b + 10 ^ 21) J4 w := by
            have : w2 = 0 ∨ w2 = 1 := by omega
            rcases this with rfl | rfl
            · exact ⟨_, rfl, two (tg_newD hhJ u1 hq2) ((u3.trans u4) _ _ f2) tn tq' (en.2.1) (up iq)⟩
            · exact ⟨_, rfl, two (tg_newD hhJ v2 hq3) (u4 _ _ f3) tp' tn (up ip) (en.2.1)⟩
          refine i_ixN w2.toNat f4 (by omega) hw ?_
          exact tail nq1 (k5J.free (by simpa using nq1) hq1) k5J4 (hhJ.same v4) ((u2.trans (u3.trans u4)) _ _ f1) ew 1 (by decide)
        · refine dNo (by omega) (bF ?_)
          refine i_sl (SqL.of er5) fun q1 J1 hq1 u1 f1 => ⟨d, rfl, hh5.same u1, fun w J2 hhJ kJ tw => ?_⟩
          have nq1 : q1 ≠ d := by have := tg_newD hh5 (Same.refl H5) hq1; simpa using this
          refine i_newL (by show 1 ≤ sizeLine; decide) fun q2 J3 hq2 u3 f3 => ?_
          have k5J : Kp [d] H5 J2 := u1.kp.trans kJ
          refine i_cat (u3 _ _ (kJ.one nq1 f1)) f3 (sz_of (by simp; omega)) fun q3 J4 hq3 u4 f4 => ?_
          have v4 := u3.trans u4
          refine ⟨d, _, rfl, hhJ.same v4, by decide, fun g5 J5 g50 g51 hh6 kK => ?_⟩
          have nq3 : q3 ≠ d := by have := tg_newD hhJ u3 hq3; simpa using this
          have k55 : Kp [d] H5 J5 := (k5J.same v4).trans kK
          obtain ⟨gm, rfl⟩ : ∃ gm : Nat, g5 = (gm : Int) := ⟨g5.toNat, by omega⟩
          refine i_sl (SqL.of (k55.one nr er5)) fun q4 J6 hq4 u6 f6 => ?_
          rw [show ((j : Int) + (gm : Int)) = ((j + gm : Nat) : Int) by omega] at f6
          have l6 := cutV_length xs (some ((j + gm : Nat) : Int)) none
          refine i_cat (u6 _ _ (kK.one nq3 f4)) f6 (sz_of (by rw [List.length_append, List.length_singleton]; omega)) fun q5 J7 hq5 u7 f7 => ?_
          have v7 := u6.trans u7
          rw [cutV_toV xs hj] at f7
          have hl := cutV_len xs (j + gm) (Nat.le_add_right j gm)
          have nq5 := tg_newD hh6 u6 hq5
          have k0 : Kp [d] H J5 := k05.trans k55
          have ew : Eb d 2 (3 * (W + 5)) (b + 10 ^ 21) J2 w := tw.le (by decide) (by omega) (Nat.le_add_left _ _)
          refine fin k0 hh6 v7 (k0.free nq5 (u6.free hq5)) (by simpa using nq5) f7 (fun y z => ?_) (by simp at hl ⊢; omega)
          rcases List.mem_append.mp z with z | z
          · rcases List.mem_append.mp z with z | z
            · exact ((hx5 y (List.mem_of_mem_take z)).kp k55).same v7
            · rw [List.mem_singleton.mp z]; exact ((ew.same v4).kp kK).same v7
          · exact ((hx5 y (cutV_memV z)).kp k55).same v7
    · refine dec2 (fun c4 => (tg_an tu5.1).isTup ?_) (fun c4 => bF ?_)
      · cases ht : tpOf H5 u with
        | none =>
          refine bF ?_
          refine i_sl (SqL.of er5) fun q1 J1 hq1 u1 f1 => ⟨d, rfl, hh5.same u1, fun w J2 hhJ kJ tw => ?_⟩
          have nq1 : q1 ≠ d := by have := tg_newD hh5 (Same.refl H5) hq1; simpa using this
          refine i_newL (by show 1 ≤ sizeLine; decide) fun q2 J3 hq2 u3 f3 => ?_
          have k5J : Kp [d] H5 J2 := u1.kp.trans kJ
          refine i_cat (u3 _ _ (kJ.one nq1 f1)) f3 (sz_of (by simp; omega)) fun q3 J4 hq3 u4 f4 => ?_
          have v4 := u3.trans u4
          refine ⟨d, _, rfl, hhJ.same v4, by decide, fun g5 J5 g50 g51 hh6 kK => ?_⟩
          have nq3 : q3 ≠ d := by have := tg_newD hhJ u3 hq3; simpa using this
          have k55 : Kp [d] H5 J5 := (k5J.same v4).trans kK
          obtain ⟨gm, rfl⟩ : ∃ gm : Nat, g5 = (gm : Int) := ⟨g5.toNat, by omega⟩
          refine i_sl (SqL.of (k55.one nr er5)) fun q4 J6 hq4 u6 f6 => ?_
          rw [show ((j : Int) + (gm : Int)) = ((j + gm : Nat) : Int) by omega] at f6
          have l6 := cutV_length xs (some ((j + gm : Nat) : Int)) none
          refine i_cat (u6 _ _ (kK.one nq3 f4)) f6 (sz_of (by rw [List.length_append, List.length_singleton]; omega)) fun q5 J7 hq5 u7 f7 => ?_
          have v7 := u6.trans u7
          rw [cutV_toV xs hj] at f7
          have hl := cutV_len xs (j + gm) (Nat.le_add_right j gm)
          have nq5 := tg_newD hh6 u6 hq5
          have k0 : Kp [d] H J5 := k05.trans k55
          have ew : Eb d 2 (3 * (W + 5)) (b + 10 ^ 21) J2 w := tw.le (by decide) (by omega) (Nat.le_add_left _ _)
          refine fin k0 hh6 v7 (k0.free nq5 (u6.free hq5)) (by simpa using nq5) f7 (fun y z => ?_) (by simp at hl ⊢; omega)
          rcases List.mem_append.mp z with z | z
          · rcases List.mem_append.mp z with z | z
            · exact ((hx5 y (List.mem_of_mem_take z)).kp k55).same v7
            · rw [List.mem_singleton.mp z]; exact ((ew.same v4).kp kK).same v7
          · exact ((hx5 y (cutV_memV z)).kp k55).same v7
        | some us =>
          obtain ⟨c, rfl, ec⟩ := tpOf_some ht
          refine bT ?_
          have ebu := (tu0.kp k5)
          obtain ⟨ncS, hit⟩ := tg_itemsT ebu.1 ec
          have nc : c ≠ d := by simpa using ncS
          obtain ⟨ds, hds, hf3⟩ := tg_data ebu.1 ec
          have hul : us.length ≤ W := by rw [paired_len hds]; exact hf3.len
          have hui : ∀ i, .int i ∈ us → i.natAbs < b + 1000 := ebu.2.2 us ht
          refine i_sl (SqL.of er5) fun q1 J1 hq1 u1 f1 => i_copyT (u1 _ _ ec) fun q2 J2 hq2 u2 f2 => i_newT (by show 1 ≤ sizeLine; decide) fun q3 J3 hq3 u3 f3 => ?_
          have nq1 : q1 ≠ d := by have := tg_newD hh5 (Same.refl H5) hq1; simpa using this
          have v2 := u1.trans u2
          have v3 := v2.trans u3
          have u23 := u2.trans u3
          have ec3 := v3 _ _ ec
          have eq2 : Eb d 2 (3 * (W + 5)) (b + 10 ^ 21) J3 (.ref q2) := (eb_ofL (b := b) hds hf3 v3.kp (tg_newD hh5 u1 hq2) (u3 _ _ f2)).le (Nat.le_refl _) (by omega) (Nat.le_add_right _ _)
          refine i_catT ec3 f3 (by simp) (sz_of (by simp; omega)) (fun hnil => ?_) fun q7 J4 hq7 u4 f4 => ?_
          · have w4 := Same.refl J3
            have eb2 : Eb d 2 (3 * (W + 5)) (b + 10 ^ 21) J3 (.ref q3) := (eb_tup (n := 0) (W := 0) (b := 1000) (tg_newD hh5 v2 hq3) f3 (fun y hy => by rw [List.mem_singleton.mp hy]; exact tg_int (by decide)) (fun i hi => by simp at hi; subst hi; decide)).le (by decide) (by simp; omega) (by omega)
            refine i_slT (w4 _ _ ec3) ?_ fun q4 J5 hq4 u5 f5 => ?_
            · have v5 := v3.trans w4
              have w5 := w4
              have eb3 : Eb d 2 (3 * (W + 5)) (b + 10 ^ 21) J3 (.ref c) := tu5.same v5
              refine i_newT (by show 0 ≤ sizeLine; decide) fun q5 J6 hq5 u6 f6 => i_newL (by show 4 ≤ sizeLine; decide) fun q6 J7 hq6 u7 f7 => ⟨d, _, rfl, hh5.same (v5.trans (u6.trans u7)), by decide, fun g4 J8 g40 g41 hhJ8 kJ8 => ?_⟩
              have u67 := u6.trans u7
              have v6 := v5.trans u6
              have v7 := v6.trans u7
              have nq6 : q6 ≠ d := by have := tg_newD hh5 v6 hq6; simpa using this
              have k58 : Kp [d] H5 J8 := v7.kp.trans kJ8
              have e5' : Eb d 2 (3 * (W + 5)) (b + 10 ^ 21) J7 (.ref q5) := (eb_tup (n := 0) (W := 0) (tg_newD hh5 v5 hq5) (u7 _ _ f6) (fun y z => nomatch z) (fun i z => nomatch z)).le (by decide) (by simp) (Nat.le_refl _)
              have hall : ∀ x ∈ [V.ref q2, .ref q3, .ref c, .ref q5], Eb d 2 (3 * (W + 5)) (b + 10 ^ 21) J7 x := fun x hx => by
                simp only [List.mem_cons, List.not_mem_nil, or_false] at hx
                rcases hx with rfl | rfl | rfl | rfl
                · exact eq2.same (w5.trans u67)
                · exact eb2.same u67
                · exact eb3.same u67
                · exact e5'
              obtain ⟨gm, rfl⟩ : ∃ gm : Nat, g4 = (gm : Int) := ⟨g4.toNat, by omega⟩
              obtain ⟨w, hw⟩ : ∃ w, ([V.ref q2, .ref q3, .ref c, .ref q5])[gm]? = some w := ⟨_, List.getElem?_eq_getElem (by show gm < 4; omega)⟩
              refine i_ixN gm (kJ8.one nq6 f7) rfl hw ?_
              exact tail nq1 hq1 k58 hhJ8 (kJ8.one nq1 ((u23.trans (w5.trans u67)) _ _ f1)) ((hall w (List.mem_of_getElem? hw)).kp kJ8) 1 (by decide)
            · have v5 := (v3.trans w4).trans u5
              have w5 := w4.trans u5
              replace eb2 := eb2.same u5
              rw [show cutV us none (some (1 : Int)) = us.take 1 by unfold cutV; rw [HT.sIx_none, show (some (1 : Int)) = some ((1 : Nat) : Int) from rfl, HT.sIx_nat, List.drop_zero, Nat.sub_zero]; cases us <;> simp] at f5
              have eb3 : Eb d 2 (3 * (W + 5)) (b + 10 ^ 21) J5 (.ref q4) := (eb_of (paired_take1 hds) hf3.take1 v5.kp (tg_newD hh5 (v3.trans w4) hq4) f5 (fun i hi => hui i (List.mem_of_mem_take hi))).le (Nat.le_refl _) (by omega) h1000
              refine i_newT (by show 0 ≤ sizeLine; decide) fun q5 J6 hq5 u6 f6 => i_newL (by show 4 ≤ sizeLine; decide) fun q6 J7 hq6 u7 f7 => ⟨d, _, rfl, hh5.same (v5.trans (u6.trans u7)), by decide, fun g4 J8 g40 g41 hhJ8 kJ8 => ?_⟩
              have u67 := u6.trans u7
              have v6 := v5.trans u6
              have v7 := v6.trans u7
              have nq6 : q6 ≠ d := by have := tg_newD hh5 v6 hq6; simpa using this
              have k58 : Kp [d] H5 J8 := v7.kp.trans kJ8
              have e5' : Eb d 2 (3 * (W + 5)) (b + 10 ^ 21) J7 (.ref q5) := (eb_tup (n := 0) (W := 0) (tg_newD hh5 v5 hq5) (u7 _ _ f6) (fun y z => nomatch z) (fun i z => nomatch z)).le (by decide) (by simp) (Nat.le_refl _)
              have hall : ∀ x ∈ [V.ref q2, .ref q3, .ref q4, .ref q5], Eb d 2 (3 * (W + 5)) (b + 10 ^ 21) J7 x := fun x hx => by
                simp only [List.mem_cons, List.not_mem_nil, or_false] at hx
                rcases hx with rfl | rfl | rfl | rfl
                · exact eq2.same (w5.trans u67)
                · exact eb2.same u67
                · exact eb3.same u67
                · exact e5'
              obtain ⟨gm, rfl⟩ : ∃ gm : Nat, g4 = (gm : Int) := ⟨g4.toNat, by omega⟩
              obtain ⟨w, hw⟩ : ∃ w, ([V.ref q2, .ref q3, .ref q4, .ref q5])[gm]? = some w := ⟨_, List.getElem?_eq_getElem (by show gm < 4; omega)⟩
              refine i_ixN gm (kJ8.one nq6 f7) rfl hw ?_
              exact tail nq1 hq1 k58 hhJ8 (kJ8.one nq1 ((u23.trans (w5.trans u67)) _ _ f1)) ((hall w (List.mem_of_getElem? hw)).kp kJ8) 1 (by decide)
          · have w4 := u4
            have eb2 : Eb d 2 (3 * (W + 5)) (b + 10 ^ 21) J4 (.ref q7) := (eb_of (b := b + 1000) (B := W + 1) (ds := ds ++ [.int 0]) (hds.snoc (show RD [d] 1 H5 (.int 0) (.int 0) from rfl)) hf3.snoc (v3.trans u4).kp (tg_newD hh5 v3 hq7) f4 (fun i hi => by
              rcases List.mem_append.mp hi with z | z
              · exact hui i z
              · simp at z; subst z; simp)).le (Nat.le_refl _) (by omega) h1000
            refine i_slT (w4 _ _ ec3) ?_ fun q4 J5 hq4 u5 f5 => ?_
            · have v5 := v3.trans w4
              have w5 := w4
              have eb3 : Eb d 2 (3 * (W + 5)) (b + 10 ^ 21) J4 (.ref c) := tu5.same v5
              refine i_newT (by show 0 ≤ sizeLine; decide) fun q5 J6 hq5 u6 f6 => i_newL (by show 4 ≤ sizeLine; decide) fun q6 J7 hq6 u7 f7 => ⟨d, _, rfl, hh5.same (v5.trans (u6.trans u7)), by decide, fun g4 J8 g40 g41 hhJ8 kJ8 => ?_⟩
              have u67 := u6.trans u7
              have v6 := v5.trans u6
              have v7 := v6.trans u7
              have nq6 : q6 ≠ d := by have := tg_newD hh5 v6 hq6; simpa using this
              have k58 : Kp [d] H5 J8 := v7.kp.trans kJ8
              have e5' : Eb d 2 (3 * (W + 5)) (b + 10 ^ 21) J7 (.ref q5) := (eb_tup (n := 0) (W := 0) (tg_newD hh5 v5 hq5) (u7 _ _ f6) (fun y z => nomatch z) (fun i z => nomatch z)).le (by decide) (by simp) (Nat.le_refl _)
              have hall : ∀ x ∈ [V.ref q2, .ref q7, .ref c, .ref q5], Eb d 2 (3 * (W + 5)) (b + 10 ^ 21) J7 x := fun x hx => by
                simp only [List.mem_cons, List.not_mem_nil, or_false] at hx
                rcases hx with rfl | rfl | rfl | rfl
                · exact eq2.same (w5.trans u67)
                · exact eb2.same u67
                · exact eb3.same u67
                · exact e5'
              obtain ⟨gm, rfl⟩ : ∃ gm : Nat, g4 = (gm : Int) := ⟨g4.toNat, by omega⟩
              obtain ⟨w, hw⟩ : ∃ w, ([V.ref q2, .ref q7, .ref c, .ref q5])[gm]? = some w := ⟨_, List.getElem?_eq_getElem (by show gm < 4; omega)⟩
              refine i_ixN gm (kJ8.one nq6 f7) rfl hw ?_
              exact tail nq1 hq1 k58 hhJ8 (kJ8.one nq1 ((u23.trans (w5.trans u67)) _ _ f1)) ((hall w (List.mem_of_getElem? hw)).kp kJ8) 1 (by decide)
            · have v5 := (v3.trans w4).trans u5
              have w5 := w4.trans u5
              replace eb2 := eb2.same u5
              rw [show cutV us none (some (1 : Int)) = us.take 1 by unfold cutV; rw [HT.sIx_none, show (some (1 : Int)) = some ((1 : Nat) : Int) from rfl, HT.sIx_nat, List.drop_zero, Nat.sub_zero]; cases us <;> simp] at f5
              have eb3 : Eb d 2 (3 * (W + 5)) (b + 10 ^ 21) J5 (.ref q4) := (eb_of (paired_take1 hds) hf3.take1 v5.kp (tg_newD hh5 (v3.trans w4) hq4) f5 (fun i hi => hui i (List.mem_of_mem_take hi))).le (Nat.le_refl _) (by omega) h1000
              refine i_newT (by show 0 ≤ sizeLine; decide) fun q5 J6 hq5 u6 f6 => i_newL (by show 4 ≤ sizeLine; decide) fun q6 J7 hq6 u7 f7 => ⟨d, _, rfl, hh5.same (v5.trans (u6.trans u7)), by decide, fun g4 J8 g40 g41 hhJ8 kJ8 => ?_⟩
              have u67 := u6.trans u7
              have v6 := v5.trans u6
              have v7 := v6.trans u7
              have nq6 : q6 ≠ d := by have := tg_newD hh5 v6 hq6; simpa using this
              have k58 : Kp [d] H5 J8 := v7.kp.trans kJ8
              have e5' : Eb d 2 (3 * (W + 5)) (b + 10 ^ 21) J7 (.ref q5) := (eb_tup (n := 0) (W := 0) (tg_newD hh5 v5 hq5) (u7 _ _ f6) (fun y z => nomatch z) (fun i z => nomatch z)).le (by decide) (by simp) (Nat.le_refl _)
              have hall : ∀ x ∈ [V.ref q2, .ref q7, .ref q4, .ref q5], Eb d 2 (3 * (W + 5)) (b + 10 ^ 21) J7 x := fun x hx => by
                simp only [List.mem_cons, List.not_mem_nil, or_false] at hx
                rcases hx with rfl | rfl | rfl | rfl
                · exact eq2.same (w5.trans u67)
                · exact eb2.same u67
                · exact eb3.same u67
                · exact e5'
              obtain ⟨gm, rfl⟩ : ∃ gm : Nat, g4 = (gm : Int) := ⟨g4.toNat, by omega⟩
              obtain ⟨w, hw⟩ : ∃ w, ([V.ref q2, .ref q7, .ref q4, .ref q5])[gm]? = some w := ⟨_, List.getElem?_eq_getElem (by show gm < 4; omega)⟩
              refine i_ixN gm (kJ8.one nq6 f7) rfl hw ?_
              exact tail nq1 hq1 k58 hhJ8 (kJ8.one nq1 ((u23.trans (w5.trans u67)) _ _ f1)) ((hall w (List.mem_of_getElem? hw)).kp kJ8) 1 (by decide)
      · refine i_sl (SqL.of er5) fun q1 J1 hq1 u1 f1 => ⟨d, rfl, hh5.same u1, fun w J2 hhJ kJ tw => ?_⟩
        have nq1 : q1 ≠ d := by have := tg_newD hh5 (Same.refl H5) hq1; simpa using this
        refine i_newL (by show 1 ≤ sizeLine; decide) fun q2 J3 hq2 u3 f3 => ?_
        have k5J : Kp [d] H5 J2 := u1.kp.trans kJ
        refine i_cat (u3 _ _ (kJ.one nq1 f1)) f3 (sz_of (by simp; omega)) fun q3 J4 hq3 u4 f4 => ?_
        have v4 := u3.trans u4
        refine ⟨d, _, rfl, hhJ.same v4, by decide, fun g5 J5 g50 g51 hh6 kK => ?_⟩
        have nq3 : q3 ≠ d := by have := tg_newD hhJ u3 hq3; simpa using this
        have k55 : Kp [d] H5 J5 := (k5J.same v4).trans kK
        obtain ⟨gm, rfl⟩ : ∃ gm : Nat, g5 = (gm : Int) := ⟨g5.toNat, by omega⟩
        refine i_sl (SqL.of (k55.one nr er5)) fun q4 J6 hq4 u6 f6 => ?_
        rw [show ((j : Int) + (gm : Int)) = ((j + gm : Nat) : Int) by omega] at f6
        have l6 := cutV_length xs (some ((j + gm : Nat) : Int)) none
        refine i_cat (u6 _ _ (kK.one nq3 f4)) f6 (sz_of (by rw [List.length_append, List.length_singleton]; omega)) fun q5 J7 hq5 u7 f7 => ?_
        have v7 := u6.trans u7
        rw [cutV_toV xs hj] at f7
        have hl := cutV_len xs (j + gm) (Nat.le_add_right j gm)
        have nq5 := tg_newD hh6 u6 hq5
        have k0 : Kp [d] H J5 := k05.trans k55
        have ew : Eb d 2 (3 * (W + 5)) (b + 10 ^ 21) J2 w := tw.le (by decide) (by omega) (Nat.le_add_left _ _)
        refine fin k0 hh6 v7 (k0.free nq5 (u6.free hq5)) (by simpa using nq5) f7 (fun y z => ?_) (by simp at hl ⊢; omega)
        rcases List.mem_append.mp z with z | z
        · rcases List.mem_append.mp z with z | z
          · exact ((hx5 y (List.mem_of_mem_take z)).kp k55).same v7
          · rw [List.mem_singleton.mp z]; exact ((ew.same v4).kp kK).same v7
        · exact ((hx5 y (cutV_memV z)).kp k55).same v7

end
end K

set_option linter.all false
set_option Elab.async false
set_option maxRecDepth 100000
set_option maxHeartbeats 4000000
namespace K
open PySem L2
section
variable {C : Addr} {P : Program} {w : World} {K : PySem.W.Frag} {mg : Str → Option Value} {base : Heap} {f : Addr} {fd : FuncData}

abbrev s_law_stretches : Stmt := top 21
theorem sc_law_stretches : FnScope ["row", "bound", "found", "begin", "total", "place", "number"] ["row", "bound"] (defScope s_law_stretches) := ⟨rfl, rfl, rfl, by decide +kernel, rfl, by decide +kernel, by decide +kernel⟩
theorem l_law_stretches_begin : Loc (defScope s_law_stretches) "begin" := Or.inl (by kernel_rfl)
theorem l_law_stretches_found : Loc (defScope s_law_stretches) "found" := Or.inl (by kernel_rfl)
theorem l_law_stretches_number : Loc (defScope s_law_stretches) "number" := Or.inl (by kernel_rfl)
theorem l_law_stretches_place : Loc (defScope s_law_stretches) "place" := Or.inl (by kernel_rfl)
theorem l_law_stretches_total : Loc (defScope s_law_stretches) "total" := Or.inl (by kernel_rfl)
theorem v_law_stretches_begin : Vis (defScope s_law_stretches) "begin" := Or.inl (by kernel_rfl)
theorem v_law_stretches_bound : Vis (defScope s_law_stretches) "bound" := Or.inl (by kernel_rfl)
theorem v_law_stretches_found : Vis (defScope s_law_stretches) "found" := Or.inl (by kernel_rfl)
theorem v_law_stretches_number : Vis (defScope s_law_stretches) "number" := Or.inl (by kernel_rfl)
theorem v_law_stretches_place : Vis (defScope s_law_stretches) "place" := Or.inl (by kernel_rfl)
theorem v_law_stretches_row : Vis (defScope s_law_stretches) "row" := Or.inl (by kernel_rfl)
theorem v_law_stretches_total : Vis (defScope s_law_stretches) "total" := Or.inl (by kernel_rfl)
theorem g_law_stretches_enumerate : (defScope s_law_stretches).names.lookup ("enumerate" : Str) = some NameKind.globalImplicit := by kernel_rfl
def t_law_stretches {cdv : Value} {A : Around} {outer : List Env} {s : Shared} {H : Hp} {E : XK} (B : Bl mg) (hr : Room 0 (A.deeper (PyProof.Rows.envOfC "_law_stretches" (defScope s_law_stretches) s.heap.objs.size f cdv))) :
    { t : TS // QB (cxOf CX0 P w K mg base ["row", "bound", "found", "begin", "total", "place", "number"] "_law_stretches" (defScope s_law_stretches) f cdv A outer s H E).nox (defBody s_law_stretches) t } :=
  ⟨_, (qb_cons (qs_set (i := 2) sc_law_stretches.nd rfl l_law_stretches_found (.inl rfl) (qe_lst qa_nil))
    (qb_cons (qs_set (i := 3) sc_law_stretches.nd rfl l_law_stretches_begin (.inl rfl) qe_int)
    (qb_cons (qs_set (i := 4) sc_law_stretches.nd rfl l_law_stretches_total (.inl rfl) qe_int)
    (qb_mid (qs_for PassesOwn.never rfl (ki_enum (K := K) rfl g_law_stretches_enumerate B.enumerate (qa_cons (qv 0 rfl v_law_stretches_row) qa_nil)) (kg_tup (K := K) rfl rfl (qgs_cons (qg_name (i := 5) sc_law_stretches.nd rfl l_law_stretches_place (.inl rfl)) (qgs_cons (qg_name (i := 6) sc_law_stretches.nd rfl l_law_stretches_number (.inl rfl)) qgs_nil))) (qb_cons (qs_set (i := 4) sc_law_stretches.nd rfl l_law_stretches_total (.inl rfl) (qe_op opAdd (qv 4 rfl v_law_stretches_total) (qv 6 rfl v_law_stretches_number)))
    (qb_one (qs_if (QW.pt (qw_and (qt_cmp opGe (qv 4 rfl v_law_stretches_total) (qv 1 rfl v_law_stretches_bound)) (qw_and1 (qt_cmp opGt (qv 5 rfl v_law_stretches_place) (qv 3 rfl v_law_stretches_begin))))) (qb_cons (qs_ex (ke_m1 (K := K) rfl PySem.F.plainAttrs_list PySem.F.slot_list_append PySem.F.type_list_append mtApp (qv 2 rfl v_law_stretches_found) (qe_tup (qa_cons (qv 3 rfl v_law_stretches_begin) (qa_cons (qe_op opAdd (qv 5 rfl v_law_stretches_place) qe_int) qa_nil)))))
    (qb_cons (qs_set (i := 3) sc_law_stretches.nd rfl l_law_stretches_begin (.inl rfl) (qv 5 rfl v_law_stretches_place))
    (qb_one (qs_set (i := 4) sc_law_stretches.nd rfl l_law_stretches_total (.inl rfl) (qv 6 rfl v_law_stretches_number))))) qb_nil))))
    (qb_one (qs_ret (qv 2 rfl v_law_stretches_found)))))))⟩
abbrev s_law_free : Stmt := top 24
theorem sc_law_free : FnScope ["draws", "row", "many", "found", "begin", "k", "end"] ["draws", "row", "many"] (defScope s_law_free) := ⟨rfl, rfl, rfl, by decide +kernel, rfl, by decide +kernel, by decide +kernel⟩
theorem l_law_free_begin : Loc (defScope s_law_free) "begin" := Or.inl (by kernel_rfl)
theorem l_law_free_end : Loc (defScope s_law_free) "end" := Or.inl (by kernel_rfl)
theorem l_law_free_found : Loc (defScope s_law_free) "found" := Or.inl (by kernel_rfl)
theorem l_law_free_k : Loc (defScope s_law_free) "k" := Or.inl (by kernel_rfl)
theorem v_law_free_begin : Vis (defScope s_law_free) "begin" := Or.inl (by kernel_rfl)
theorem v_law_free_draws : Vis (defScope s_law_free) "draws" := Or.inl (by kernel_rfl)
theorem v_law_free_end : Vis (defScope s_law_free) "end" := Or.inl (by kernel_rfl)
theorem v_law_free_found : Vis (defScope s_law_free) "found" := Or.inl (by kernel_rfl)
theorem v_law_free_many : Vis (defScope s_law_free) "many" := Or.inl (by kernel_rfl)
theorem v_law_free_row : Vis (defScope s_law_free) "row" := Or.inl (by kernel_rfl)
theorem g_law_free__law_take : (defScope s_law_free).names.lookup ("_law_take" : Str) = some NameKind.globalImplicit := by kernel_rfl
theorem g_law_free_int : (defScope s_law_free).names.lookup ("int" : Str) = some NameKind.globalImplicit := by kernel_rfl
theorem g_law_free_len : (defScope s_law_free).names.lookup ("len" : Str) = some NameKind.globalImplicit := by kernel_rfl
theorem g_law_free_range : (defScope s_law_free).names.lookup ("range" : Str) = some NameKind.globalImplicit := by kernel_rfl
def t_law_free {cdv : Value} {A : Around} {outer : List Env} {s : Shared} {H : Hp} {E : XK} (B : Bl mg) (D_law_take : Def P w K mg base 1 "_law_take" ["draws", "many"] sp_law_take) (hr : Room 1 (A.deeper (PyProof.Rows.envOfC "_law_free" (defScope s_law_free) s.heap.objs.size f cdv))) :
    { t : TS // QB (cxOf CX0 P w K mg base ["draws", "row", "many", "found", "begin", "k", "end"] "_law_free" (defScope s_law_free) f cdv A outer s H E).nox (defBody s_law_free) t } :=
  ⟨_, (qb_cons (qs_set (i := 3) sc_law_free.nd rfl l_law_free_found (.inl rfl) (qe_lst qa_nil))
    (qb_cons (qs_set (i := 4) sc_law_free.nd rfl l_law_free_begin (.inl rfl) qe_int)
    (qb_mid (qs_for PassesOwn.never rfl (qi_r1 g_law_free_range B.range (qa_cons (qv 2 rfl v_law_free_many) qa_nil)) (qg_name (i := 5) sc_law_free.nd rfl l_law_free_k (.inl rfl)) (qb_cons (qs_set (i := 4) sc_law_free.nd rfl l_law_free_begin (.inl rfl) (qe_op opAdd (qv 4 rfl v_law_free_begin) (ke_ix (K := K) rfl (qe_lst (qa_cons qe_int (qa_cons qe_int (qa_cons qe_int (qa_cons (qe_def D_law_take hr (by decide) g_law_free__law_take (qa_cons (qv 0 rfl v_law_free_draws) (qa_cons qe_int qa_nil))) qa_nil))))) (qe_def D_law_take hr (by decide) g_law_free__law_take (qa_cons (qv 0 rfl v_law_free_draws) (qa_cons qe_int qa_nil))) (fun _ _ => rfl))))
    (qb_cons (qs_set (i := 6) sc_law_free.nd rfl l_law_free_end (.inl rfl) (qe_op opAdd (qe_op opAdd (qv 4 rfl v_law_free_begin) qe_int) (qe_op opMul (qe_def D_law_take hr (by decide) g_law_free__law_take (qa_cons (qv 0 rfl v_law_free_draws) (qa_cons qe_int qa_nil))) (qe_cT callInt g_law_free_int B.int boot_int (qa_cons (qe_cmp opGt (qe_cB (kLen (K := K) rfl) g_law_free_len B.len boot_len' (qa_cons (qv 1 rfl v_law_free_row) qa_nil)) (qe_op opMul qe_int (qv 2 rfl v_law_free_many))) qa_nil)))))
    (qb_cons (qs_ex (ke_m1 (K := K) rfl PySem.F.plainAttrs_list PySem.F.slot_list_append PySem.F.type_list_append mtApp (qv 3 rfl v_law_free_found) (qe_tup (qa_cons (qv 4 rfl v_law_free_begin) (qa_cons (qv 6 rfl v_law_free_end) qa_nil)))))
    (qb_one (qs_set (i := 4) sc_law_free.nd rfl l_law_free_begin (.inl rfl) (qe_op opSub (qv 6 rfl v_law_free_end) qe_int)))))))
    (qb_one (qs_ret (qv 3 rfl v_law_free_found))))))⟩
/-- a new pair of small numbers -/
def Pr (H0 H : Hp) (x : V) : Prop := ∃ (a : Addr) (b e : Int), x = .ref a ∧ H0 a = none ∧ H a = some (.tup [.int b, .int e]) ∧ b.natAbs < 1000 ∧ e.natAbs < 1000
theorem Pr.same {H0 H H' : Hp} {x : V} (s : Same H H') (h : Pr H0 H x) : Pr H0 H' x := let ⟨a, b, e, h1, h2, h3, h4⟩ := h; ⟨a, b, e, h1, h2, s _ _ h3, h4⟩
theorem Pr.kp {H0 H H' : Hp} {x : V} {S : List Addr} (k : Kp S H H') (hS : ∀ a ∈ S, H0 a ≠ none) (h : Pr H0 H x) : Pr H0 H' x := let ⟨a, b, e, h1, h2, h3, h4⟩ := h; ⟨a, b, e, h1, h2, k _ _ (fun z => hS a z h2) h3, h4⟩
theorem pr_eb {d : Addr} {H0 H : Hp} {x : V} (hh : DrawsAt H0 d) (h : Pr H0 H x) : Eb d 2 20 1000 H x := by
  obtain ⟨a, b, e, rfl, h0, h1, hb, he⟩ := h
  refine (eb_tup (n := 0) (W := 0) (tg_newD hh (Same.refl H0) h0) h1 (fun y hy => ?_) (fun i hi => ?_)).le (by decide) (by simp) (Nat.le_refl _)
  · simp at hy
    rcases hy with rfl | rfl
    · exact tg_int (Nat.lt_of_lt_of_le hb (by decide +kernel))
    · exact tg_int (Nat.lt_of_lt_of_le he (by decide +kernel))
  · simp at hi
    rcases hi with rfl | rfl <;> assumption
def sp_law_stretches : Sp := fun vs H Q _ => ∃ (r : Addr) (b : Int) (ns : List Int), vs = [.ref r, .int b] ∧ H r = some (.lst (ns.map V.int)) ∧ ns.length ≤ 120 ∧ ∀ (p : Addr) (xs : List V) (H' : Hp), H p = none → Same H H' → H' p = some (.lst xs) → (∀ x ∈ xs, Pr H H' x) → xs.length ≤ ns.length → Q (.ref p) H'
theorem ok_law_stretches (B : Bl mg) (F : Fun K "_law_stretches" "_law_stretches" s_law_stretches f fd) : FnOk P w K mg base CX0 1 f fd ["row", "bound"] sp_law_stretches := by
  refine F.okq sc_law_stretches (fun vs H Q E h => ?_) (fun cdv A outer s H vs Q E hr h => ?_)
  · obtain ⟨r, b, ns, rfl, _⟩ := h; rfl
  obtain ⟨r, b, ns, rfl, hr0, hle, q⟩ := h
  refine ⟨t_law_stretches B  hr, ?_⟩
  refine i_newL (by show 0 ≤ sizeLine; decide) fun p1 H1 hp1 s1 e1 => ?_
  refine ⟨fun σ H' => Same H H' ∧ (∃ xs : List V, H' p1 = some (.lst xs) ∧ (∀ x ∈ xs, Pr H H' x) ∧ xs.length ≤ ns.length) ∧ ∃ o3 o4 o5 o6, σ = [some (.ref r), some (.int b), some (.ref p1), o3, o4, o5, o6], ?_, ?_⟩
  · refine ⟨⟨_, SqL.of (s1 _ _ hr0)⟩, for_en (ns.map V.int) (fun i σ H' => Same H H' ∧ (∃ xs : List V, H' p1 = some (.lst xs) ∧ (∀ x ∈ xs, Pr H H' x) ∧ xs.length ≤ i) ∧ ∃ (g t : Int) (o4 o5 : Option V), 0 ≤ g ∧ g ≤ i ∧ σ = [some (.ref r), some (.int b), some (.ref p1), some (.int g), some (.int t), o4, o5]) ?_ ?_ ?_ ?_⟩
    · exact ⟨s1, ⟨[], e1, by simp, by simp⟩, 0, 0, _, _, by decide, by decide, rfl⟩
    · rintro i σ H' _ ⟨s', _⟩
      exact SqL.of (s' _ _ hr0)
    · rintro i x σ H' T' H2 hx ⟨s', ⟨xs, ei, hi, hl⟩, g, t, o4, o5, g0, g1, rfl⟩ hT s2 e2
      obtain ⟨z, rfl, hz, _⟩ := vints_at hx
      have hil := (List.getElem?_eq_some_iff.mp hz).1
      have sH := s'.trans s2
      have stay : Same H H2 ∧ (∃ xs : List V, H2 p1 = some (.lst xs) ∧ (∀ x ∈ xs, Pr H H2 x) ∧ xs.length ≤ i + 1) := ⟨sH, xs, s2 _ _ ei, fun x hx => (hi x hx).same s2, by omega⟩
      refine i_unp e2 rfl (dec2 (fun c => dec2 (fun c2 => ?_) (fun c2 => ?_)) (fun c => bF ?_))
      · refine ⟨i_tyL (s2 _ _ ei), i_newT (by show 2 ≤ sizeLine; decide) fun q1 H3 hq1 s3 e3 => i_app (s3 _ _ (s2 _ _ ei)) (sz_lt (by omega)) fun H4 k4 e4 => ?_⟩
        have n1 : q1 ≠ p1 := fun z => by rw [z, s2 _ _ ei] at hq1; cases hq1
        have k3 : Kp [p1] H3 H4 := k4
        have sH4 : Same H H4 := (sH.trans s3).new k4 hp1
        have ne : ∀ a, H a = none → True := fun _ _ => trivial
        refine ⟨sH4, ⟨xs ++ [.ref q1], e4, fun x hx => ?_, by simp; omega⟩, _, _, _, _, by omega, by omega, rfl⟩
        rcases List.mem_append.mp hx with hx | hx
        · obtain ⟨a, b', e', rfl, h2, h3, h4⟩ := hi x hx
          have na : a ≠ p1 := fun z => by rw [z, ei] at h3; cases h3
          exact ⟨a, b', e', rfl, h2, k4.one na (s3 _ _ (s2 _ _ h3)), h4⟩
        · rw [List.mem_singleton.mp hx]
          exact ⟨q1, _, _, rfl, sH.free hq1, k4.one n1 e3, by omega, by omega⟩
      · exact ⟨stay.1, stay.2, _, _, _, _, g0, by omega, rfl⟩
      · exact ⟨stay.1, stay.2, _, _, _, _, g0, by omega, rfl⟩
    · rintro σ H' ⟨s', ⟨xs, ei, hi, hl⟩, g, t, o4, o5, _, _, rfl⟩
      exact ⟨s', ⟨xs, ei, hi, by rw [List.length_map] at hl; exact hl⟩, _, _, _, _, rfl⟩
  · rintro σ H' ⟨s', ⟨xs, ei, hi, hl⟩, o3, o4, o5, o6, rfl⟩
    exact q p1 xs H' hp1 s' ei hi hl
def sp_law_free : Sp := fun vs H Q _ => ∃ (d r : Addr) (m : Nat) (ns : List Int), vs = [.ref d, .ref r, .int m] ∧ DrawsAt H d ∧ H r = some (.lst (ns.map V.int)) ∧ r ≠ d ∧ m ≤ 120 ∧ ∀ (p : Addr) (xs : List V) (H' : Hp), DrawsAt H' d → Kp [d] H H' → H p = none → p ≠ d → H' p = some (.lst xs) → (∀ x ∈ xs, Pr H H' x) → xs.length ≤ 120 → Q (.ref p) H'
theorem ok_law_free (B : Bl mg) (D_law_take : Def P w K mg base 1 "_law_take" ["draws", "many"] sp_law_take) (F : Fun K "_law_free" "_law_free" s_law_free f fd) : FnOk P w K mg base CX0 2 f fd ["draws", "row", "many"] sp_law_free := by
  refine F.okq sc_law_free (fun vs H Q E h => ?_) (fun cdv A outer s H vs Q E hr h => ?_)
  · obtain ⟨d, r, m, ns, rfl, _⟩ := h; rfl
  obtain ⟨d, r, m, ns, rfl, hh, er, nr, hm, q⟩ := h
  refine ⟨t_law_free B D_law_take hr, ?_⟩
  have hd : ∀ a ∈ [d], H a ≠ none := fun a ha => by obtain ⟨_, e, _⟩ := hh; rw [List.mem_singleton.mp ha, e]; exact fun z => nomatch z
  refine i_newL (by show 0 ≤ sizeLine; decide) fun p1 H1 hp1 s1 e1 => ?_
  have n1 : p1 ≠ d := (hh.ne hp1).symm
  refine ⟨fun σ H' => DrawsAt H' d ∧ Kp [d] H H' ∧ (∃ xs : List V, H' p1 = some (.lst xs) ∧ (∀ x ∈ xs, Pr H H' x) ∧ xs.length ≤ 120) ∧ ∃ o4 o5 o6, σ = [some (.ref d), some (.ref r), some (.int m), some (.ref p1), o4, o5, o6], ?_, ?_⟩
  · refine ⟨⟨by omega, by omega⟩, for_range (fun i σ H' => DrawsAt H' d ∧ Kp [d] H H' ∧ (∃ xs : List V, H' p1 = some (.lst xs) ∧ (∀ x ∈ xs, Pr H H' x) ∧ xs.length = i) ∧ ∃ (g : Int) (o5 o6 : Option V), 0 ≤ g ∧ g ≤ 6 * i ∧ σ = [some (.ref d), some (.ref r), some (.int m), some (.ref p1), some (.int g), o5, o6]) ?_ ?_ ?_⟩
    · exact ⟨hh.same s1, s1.kp, ⟨[], e1, by simp, rfl⟩, 0, _, _, by decide, by decide, rfl⟩
    · rintro i σ H2 hi ⟨hh2, k2, ⟨xs, ex, hx, hl⟩, g, o5, o6, g0, g1, rfl⟩
      have hi' : i < 120 := by omega
      refine ⟨d, _, rfl, hh2, by decide, fun a1 H3 a10 a11 hh3 k3 => i_newL (by show 4 ≤ sizeLine; decide) fun q1 H4 hq1 s4 e4 => ⟨d, _, rfl, hh3.same s4, by decide, fun a2 H5 a20 a21 hh5 k5 => ?_⟩⟩
      have nq1 : q1 ≠ d := (hh3.ne hq1).symm
      have e4' : H5 q1 = some (.lst (([0, 0, 0, a1] : List Int).map V.int)) := k5.one nq1 e4
      refine i_ixI e4' a20 (by simpa using a21) ?_
      have hv : 0 ≤ ([0, 0, 0, a1] : List Int).getD a2.toNat 0 ∧ ([0, 0, 0, a1] : List Int).getD a2.toNat 0 ≤ 2 := by
        have : a2 = 0 ∨ a2 = 1 ∨ a2 = 2 ∨ a2 = 3 := by omega
        rcases this with rfl | rfl | rfl | rfl <;> simp <;> omega
      generalize ([0, 0, 0, a1] : List Int).getD a2.toNat 0 = v at hv
      refine ⟨d, _, rfl, hh5, by decide, fun a3 H6 a30 a31 hh6 k6 => ?_⟩
      have k26 : Kp [d] H2 H6 := ((k3.same s4).trans k5).trans k6
      have k06 := k2.trans k26
      refine i_lenI (k06.one nr er) ⟨.inl ⟨by decide, by decide⟩, .inl ⟨by omega, by omega⟩, ?_⟩
      have hw : 0 ≤ a3 * (if decide (2 * (m : Int) < (ns.length : Int)) = true then (1 : Int) else 0) ∧ a3 * (if decide (2 * (m : Int) < (ns.length : Int)) = true then (1 : Int) else 0) ≤ 2 := by
        by_cases c : 2 * (m : Int) < (ns.length : Int) <;> simp [c] <;> omega
      generalize a3 * (if decide (2 * (m : Int) < (ns.length : Int)) = true then (1 : Int) else 0) = w at hw
      have ex6 := k26.one n1 ex
      refine ⟨i_tyL ex6, i_newT (by show 2 ≤ sizeLine; decide) fun q2 H7 hq2 s7 e7 => i_app (s7 _ _ ex6) (sz_lt (by omega)) fun H8 k8 e8 => ?_⟩
      have nq2 : q2 ≠ p1 := fun z => by rw [z, ex6] at hq2; cases hq2
      have np : d ≠ p1 := Ne.symm n1
      have hh8 : DrawsAt H8 d := (hh6.same s7).kp k8 (by simpa using np)
      have nq2d : q2 ≠ d := (hh6.ne hq2).symm
      refine ⟨hh8, (k06.same s7).new k8 hp1, ⟨xs ++ [.ref q2], e8, fun x hx' => ?_, by simp [hl]⟩, _, _, _, by omega, by omega, rfl⟩
      rcases List.mem_append.mp hx' with hx' | hx'
      · obtain ⟨a, b', e', rfl, h2, h3, h4⟩ := ((hx x hx').kp k26 hd).same s7
        have na : a ≠ p1 := fun z => by rw [z, s7 _ _ ex6] at h3; cases h3
        exact ⟨a, b', e', rfl, h2, k8.one na h3, h4⟩
      · rw [List.mem_singleton.mp hx']
        exact ⟨q2, _, _, rfl, k06.free (by simpa using nq2d) hq2, k8.one nq2 e7, by omega, by omega⟩
    · rintro σ H' ⟨hh', k', ⟨xs, ex, hx, hl⟩, g, o5, o6, _, _, rfl⟩
      exact ⟨hh', k', ⟨xs, ex, hx, by omega⟩, _, _, _, rfl⟩
  · rintro σ H' ⟨hh', k', ⟨xs, ex, hx, hl⟩, o4, o5, o6, rfl⟩
    exact q p1 xs H' hh' k' hp1 n1 ex hx hl

end
end K

set_option linter.all false
set_option Elab.async false
set_option maxRecDepth 100000
set_option maxHeartbeats 4000000
namespace K
open PySem L2
section
variable {C : Addr} {P : Program} {w : World} {K : PySem.W.Frag} {mg : Str → Option Value} {base : Heap} {f : Addr} {fd : FuncData}

abbrev s_law_things : Stmt := top 27
theorem sc_law_things : FnScope ["draws", "row", "many", "bound", "near", "every", "some", "bent", "found", "size", "places", "kinds"] ["draws", "row", "many"] (defScope s_law_things) := ⟨rfl, rfl, rfl, by decide +kernel, rfl, by decide +kernel, by decide +kernel⟩
theorem l_law_things_bent : Loc (defScope s_law_things) "bent" := Or.inl (by kernel_rfl)
theorem l_law_things_bound : Loc (defScope s_law_things) "bound" := Or.inl (by kernel_rfl)
theorem l_law_things_every : Loc (defScope s_law_things) "every" := Or.inl (by kernel_rfl)
theorem l_law_things_found : Loc (defScope s_law_things) "found" := Or.inl (by kernel_rfl)
theorem l_law_things_kinds : Loc (defScope s_law_things) "kinds" := Or.inl (by kernel_rfl)
theorem l_law_things_near : Loc (defScope s_law_things) "near" := Or.inl (by kernel_rfl)
theorem l_law_things_places : Loc (defScope s_law_things) "places" := Or.inl (by kernel_rfl)
theorem l_law_things_size : Loc (defScope s_law_things) "size" := Or.inl (by kernel_rfl)
theorem l_law_things_some : Loc (defScope s_law_things) "some" := Or.inl (by kernel_rfl)
theorem v_law_things_bent : Vis (defScope s_law_things) "bent" := Or.inl (by kernel_rfl)
theorem v_law_things_bound : Vis (defScope s_law_things) "bound" := Or.inl (by kernel_rfl)
theorem v_law_things_draws : Vis (defScope s_law_things) "draws" := Or.inl (by kernel_rfl)
theorem v_law_things_every : Vis (defScope s_law_things) "every" := Or.inl (by kernel_rfl)
theorem v_law_things_found : Vis (defScope s_law_things) "found" := Or.inl (by kernel_rfl)
theorem v_law_things_kinds : Vis (defScope s_law_things) "kinds" := Or.inl (by kernel_rfl)
theorem v_law_things_many : Vis (defScope s_law_things) "many" := Or.inl (by kernel_rfl)
theorem v_law_things_near : Vis (defScope s_law_things) "near" := Or.inl (by kernel_rfl)
theorem v_law_things_places : Vis (defScope s_law_things) "places" := Or.inl (by kernel_rfl)
theorem v_law_things_row : Vis (defScope s_law_things) "row" := Or.inl (by kernel_rfl)
theorem v_law_things_size : Vis (defScope s_law_things) "size" := Or.inl (by kernel_rfl)
theorem v_law_things_some : Vis (defScope s_law_things) "some" := Or.inl (by kernel_rfl)
theorem g_law_things__law_free : (defScope s_law_things).names.lookup ("_law_free" : Str) = some NameKind.globalImplicit := by kernel_rfl
theorem g_law_things__law_greatest : (defScope s_law_things).names.lookup ("_law_greatest" : Str) = some NameKind.globalImplicit := by kernel_rfl
theorem g_law_things__law_spoilt : (defScope s_law_things).names.lookup ("_law_spoilt" : Str) = some NameKind.globalImplicit := by kernel_rfl
theorem g_law_things__law_stretches : (defScope s_law_things).names.lookup ("_law_stretches" : Str) = some NameKind.globalImplicit := by kernel_rfl
theorem g_law_things__law_take : (defScope s_law_things).names.lookup ("_law_take" : Str) = some NameKind.globalImplicit := by kernel_rfl
theorem g_law_things_len : (defScope s_law_things).names.lookup ("len" : Str) = some NameKind.globalImplicit := by kernel_rfl
theorem g_law_things_tuple : (defScope s_law_things).names.lookup ("tuple" : Str) = some NameKind.globalImplicit := by kernel_rfl
def t_law_things {cdv : Value} {A : Around} {outer : List Env} {s : Shared} {H : Hp} {E : XK} (B : Bl mg) (D_law_greatest : Def P w K mg base 2 "_law_greatest" ["row", "many"] sp_law_greatest) (D_law_take : Def P w K mg base 1 "_law_take" ["draws", "many"] sp_law_take) (D_law_stretches : Def P w K mg base 1 "_law_stretches" ["row", "bound"] sp_law_stretches) (D_law_free : Def P w K mg base 2 "_law_free" ["draws", "row", "many"] sp_law_free) (D_law_spoilt : Def P w K mg base 3 "_law_spoilt" ["draws", "some", "size"] sp_law_spoilt) (hr : Room 3 (A.deeper (PyProof.Rows.envOfC "_law_things" (defScope s_law_things) s.heap.objs.size f cdv))) :
    { t : TS // QB (cxOf CX0 P w K mg base ["draws", "row", "many", "bound", "near", "every", "some", "bent", "found", "size", "places", "kinds"] "_law_things" (defScope s_law_things) f cdv A outer s H E).nox (defBody s_law_things) t } :=
  ⟨_, (qb_cons (qs_set (i := 3) sc_law_things.nd rfl l_law_things_bound (.inl rfl) (qe_def D_law_greatest hr (by decide) g_law_things__law_greatest (qa_cons (qv 1 rfl v_law_things_row) (qa_cons (qv 2 rfl v_law_things_many) qa_nil))))
    (qb_cons (qs_set (i := 4) sc_law_things.nd rfl l_law_things_near (.inl rfl) (ke_ix (K := K) rfl (qe_lst (qa_cons (qv 3 rfl v_law_things_bound) (qa_cons (qv 3 rfl v_law_things_bound) (qa_cons (qe_op opSub (qv 3 rfl v_law_things_bound) qe_int) (qa_cons (qe_op opFdiv (qv 3 rfl v_law_things_bound) qe_int) (qa_cons qe_int qa_nil)))))) (qe_def D_law_take hr (by decide) g_law_things__law_take (qa_cons (qv 0 rfl v_law_things_draws) (qa_cons qe_int qa_nil))) (fun _ _ => rfl)))
    (qb_cons (qs_set (i := 5) sc_law_things.nd rfl l_law_things_every (.inl rfl) (qe_def D_law_stretches hr (by decide) g_law_things__law_stretches (qa_cons (qv 1 rfl v_law_things_row) (qa_cons (qv 4 rfl v_law_things_near) qa_nil))))
    (qb_cons (qs_set (i := 6) sc_law_things.nd rfl l_law_things_some (.inl rfl) (qe_lst (qa_cons (ke_slice (K := K) rfl (qv 5 rfl v_law_things_every) qo_none (qo_some (qv 2 rfl v_law_things_many))) (qa_cons (ke_slice (K := K) rfl (qv 5 rfl v_law_things_every) qo_none (qo_some (qe_op opAdd (qv 2 rfl v_law_things_many) qe_int))) (qa_cons (ke_slice (K := K) rfl (qv 5 rfl v_law_things_every) qo_none (qo_some (qe_op opSub (qv 2 rfl v_law_things_many) qe_int))) (qa_cons (qe_def D_law_free hr (by decide) g_law_things__law_free (qa_cons (qv 0 rfl v_law_things_draws) (qa_cons (qv 1 rfl v_law_things_row) (qa_cons (qv 2 rfl v_law_things_many) qa_nil)))) (qa_cons (qe_lst qa_nil) qa_nil)))))))
    (qb_cons (qs_set (i := 7) sc_law_things.nd rfl l_law_things_bent (.inl rfl) (qe_def D_law_spoilt hr (by decide) g_law_things__law_spoilt (qa_cons (qv 0 rfl v_law_things_draws) (qa_cons (ke_slice (K := K) rfl (qv 5 rfl v_law_things_every) qo_none (qo_some (qv 2 rfl v_law_things_many))) (qa_cons (qe_cB (kLen (K := K) rfl) g_law_things_len B.len boot_len' (qa_cons (qv 1 rfl v_law_things_row) qa_nil)) qa_nil)))))
    (qb_cons (qs_set (i := 6) sc_law_things.nd rfl l_law_things_some (.inl rfl) (qe_op opAdd (qv 6 rfl v_law_things_some) (qe_lst (qa_cons (qv 7 rfl v_law_things_bent) (qa_cons (qe_def D_law_spoilt hr (by decide) g_law_things__law_spoilt (qa_cons (qv 0 rfl v_law_things_draws) (qa_cons (qv 7 rfl v_law_things_bent) (qa_cons (qe_cB (kLen (K := K) rfl) g_law_things_len B.len boot_len' (qa_cons (qv 1 rfl v_law_things_row) qa_nil)) qa_nil)))) (qa_cons (qe_def D_law_spoilt hr (by decide) g_law_things__law_spoilt (qa_cons (qv 0 rfl v_law_things_draws) (qa_cons (ke_ix (K := K) rfl (qv 6 rfl v_law_things_some) qe_int (fun _ _ => rfl)) (qa_cons (qe_cB (kLen (K := K) rfl) g_law_things_len B.len boot_len' (qa_cons (qv 1 rfl v_law_things_row) qa_nil)) qa_nil)))) qa_nil))))))
    (qb_cons (qs_set (i := 8) sc_law_things.nd rfl l_law_things_found (.inl rfl) (qe_op opAdd (qe_cp ["one"] [none] rfl (ki_list (K := K) rfl (qv 6 rfl v_law_things_some)) (fun _ _ _ _ _ _ => (qg_name (i := 0) (show (["one"] : List Str).Nodup by decide +kernel) rfl (by first | exact Or.inl rfl | exact Or.inr rfl) (by first | exact .inl rfl | exact .inr rfl))) (fun _ _ _ _ _ _ => qif_nil) (fun _ _ _ _ _ _ => (qe_tup (qa_cons qe_str (qa_cons (qv 0 rfl (by first | exact Or.inl rfl | exact Or.inr (Or.inl rfl) | exact Or.inr (Or.inr rfl))) qa_nil))))) (qe_lst (qa_cons (qe_tup (qa_cons qe_str (qa_cons (ke_ix (K := K) rfl (qv 6 rfl v_law_things_some) qe_int (fun _ _ => rfl)) qa_nil))) (qa_cons (qe_lst (qa_cons qe_str (qa_cons (ke_ix (K := K) rfl (qv 6 rfl v_law_things_some) qe_int (fun _ _ => rfl)) qa_nil))) (qa_cons (qe_tup (qa_cons qe_str qa_nil)) qa_nil))))))
    (qb_cons (qs_set (i := 8) sc_law_things.nd rfl l_law_things_found (.inl rfl) (qe_op opAdd (qv 8 rfl v_law_things_found) (qe_lst (qa_cons (qe_tup (qa_cons qe_str (qa_cons (qe_cT (kTupL (K := K) rfl) g_law_things_tuple B.tuple boot_tuple (qa_cons (ke_ix (K := K) rfl (qv 6 rfl v_law_things_some) qe_int (fun _ _ => rfl)) qa_nil)) qa_nil))) (qa_cons (qe_tup (qa_cons qe_str (qa_cons (ke_ix (K := K) rfl (qv 6 rfl v_law_things_some) qe_int (fun _ _ => rfl)) qa_nil))) (qa_cons (qe_tup (qa_cons qe_str (qa_cons (ke_ix (K := K) rfl (qv 6 rfl v_law_things_some) qe_int (fun _ _ => rfl)) (qa_cons qe_int qa_nil)))) (qa_cons (ke_ix (K := K) rfl (qv 6 rfl v_law_things_some) qe_int (fun _ _ => rfl)) qa_nil)))))))
    (qb_cons (qs_set (i := 9) sc_law_things.nd rfl l_law_things_size (.inl rfl) (qe_cB (kLen (K := K) rfl) g_law_things_len B.len boot_len' (qa_cons (qv 1 rfl v_law_things_row) qa_nil)))
    (qb_cons (qs_set (i := 10) sc_law_things.nd rfl l_law_things_places (.inl rfl) (qe_lst (qa_cons qe_int (qa_cons (qe_op opSub (qv 9 rfl v_law_things_size) qe_int) (qa_cons (qv 9 rfl v_law_things_size) (qa_cons (qe_un unNeg qe_int) (qa_cons (qe_op opSub qe_int (qv 9 rfl v_law_things_size)) (qa_cons (qe_op opMod (qe_def D_law_take hr (by decide) g_law_things__law_take (qa_cons (qv 0 rfl v_law_things_draws) (qa_cons qe_int qa_nil))) (qv 9 rfl v_law_things_size)) (qa_cons qe_bl (qa_cons qe_bl (qa_cons qe_non (qa_cons qe_str (qa_cons (qe_lst (qa_cons qe_int qa_nil)) (qa_cons (qe_op opPow qe_int qe_int) qa_nil))))))))))))))
    (qb_cons (qs_set (i := 8) sc_law_things.nd rfl l_law_things_found (.inl rfl) (qe_op opAdd (qv 8 rfl v_law_things_found) (qe_cp ["place"] [none] rfl (ki_list (K := K) rfl (qv 10 rfl v_law_things_places)) (fun _ _ _ _ _ _ => (qg_name (i := 0) (show (["place"] : List Str).Nodup by decide +kernel) rfl (by first | exact Or.inl rfl | exact Or.inr rfl) (by first | exact .inl rfl | exact .inr rfl))) (fun _ _ _ _ _ _ => qif_nil) (fun _ _ _ _ _ _ => (qe_tup (qa_cons qe_str (qa_cons (qv 0 rfl (by first | exact Or.inl rfl | exact Or.inr (Or.inl rfl) | exact Or.inr (Or.inr rfl))) qa_nil)))))))
    (qb_cons (qs_set (i := 11) sc_law_things.nd rfl l_law_things_kinds (.inl rfl) (qe_lst (qa_cons qe_str (qa_cons qe_str (qa_cons qe_str (qa_cons qe_non (qa_cons qe_int (qa_cons (qe_tup (qa_cons qe_str qa_nil)) (qa_cons qe_str (qa_cons (qe_lst (qa_cons qe_str qa_nil)) (qa_cons qe_dnew (qa_cons qe_bl qa_nil))))))))))))
    (qb_cons (qs_set (i := 8) sc_law_things.nd rfl l_law_things_found (.inl rfl) (qe_op opAdd (qe_op opAdd (qv 8 rfl v_law_things_found) (qe_cp ["kind"] [none] rfl (ki_list (K := K) rfl (qv 11 rfl v_law_things_kinds)) (fun _ _ _ _ _ _ => (qg_name (i := 0) (show (["kind"] : List Str).Nodup by decide +kernel) rfl (by first | exact Or.inl rfl | exact Or.inr rfl) (by first | exact .inl rfl | exact .inr rfl))) (fun _ _ _ _ _ _ => qif_nil) (fun _ _ _ _ _ _ => (qe_tup (qa_cons (qv 0 rfl (by first | exact Or.inl rfl | exact Or.inr (Or.inl rfl) | exact Or.inr (Or.inr rfl))) (qa_cons qe_int qa_nil)))))) (qe_lst (qa_cons (qe_tup (qa_cons (qe_lst (qa_cons qe_str qa_nil)) (qa_cons (ke_ix (K := K) rfl (qv 6 rfl v_law_things_some) qe_int (fun _ _ => rfl)) qa_nil))) (qa_cons (qe_tup (qa_cons qe_dnew (qa_cons (ke_ix (K := K) rfl (qv 6 rfl v_law_things_some) qe_int (fun _ _ => rfl)) qa_nil))) (qa_cons (qe_tup (qa_cons qe_non (qa_cons (ke_ix (K := K) rfl (qv 6 rfl v_law_things_some) qe_int (fun _ _ => rfl)) qa_nil))) qa_nil))))))
    (qb_cons (qs_set (i := 8) sc_law_things.nd rfl l_law_things_found (.inl rfl) (qe_op opAdd (qv 8 rfl v_law_things_found) (qe_cp ["odd"] [none] rfl (ki_list (K := K) rfl (qe_lst (qa_cons qe_non (qa_cons qe_int (qa_cons qe_str (qa_cons qe_str (qa_cons qe_dnew (qa_cons qe_bl (qa_cons (qe_cB (kLen (K := K) rfl) g_law_things_len B.len boot_len' (qa_cons (qv 1 rfl v_law_things_row) qa_nil)) (qa_cons qe_dnew1 qa_nil)))))))))) (fun _ _ _ _ _ _ => (qg_name (i := 0) (show (["odd"] : List Str).Nodup by decide +kernel) rfl (by first | exact Or.inl rfl | exact Or.inr rfl) (by first | exact .inl rfl | exact .inr rfl))) (fun _ _ _ _ _ _ => qif_nil) (fun _ _ _ _ _ _ => (qe_tup (qa_cons qe_str (qa_cons (qv 0 rfl (by first | exact Or.inl rfl | exact Or.inr (Or.inl rfl) | exact Or.inr (Or.inr rfl))) qa_nil)))))))
    (qb_one (qs_ret (qe_op opAdd (qv 8 rfl v_law_things_found) (qe_lst (qa_cons (qe_lst (qa_cons qe_str (qa_cons qe_int qa_nil))) (qa_cons (qe_tup (qa_cons qe_str qa_nil)) (qa_cons (qe_tup (qa_cons qe_str (qa_cons qe_int (qa_cons qe_int qa_nil)))) (qa_cons (qe_tup (qa_cons qe_int (qa_cons qe_str qa_nil))) (qa_cons (qe_tup (qa_cons (ke_ix (K := K) rfl (qv 6 rfl v_law_things_some) qe_int (fun _ _ => rfl)) (qa_cons qe_str qa_nil))) qa_nil)))))))))))))))))))))))⟩
theorem comp_pair {a : Addr} {xs : List V} {H1 : Hp} {F : V → List V} {te : TE} {Q : Addr → Hp → Prop} (hF : ∀ x, (F x).length ≤ 3) (hte : ∀ (x : V) (H : Hp) (Q : VK), (∀ p H', H p = none → Same H H' → H' p = some (.tup (F x)) → Q (.ref p) H') → te [some x] H Q) (e : H1 a = some (.lst xs)) (hl : xs.length ≤ 1000)
    (q : ∀ (D : Addr) (ps : List Addr) (H2 : Hp), H1 D = none → Same H1 H2 → H2 D = some (.lst (ps.map V.ref)) → ps.length = xs.length → (∀ p ∈ ps, H1 p = none ∧ ∃ x ∈ xs, H2 p = some (.tup (F x))) → Q D H2) : ∀ D, H1 D = none → compRead (Itl K a) D (upG (gName 0)) (upT tYes) (upE te) [none] (upd H1 D (.lst [])) fun H2 => Q D H2 := by
  refine comp_lst xs (fun i D σ H' zs => ∃ ps : List Addr, zs = ps.map V.ref ∧ ps.length = i ∧ Same H1 H' ∧ (∀ p ∈ ps, p ≠ D ∧ H1 p = none ∧ ∃ x ∈ xs, H' p = some (.tup (F x))) ∧ ∃ o, σ = [o]) ?_ ?_ ?_ ?_
  · intro D H' hD s' e'
    exact ⟨[], rfl, rfl, s', by simp, _, rfl⟩
  · rintro i D σ H' zs hD ⟨_, _, _, s', _⟩
    exact SqL.of (s' _ _ e)
  · rintro i x D σ H' zs hx hD ⟨ps, rfl, hpl, s', hp, o, rfl⟩ eD
    have hil := (List.getElem?_eq_some_iff.mp hx).1
    refine bT (hte x H' _ fun p H3 hp0 s3 e3 => ⟨s3 _ _ eD, sz_lt (by simp; omega), fun H4 k4 e4 => ?_⟩)
    have nD : p ≠ D := fun z => by rw [z, eD] at hp0; cases hp0
    refine ⟨ps ++ [p], by simp, by simp [hpl], (s'.trans s3).new k4 hD, fun p' hp' => ?_, _, rfl⟩
    rcases List.mem_append.mp hp' with hp' | hp'
    · obtain ⟨h1, h2, y, hy, h3⟩ := hp p' hp'
      exact ⟨h1, h2, y, hy, k4.one h1 (s3 _ _ h3)⟩
    · rw [List.mem_singleton.mp hp']
      exact ⟨nD, s'.free hp0, x, List.mem_of_getElem? hx, k4.one nD e3⟩
  · rintro D σ H2 zs hD ⟨ps, rfl, hpl, s', hp, _⟩ eD
    exact q D ps H2 hD s' eD hpl fun p hp' => (hp p hp').2
theorem gf_tup {d a : Addr} {H : Hp} {ys : List V} (na : a ∉ [d]) (e : H a = some (.tup ys)) (hl : ys.length ≤ 3) (h : ∀ y ∈ ys, Tg [d] 3 40000 H y) : Tg [d] 4 130000 H (.ref a) := (tg_tup na e h).le (Nat.le_refl _) (by omega)
theorem gf_lst {d a : Addr} {H : Hp} {ys : List V} (na : a ∉ [d]) (e : H a = some (.lst ys)) (hl : ys.length ≤ 3) (h : ∀ y ∈ ys, Tg [d] 3 40000 H y) : Tg [d] 4 130000 H (.ref a) := (tg_lst na e h).le (Nat.le_refl _) (by omega)
theorem g_ls {d a : Addr} {W b : Nat} {H : Hp} {ys : List V} (na : a ∉ [d]) (e : H a = some (.lst ys)) (h : ∀ y ∈ ys, Eb d 2 W b H y) (hW : W ≤ 240) (hl : ys.length ≤ 125) : Tg [d] 3 40000 H (.ref a) :=
  (tg_lst na e fun y hy => (h y hy).1).le (Nat.le_refl _) (Nat.le_trans (Nat.mul_le_mul (by omega : W + 1 ≤ 241) hl) (by decide))
def sp_law_things : Sp := fun vs H Q _ => ∃ (d r : Addr) (m : Nat) (ns : List Int), vs = [.ref d, .ref r, .int m] ∧ DrawsAt H d ∧ H r = some (.lst (ns.map V.int)) ∧ r ≠ d ∧ RowN ns ∧ 1 ≤ m ∧ m ≤ ns.length ∧
  ∀ (p : Addr) (xs : List V) (H' : Hp), DrawsAt H' d → Kp [d] H H' → H p = none → p ≠ d → H' p = some (.lst xs) → xs.length ≤ 500 → (∀ x ∈ xs, Tg [d] 4 130000 H' x) → Q (.ref p) H'
set_option maxHeartbeats 0 in
theorem ok_law_things (B : Bl mg) (D_law_greatest : Def P w K mg base 2 "_law_greatest" ["row", "many"] sp_law_greatest) (D_law_take : Def P w K mg base 1 "_law_take" ["draws", "many"] sp_law_take) (D_law_stretches : Def P w K mg base 1 "_law_stretches" ["row", "bound"] sp_law_stretches) (D_law_free : Def P w K mg base 2 "_law_free" ["draws", "row", "many"] sp_law_free) (D_law_spoilt : Def P w K mg base 3 "_law_spoilt" ["draws", "some", "size"] sp_law_spoilt) (F : Fun K "_law_things" "_law_things" s_law_things f fd) : FnOk P w K mg base CX0 4 f fd ["draws", "row", "many"] sp_law_things := by
  refine F.okq sc_law_things (fun vs H Q E h => ?_) (fun cdv A outer s H vs Q E hr h => ?_)
  · obtain ⟨d, r, m, ns, rfl, _⟩ := h; rfl
  obtain ⟨d, r, m, ns, rfl, hh, er, nr, rn, hm1, hmn, q⟩ := h
  have hle := rn.le
  have hge := rn.ne
  refine ⟨t_law_things B D_law_greatest D_law_take D_law_stretches D_law_free D_law_spoilt hr, ?_⟩
  refine ⟨r, m, ns, rfl, er, rn, fun t => ?_⟩
  refine ⟨⟨by decide, by decide⟩, ?_⟩
  refine i_newL (by show 5 ≤ sizeLine; decide) fun p1 H1 hp1 s1 e1 => ⟨d, _, rfl, hh.same s1, by decide, fun g H2 g0 g1 hh2 k2 => ?_⟩
  have n1 : p1 ≠ d := (hh.ne hp1).symm
  have e1' : H2 p1 = some (.lst (([t, t, t - 1, t / 2, 1] : List Int).map V.int)) := k2.one n1 e1
  refine i_ixI e1' g0 (by simpa using g1) ?_
  generalize ([t, t, t - 1, t / 2, 1] : List Int).getD g.toNat 0 = bb
  have k02 : Kp [d] H H2 := s1.kp.trans k2
  have er2 := k02.one nr er
  refine ⟨r, bb, ns, rfl, er2, hle, fun pe xe H3 hpe s3 e3 hpr hel => ?_⟩
  have ebe : ∀ x ∈ xe, Eb d 2 20 1000 H3 x := fun x hx => pr_eb hh2 (hpr x hx)
  have hh3 := hh2.same s3
  have ne : pe ≠ d := (hh2.ne hpe).symm
  have er3 := s3 _ _ er2
  have k03 := k02.same s3
  refine i_sl (SqL.of e3) fun p4 H4 hp4 s4 e4 => i_sl (SqL.of (s4 _ _ e3)) fun p5 H5 hp5 s5 e5 => i_sl (SqL.of ((s4.trans s5) _ _ e3)) fun p6 H6 hp6 s6 e6 => ?_
  have s35 := s4.trans s5
  have s36 := s35.trans s6
  have hh6 := hh3.same s36
  refine ⟨d, r, m, ns, rfl, hh6, s36 _ _ er3, nr, by omega, fun pf xf H7 hh7 k7 hpf nf e7 hprf hlf => i_newL (by show 0 ≤ sizeLine; decide) fun p8 H8 hp8 s8 e8 => i_newL (by show 5 ≤ sizeLine; decide) fun p9 H9 hp9 s9 e9 => ?_⟩
  have s79 := s8.trans s9
  have hh9 := hh7.same s79
  have k37 : Kp [d] H3 H7 := s36.kp.trans k7
  have k39 := k37.same s79
  have ebf : ∀ x ∈ xf, Eb d 2 20 1000 H9 x := fun x hx => (pr_eb hh6 (hprf x hx)).same s79
  have er9 := k39.one nr er3
  have ee9 := k39.one ne e3
  have n4 := tg_newD hh3 (Same.refl H3) hp4
  have n5 := tg_newD hh3 s4 hp5
  have n6 := tg_newD hh3 s35 hp6
  have n8 := tg_newD hh7 (Same.refl H7) hp8
  have n9 := tg_newD hh7 s8 hp9
  have l4 := cutV_length xe none (some (m : Int))
  have g4 : Tg [d] 3 40000 H9 (.ref p4) := g_ls n4 ((k7.same s79).one (by simpa using n4) (s6 _ _ (s5 _ _ e4))) (fun y hy => (ebe y (cutV_memV hy)).kp k39) (by decide) (by omega)
  have g5 : Tg [d] 3 40000 H9 (.ref p5) := g_ls n5 ((k7.same s79).one (by simpa using n5) (s6 _ _ e5)) (fun y hy => (ebe y (cutV_memV hy)).kp k39) (by decide) (by have := cutV_length xe none (some ((m : Int) + 1)); omega)
  have g6 : Tg [d] 3 40000 H9 (.ref p6) := g_ls n6 ((k7.same s79).one (by simpa using n6) e6) (fun y hy => (ebe y (cutV_memV hy)).kp k39) (by decide) (by have := cutV_length xe none (some ((m : Int) - 1)); omega)
  have nfS : pf ∉ [d] := by simpa using nf
  have ef9 := s79 _ _ e7
  have g7 : Tg [d] 3 40000 H9 (.ref pf) := g_ls nfS ef9 ebf (by decide) (by omega)
  have g8 : Tg [d] 3 40000 H9 (.ref p8) := g_ls (W := 0) (b := 0) n8 (s9 _ _ e8) (fun y hy => nomatch hy) (by decide) (by decide)
  refine i_sl (SqL.of ee9) fun pa HA hpa sA eA => i_lenI (sA _ _ er9) ⟨d, pa, _, _, 20, 1000, rfl, hh9.same sA, eA, (hh9.ne hpa).symm, by omega, by omega, by omega, by decide, by decide, by decide +kernel, fun x hx => ((ebe x (cutV_memV hx)).kp k39).same sA, fun pb yb HB hhB kB eB hpb nb elb hlb => ?_⟩
  have k9B : Kp [d] H9 HB := sA.kp.trans kB
  refine i_lenI (k9B.one nr er9) ⟨d, pb, _, yb, 75, 1000 + 10 ^ 21, rfl, hhB, eB, nb, by omega, by omega, by omega, by decide, by decide, by decide +kernel, elb, fun pc yc HC hhC kC eC hpc nc elc hlc => ?_⟩
  have k9C := k9B.trans kC
  have n9' : p9 ≠ d := by simpa using n9
  have e9C := k9C.one n9' e9
  refine i_ixN 3 e9C rfl rfl (i_lenI (k9C.one nr er9) ⟨d, pf, _, xf, 20, 1000, rfl, hhC, k9C.one nf ef9, nf, by omega, by omega, by omega, by decide, by decide, by decide +kernel, fun x hx => (ebf x hx).kp k9C, fun pg yg HD hhD kD eD hpg ng elg hlg => ?_⟩)
  have k9D := k9C.trans kD
  refine i_newL (by show 3 ≤ sizeLine; decide) fun ph HE hph sE eE => i_cat (sE _ _ (kD.one n9' e9C)) eE (by show 5 + 3 ≤ sizeLine; decide) fun ps HF hps sF eF => ?_
  have sDF := sE.trans sF
  have k9F := k9D.same sDF
  have kCF := kD.same sDF
  have hhF := hhD.same sDF
  have gs : ∀ x ∈ [V.ref p4, .ref p5, .ref p6, .ref pf, .ref p8] ++ [.ref pb, .ref pc, .ref pg], Tg [d] 3 40000 HF x := by
    intro x hx
    simp only [List.cons_append, List.nil_append, List.mem_cons, List.not_mem_nil, or_false] at hx
    rcases hx with rfl | rfl | rfl | rfl | rfl | rfl | rfl | rfl
    · exact g4.kp k9F
    · exact g5.kp k9F
    · exact g6.kp k9F
    · exact g7.kp k9F
    · exact g8.kp k9F
    · exact g_ls (by simpa using nb) ((kC.trans kCF).one nb eB) (fun y hy => (elb y hy).kp (kC.trans kCF)) (by decide) (by omega)
    · exact g_ls (by simpa using nc) (kCF.one nc eC) (fun y hy => (elc y hy).kp kCF) (by decide) (by omega)
    · exact g_ls (by simpa using ng) (sDF _ _ eD) (fun y hy => (elg y hy).same sDF) (by decide) (by omega)
  have nps : ps ∉ [d] := tg_newD hhD sE hps
  have nps' : ps ≠ d := by simpa using nps
  have erF := k9F.one nr er9
  have k0F : Kp [d] H HF := (k03.trans k39).trans k9F
  refine ⟨⟨_, SqL.of eF⟩, comp_pair (F := fun x => [.str "stretches", x]) (fun x => by simp) (fun x H Q q => i_newT (by show 2 ≤ sizeLine; decide) q) eF (by simp) fun D1 ps1 J1 hD1 u1 f1 hl1 hp1 => ?_⟩
  have str : ∀ {X : Hp} {z : Str}, (z.cps.toList.all fun c => decide (c < 16 ^ 8)) = true → z.cps.size ≤ 100 → Tg [d] 3 40000 X (.str z) := fun h1 h2 => tg_str h1 (Nat.le_trans h2 (by decide))
  have tS : ∀ {X : Hp}, Tg [d] 3 40000 X (.str "stretches") := str (by decide +kernel) (by decide +kernel)
  have tN : ∀ {X : Hp}, Tg [d] 3 40000 X (.str "number") := str (by decide +kernel) (by decide +kernel)
  have a1 : ∀ x ∈ ps1.map V.ref, Tg [d] 4 130000 J1 x := fun x hx => by
    obtain ⟨p, hp, rfl⟩ := List.mem_map.mp hx
    obtain ⟨h0, y, hy, e⟩ := hp1 p hp
    refine gf_tup (tg_newD hhF (Same.refl HF) h0) e (by simp) fun z hz => ?_
    simp at hz
    rcases hz with rfl | rfl
    · exact tS
    · exact (gs z hy).same u1
  have gs0 : ∀ {X : Hp}, Kp [d] HF X → Tg [d] 3 40000 X (.ref p4) := fun k => (gs _ (by simp)).kp k
  have n4' : p4 ≠ d := by simpa using n4
  have e4F : HF p4 = some (.lst (cutV xe none (some (m : Int)))) := ((k7.same s79).trans k9F).one n4' (s6 _ _ (s5 _ _ e4))
  have eb4 : ∀ {X : Hp}, Kp [d] HF X → ∀ y ∈ cutV xe none (some (m : Int)), Tg [d] 2 20 X y := fun k y hy => ((ebe y (cutV_memV hy)).kp ((k39.trans k9F).trans k)).1
  have sp0 : ∀ {X : Hp}, Kp [d] HF X → X ps = some (.lst ([V.ref p4, .ref p5, .ref p6, .ref pf, .ref p8] ++ [.ref pb, .ref pc, .ref pg])) := fun k => k.one nps' eF
  have i3 : ∀ {X : Hp} {i : Int}, i.natAbs < 10 ^ 40 → Tg [d] 3 40000 X (.int i) := fun h => tg_int h
  have i0 : ∀ {X : Hp}, Tg [d] 3 40000 X (.int 0) := tg_int (by decide)
  have two : ∀ {X : Hp} {a : Addr} {x y : V}, a ∉ [d] → X a = some (.tup [x, y]) → Tg [d] 3 40000 X x → Tg [d] 3 40000 X y → Tg [d] 4 130000 X (.ref a) := fun na e hx hy => gf_tup na e (by simp) fun z hz => by simp at hz; rcases hz with rfl | rfl <;> assumption
  have nS : (Str.ofString "Stretches").cps.size ≤ 100 := by decide +kernel
  -- found, first
  refine i_ixN 0 (sp0 u1.kp) rfl rfl (i_newT (by show 2 ≤ sizeLine; decide) fun q1 K1 hq1 w1 c1 => i_ixN 0 (sp0 (u1.trans w1).kp) rfl rfl (i_newL (by show 2 ≤ sizeLine; decide) fun q2 K2 hq2 w2 c2 => i_newT (by show 1 ≤ sizeLine; decide) fun q3 K3 hq3 w3 c3 => i_newL (by show 3 ≤ sizeLine; decide) fun q4 K4 hq4 w4 c4 => ?_))
  have x1 := u1.trans w1
  have x2 := x1.trans w2
  have x3 := x2.trans w3
  have x4 := x3.trans w4
  refine i_cat ((w1.trans (w2.trans (w3.trans w4))) _ _ f1) c4 (sz_of (by simp [hl1])) fun q5 K5 hq5 w5 c5 => ?_
  have x5 := x4.trans w5
  have b1 : ∀ x ∈ ps1.map V.ref ++ [V.ref q1, .ref q2, .ref q3], Tg [d] 4 130000 K5 x := by
    intro x hx
    rcases List.mem_append.mp hx with hx | hx
    · exact (a1 x hx).same (w1.trans (w2.trans (w3.trans (w4.trans w5))))
    simp only [List.mem_cons, List.not_mem_nil, or_false] at hx
    rcases hx with rfl | rfl | rfl
    · exact two (tg_newD hhF u1 hq1) ((w2.trans (w3.trans (w4.trans w5))) _ _ c1) tN (gs0 x5.kp)
    · exact gf_lst (tg_newD hhF x1 hq2) ((w3.trans (w4.trans w5)) _ _ c2) (by simp) fun z hz => by simp at hz; rcases hz with rfl | rfl; exact tS; exact gs0 x5.kp
    · exact gf_tup (tg_newD hhF x2 hq3) ((w4.trans w5) _ _ c3) (by simp) fun z hz => by rw [List.mem_singleton.mp hz]; exact tS
  have lb1 : (ps1.map V.ref ++ [V.ref q1, .ref q2, .ref q3]).length ≤ 11 := by simp [hl1]
  generalize ps1.map V.ref ++ [V.ref q1, .ref q2, .ref q3] = L1 at c5 b1 lb1
  clear a1 hp1
  -- found, second
  show tSeq _ _ _ ([some (V.ref d), some (V.ref r), some (V.int m), some (V.int t), some (V.int bb), some (V.ref pe), some (V.ref ps), some (V.ref pb), some (V.ref q5), none, none, none] : List (Option V)) K5
  refine i_ixN 0 (sp0 x5.kp) rfl rfl (i_tupL (x5 _ _ e4F) fun r1 M1 hr1 y1 z1 => i_newT (by show 2 ≤ sizeLine; decide) fun r2 M2 hr2 y2 z2 => i_ixN 0 (sp0 (x5.trans (y1.trans y2)).kp) rfl rfl (i_newT (by show 2 ≤ sizeLine; decide) fun r3 M3 hr3 y3 z3 => i_ixN 0 (sp0 (x5.trans (y1.trans (y2.trans y3))).kp) rfl rfl (i_newT (by show 3 ≤ sizeLine; decide) fun r4 M4 hr4 y4 z4 => i_ixN 0 (sp0 (x5.trans (y1.trans (y2.trans (y3.trans y4)))).kp) rfl rfl (i_newL (by show 4 ≤ sizeLine; decide) fun r5 M5 hr5 y5 z5 => ?_))))
  have v1 := x5.trans y1
  have v2 := v1.trans y2
  have v3 := v2.trans y3
  have v4 := v3.trans y4
  have v5 := v4.trans y5
  refine i_cat ((y1.trans (y2.trans (y3.trans (y4.trans y5)))) _ _ c5) z5 (sz_of (by simp; omega)) fun r6 M6 hr6 y6 z6 => ?_
  have v6 := v5.trans y6
  have b2 : ∀ x ∈ L1 ++ [V.ref r2, .ref r3, .ref r4, .ref p4], Tg [d] 4 130000 M6 x := by
    intro x hx
    rcases List.mem_append.mp hx with hx | hx
    · exact (b1 x hx).same (y1.trans (y2.trans (y3.trans (y4.trans (y5.trans y6)))))
    simp only [List.mem_cons, List.not_mem_nil, or_false] at hx
    rcases hx with rfl | rfl | rfl | rfl
    · refine two (tg_newD hhF v1 hr2) ((y3.trans (y4.trans (y5.trans y6))) _ _ z2) tS ((tg_tup (tg_newD hhF x5 hr1) ((y2.trans (y3.trans (y4.trans (y5.trans y6)))) _ _ z1) (eb4 v6.kp)).le (Nat.le_refl _) ?_)
      exact Nat.le_trans (Nat.mul_le_mul_left _ (show _ ≤ 120 by omega)) (by decide)
    · exact two (tg_newD hhF v2 hr3) ((y4.trans (y5.trans y6)) _ _ z3) (str (by decide +kernel) nS) (gs0 v6.kp)
    · exact gf_tup (tg_newD hhF v3 hr4) ((y5.trans y6) _ _ z4) (by simp) fun z hz => by simp at hz; rcases hz with rfl | rfl | rfl; exact tS; exact gs0 v6.kp; exact i0
    · exact (gs0 v6.kp).le (by decide) (by decide)
  have lb2 : (L1 ++ [V.ref r2, .ref r3, .ref r4, .ref p4]).length ≤ 15 := by simp; omega
  generalize L1 ++ [V.ref r2, .ref r3, .ref r4, .ref p4] = L2' at z6 b2 lb2
  clear b1
  have hh6' := hhF.same v6
  have n6' : r6 ∉ [d] := tg_newD hhF v5 hr6
  have n6n : r6 ≠ d := by simpa using n6'
  -- places
  show tSeq _ _ _ ([some (V.ref d), some (V.ref r), some (V.int m), some (V.int t), some (V.int bb), some (V.ref pe), some (V.ref ps), some (V.ref pb), some (V.ref r6), none, none, none] : List (Option V)) M6
  refine i_lenI (v6 _ _ erF) ⟨d, _, rfl, hh6', by decide, fun gg N1 gg0 gg1 hN1 kN1 => ⟨by omega, i_newL (by show 1 ≤ sizeLine; decide) fun o1 N2 ho1 w1 c1 => ⟨⟨by decide, by decide, by decide⟩, i_newL (by show 12 ≤ sizeLine; decide) fun o2 N3 ho2 w2 c2 => ?_⟩⟩⟩
  have hm0 := Int.emod_nonneg gg (show (ns.length : Int) ≠ 0 by omega)
  have hm1' := Int.emod_lt_of_pos gg (show 0 < (ns.length : Int) by omega)
  generalize gg % (ns.length : Int) = gm at hm0 hm1' c2
  have s13 := w1.trans w2
  have hN3 := hN1.same s13
  have kF3 : Kp [d] HF N3 := (v6.kp.trans kN1).same s13
  have sm : ∀ {X : Hp} {i : Int}, i.natAbs < 1000 → Tg [d] 3 40000 X (.int i) := fun h => i3 (Nat.lt_of_lt_of_le h (by decide +kernel))
  have gp : ∀ x ∈ [V.int 0, .int ((ns.length : Int) - 1), .int ns.length, .int (-1), .int (0 - (ns.length : Int)), .int gm, .bl true, .bl false, .non, .str "0", .ref o1, .int (10 ^ Int.toNat 20)], Tg [d] 3 40000 N3 x := by
    intro x hx
    simp only [List.mem_cons, List.not_mem_nil, or_false] at hx
    rcases hx with rfl | rfl | rfl | rfl | rfl | rfl | rfl | rfl | rfl | rfl | rfl | rfl
    · exact i0
    · exact sm (by omega)
    · exact sm (by omega)
    · exact sm (by decide)
    · exact sm (by omega)
    · exact sm (by omega)
    · exact tg_bl
    · exact tg_bl
    · exact tg_non
    · exact str (by decide +kernel) (by decide +kernel)
    · exact (tg_lst (n := 0) (B := 0) (tg_newD hN1 (Same.refl N1) ho1) (w2 _ _ c1) (fun z hz => by rw [List.mem_singleton.mp hz]; exact tg_int (by decide))).le (by decide) (by decide)
    · exact i3 (by decide +kernel)
  refine ⟨⟨_, SqL.of c2⟩, comp_pair (F := fun x => [.str "number", x]) (fun x => by simp) (fun x H Q q => i_newT (by show 2 ≤ sizeLine; decide) q) c2 (by simp) fun D2 ps2 N4 hD2 w4 f2 hl2 hp2 => ?_⟩
  have a2 : ∀ x ∈ ps2.map V.ref, Tg [d] 4 130000 N4 x := fun x hx => by
    obtain ⟨p, hp, rfl⟩ := List.mem_map.mp hx
    obtain ⟨h0, y, hy, e⟩ := hp2 p hp
    exact two (tg_newD hN3 (Same.refl N3) h0) e tN ((gp y hy).same w4)
  have k64 : Kp [d] M6 N4 := (kN1.same s13).same w4
  refine i_cat (k64.one n6n z6) f2 (sz_of (by simp [hl2]; omega)) fun o3 N5 ho3 w5 c5 => ?_
  have w45 := w4.trans w5
  have hN5 := hN3.same w45
  have kF5 := kF3.same w45
  have b3 : ∀ x ∈ L2' ++ ps2.map V.ref, Tg [d] 4 130000 N5 x := by
    intro x hx
    rcases List.mem_append.mp hx with hx | hx
    · exact ((b2 x hx).kp k64).same w5
    · exact (a2 x hx).same w5
  have lb3 : (L2' ++ ps2.map V.ref).length ≤ 27 := by simp [hl2]; omega
  generalize L2' ++ ps2.map V.ref = L3 at c5 b3 lb3
  clear a2 hp2 b2 gp
  -- kinds
  show tSeq _ _ _ ([some (V.ref d), some (V.ref r), some (V.int m), some (V.int t), some (V.int bb), some (V.ref pe), some (V.ref ps), some (V.ref pb), some (V.ref o3), some (V.int ns.length), some (V.ref o2), none] : List (Option V)) N5
  refine i_newT (by show 1 ≤ sizeLine; decide) fun k1 O1 hk1 y1 z1 => i_newL (by show 1 ≤ sizeLine; decide) fun k2 O2 hk2 y2 z2 => i_dnew fun k3 O3 hk3 y3 z3 => i_newL (by show 10 ≤ sizeLine; decide) fun k4 O4 hk4 y4 z4 => ?_
  have y12 := y1.trans y2
  have y13 := y12.trans y3
  have y14 := y13.trans y4
  have hO4 := hN5.same y14
  have g0' : ∀ {X : Hp} {a : Addr} {x : V}, a ∉ [d] → X a = some (.lst [x]) → Tg [d] 2 100 X x → Tg [d] 3 40000 X (.ref a) := fun na e hx => (tg_lst na e fun z hz => by rw [List.mem_singleton.mp hz]; exact hx).le (Nat.le_refl _) (by simp)
  have s2 : ∀ {X : Hp} {z : Str}, (z.cps.toList.all fun c => decide (c < 16 ^ 8)) = true → z.cps.size ≤ 100 → Tg [d] 2 100 X (.str z) := fun h1 h2 => tg_str h1 h2
  have gk : ∀ x ∈ [V.str "numbe", .str "", .str "numbers", .non, .int 0, .ref k1, .str "stretch", .ref k2, .ref k3, .bl true], Tg [d] 3 40000 O4 x := by
    intro x hx
    simp only [List.mem_cons, List.not_mem_nil, or_false] at hx
    rcases hx with rfl | rfl | rfl | rfl | rfl | rfl | rfl | rfl | rfl | rfl
    · exact str (by decide +kernel) (by decide +kernel)
    · exact str (by decide +kernel) (by decide +kernel)
    · exact str (by decide +kernel) (by decide +kernel)
    · exact tg_non
    · exact i0
    · exact (tg_tup (n := 2) (B := 100) (tg_newD hN5 (Same.refl N5) hk1) ((y2.trans (y3.trans y4)) _ _ z1) (fun z hz => by rw [List.mem_singleton.mp hz]; exact s2 (by decide +kernel) (by decide +kernel))).le (Nat.le_refl _) (by simp)
    · exact str (by decide +kernel) (by decide +kernel)
    · exact g0' (tg_newD hN5 y1 hk2) ((y3.trans y4) _ _ z2) (s2 (by decide +kernel) (by decide +kernel))
    · exact (tg_dct (n := 0) (B := 0) (tg_newD hN5 y12 hk3) (y4 _ _ z3) (fun p z => nomatch z)).le (by decide) (by decide)
    · exact tg_bl
  refine ⟨⟨_, SqL.of z4⟩, comp_pair (F := fun x => [x, .int 0]) (fun x => by simp) (fun x H Q q => i_newT (by show 2 ≤ sizeLine; decide) q) z4 (by simp) fun D3 ps3 O5 hD3 y5 f3 hl3 hp3 => ?_⟩
  have a3 : ∀ x ∈ ps3.map V.ref, Tg [d] 4 130000 O5 x := fun x hx => by
    obtain ⟨p, hp, rfl⟩ := List.mem_map.mp hx
    obtain ⟨h0, y, hy, e⟩ := hp3 p hp
    exact two (tg_newD hO4 (Same.refl O4) h0) e ((gk y hy).same y5) i0
  have y15 := y14.trans y5
  refine i_cat (y15 _ _ c5) f3 (sz_of (by simp [hl3]; omega)) fun k5 O6 hk5 y6 z6' => ?_
  have y16 := y15.trans y6
  have hO6 := hN5.same y16
  have kF6 := kF5.same y16
  have b4 : ∀ x ∈ L3 ++ ps3.map V.ref, Tg [d] 4 130000 O6 x := by
    intro x hx
    rcases List.mem_append.mp hx with hx | hx
    · exact (b3 x hx).same y16
    · exact (a3 x hx).same y6
  have lb4 : (L3 ++ ps3.map V.ref).length ≤ 37 := by simp [hl3]; omega
  generalize L3 ++ ps3.map V.ref = L4 at z6' b4 lb4
  clear a3 hp3 b3 gk
  refine i_newL (by show 1 ≤ sizeLine; decide) fun j1 T1 hj1 w1 c1 => i_ixN 0 (sp0 (kF6.same w1)) rfl rfl (i_newT (by show 2 ≤ sizeLine; decide) fun j2 T2 hj2 w2 c2 => i_dnew fun j3 T3 hj3 w3 c3 => i_ixN 0 (sp0 (kF6.same (w1.trans (w2.trans w3)))) rfl rfl (i_newT (by show 2 ≤ sizeLine; decide) fun j4 T4 hj4 w4 c4 => i_ixN 0 (sp0 (kF6.same (w1.trans (w2.trans (w3.trans w4))))) rfl rfl (i_newT (by show 2 ≤ sizeLine; decide) fun j5 T5 hj5 w5 c5 => i_newL (by show 3 ≤ sizeLine; decide) fun j6 T6 hj6 w6 c6 => ?_)))
  have m2 := w1.trans w2
  have m3 := m2.trans w3
  have m4 := m3.trans w4
  have m5 := m4.trans w5
  have m6 := m5.trans w6
  refine i_cat (m6 _ _ z6') c6 (sz_of (by simp; omega)) fun j7 T7 hj7 w7 c7 => ?_
  have m7 := m6.trans w7
  have hT7 := hO6.same m7
  have kF7 := kF6.same m7
  have b5 : ∀ x ∈ L4 ++ [V.ref j2, .ref j4, .ref j5], Tg [d] 4 130000 T7 x := by
    intro x hx
    rcases List.mem_append.mp hx with hx | hx
    · exact (b4 x hx).same m7
    simp only [List.mem_cons, List.not_mem_nil, or_false] at hx
    rcases hx with rfl | rfl | rfl
    · exact two (tg_newD hO6 w1 hj2) ((w3.trans (w4.trans (w5.trans (w6.trans w7)))) _ _ c2) (g0' (tg_newD hO6 (Same.refl O6) hj1) ((w2.trans (w3.trans (w4.trans (w5.trans (w6.trans w7))))) _ _ c1) (s2 (by decide +kernel) (by decide +kernel))) (gs0 kF7)
    · exact two (tg_newD hO6 m3 hj4) ((w5.trans (w6.trans w7)) _ _ c4) ((tg_dct (n := 0) (B := 0) (tg_newD hO6 m2 hj3) ((w4.trans (w5.trans (w6.trans w7))) _ _ c3) (fun p z => nomatch z)).le (by decide) (by decide)) (gs0 kF7)
    · exact two (tg_newD hO6 m4 hj5) ((w6.trans w7) _ _ c5) tg_non (gs0 kF7)
  have lb5 : (L4 ++ [V.ref j2, .ref j4, .ref j5]).length ≤ 40 := by simp; omega
  generalize L4 ++ [V.ref j2, .ref j4, .ref j5] = L5 at c7 b5 lb5
  clear b4
  -- odd ones
  show tSeq _ _ _ ([some (V.ref d), some (V.ref r), some (V.int m), some (V.int t), some (V.int bb), some (V.ref pe), some (V.ref ps), some (V.ref pb), some (V.ref j7), some (V.int ns.length), some (V.ref o2), some (V.ref k4)] : List (Option V)) T7
  refine i_dnew fun h1 U1 hh1 y1 z1 => i_lenI (y1 _ _ (kF7.one nr erF)) (i_dnew fun h2 U2 hh2' y2 z2 => i_newL (by show 8 ≤ sizeLine; decide) fun h3 U3 hh3' y3 z3 => ?_)
  have y13 := y1.trans (y2.trans y3)
  have hU3 := hT7.same y13
  have go : ∀ x ∈ [V.non, .int 0, .str "", .str "stretches", .ref h1, .bl true, .int ns.length, .ref h2], Tg [d] 3 40000 U3 x := by
    intro x hx
    simp only [List.mem_cons, List.not_mem_nil, or_false] at hx
    rcases hx with rfl | rfl | rfl | rfl | rfl | rfl | rfl | rfl
    · exact tg_non
    · exact i0
    · exact str (by decide +kernel) (by decide +kernel)
    · exact tS
    · exact (tg_dct (n := 0) (B := 0) (tg_newD hT7 (Same.refl T7) hh1) ((y2.trans y3) _ _ z1) (fun p z => nomatch z)).le (by decide) (by decide)
    · exact tg_bl
    · exact sm (by omega)
    · exact (tg_dct (n := 0) (B := 0) (tg_newD hT7 y1 hh2') (y3 _ _ z2) (fun p z => by rw [List.mem_singleton.mp z]; exact ⟨⟨0, rfl, by decide⟩, tg_int (by decide)⟩)).le (by decide) (by decide)
  refine ⟨⟨_, SqL.of z3⟩, comp_pair (F := fun x => [.str "stretches", x]) (fun x => by simp) (fun x H Q q => i_newT (by show 2 ≤ sizeLine; decide) q) z3 (by simp) fun D4 ps4 U4 hD4 y4 f4 hl4 hp4' => ?_⟩
  have a4 : ∀ x ∈ ps4.map V.ref, Tg [d] 4 130000 U4 x := fun x hx => by
    obtain ⟨p, hp, rfl⟩ := List.mem_map.mp hx
    obtain ⟨h0, y, hy, e⟩ := hp4' p hp
    exact two (tg_newD hU3 (Same.refl U3) h0) e tS ((go y hy).same y4)
  have y14 := y13.trans y4
  refine i_cat (y14 _ _ c7) f4 (sz_of (by simp [hl4]; omega)) fun h5 U5 hh5' y5 z5' => ?_
  have y15 := y14.trans y5
  have hU5 := hT7.same y15
  have kF8 := kF7.same y15
  have b6 : ∀ x ∈ L5 ++ ps4.map V.ref, Tg [d] 4 130000 U5 x := by
    intro x hx
    rcases List.mem_append.mp hx with hx | hx
    · exact (b5 x hx).same y15
    · exact (a4 x hx).same y5
  have lb6 : (L5 ++ ps4.map V.ref).length ≤ 48 := by simp [hl4]; omega
  generalize L5 ++ ps4.map V.ref = L6 at z5' b6 lb6
  clear a4 hp4' b5 go
  refine i_newL (by show 2 ≤ sizeLine; decide) fun l1 V1 hl1' w1 c1 => i_newT (by show 1 ≤ sizeLine; decide) fun l2 V2 hl2' w2 c2 => i_newT (by show 3 ≤ sizeLine; decide) fun l3 V3 hl3' w3 c3 => i_newT (by show 2 ≤ sizeLine; decide) fun l4' V4 hl4' w4 c4 => i_ixN 0 (sp0 (kF8.same (w1.trans (w2.trans (w3.trans w4))))) rfl rfl (i_newT (by show 2 ≤ sizeLine; decide) fun l5 V5 hl5' w5 c5 => i_newL (by show 5 ≤ sizeLine; decide) fun l6 V6 hl6' w6 c6 => ?_)
  have m2 := w1.trans w2
  have m3 := m2.trans w3
  have m4 := m3.trans w4
  have m5 := m4.trans w5
  have m6 := m5.trans w6
  refine i_cat (m6 _ _ z5') c6 (sz_of (by simp; omega)) fun l7 Z hl7' w7 c7 => ?_
  have m7 := m6.trans w7
  have kFZ := kF8.same m7
  have k06 := kF8.same m6
  have nl7 := tg_newD hU5 m6 hl7'
  refine q l7 _ Z (hU5.same m7) (k0F.trans kFZ) ((k0F.trans k06).free nl7 hl7') (by simpa using nl7) c7 (by simp; omega) fun x hx => ?_
  rcases List.mem_append.mp hx with hx | hx
  · exact (b6 x hx).same m7
  simp only [List.mem_cons, List.not_mem_nil, or_false] at hx
  rcases hx with rfl | rfl | rfl | rfl | rfl
  · exact gf_lst (tg_newD hU5 (Same.refl U5) hl1') ((w2.trans (w3.trans (w4.trans (w5.trans (w6.trans w7))))) _ _ c1) (by simp) fun z hz => by simp at hz; rcases hz with rfl | rfl; exact tN; exact i0
  · exact gf_tup (tg_newD hU5 w1 hl2') ((w3.trans (w4.trans (w5.trans (w6.trans w7)))) _ _ c2) (by simp) fun z hz => by rw [List.mem_singleton.mp hz]; exact tN
  · exact gf_tup (tg_newD hU5 m2 hl3') ((w4.trans (w5.trans (w6.trans w7))) _ _ c3) (by simp) fun z hz => by simp at hz; rcases hz with rfl | rfl; exact tN; exact i0
  · exact two (tg_newD hU5 m3 hl4') ((w5.trans (w6.trans w7)) _ _ c4) i0 tN
  · exact two (tg_newD hU5 m4 hl5') ((w6.trans w7) _ _ c5) (gs0 kFZ) tS

end
end K

set_option linter.all false
set_option Elab.async false
set_option maxRecDepth 100000
set_option maxHeartbeats 4000000
namespace K
open PySem L2
section
variable {C : Addr} {P : Program} {w : World} {K : PySem.W.Frag} {mg : Str → Option Value} {base : Heap} {f : Addr} {fd : FuncData}

abbrev s_law_deep : Stmt := top 25
theorem sc_law_deep : FnScope ["many", "found", "k"] ["many"] (defScope s_law_deep) := ⟨rfl, rfl, rfl, by decide +kernel, rfl, by decide +kernel, by decide +kernel⟩
theorem l_law_deep_found : Loc (defScope s_law_deep) "found" := Or.inl (by kernel_rfl)
theorem l_law_deep_k : Loc (defScope s_law_deep) "k" := Or.inl (by kernel_rfl)
theorem v_law_deep_found : Vis (defScope s_law_deep) "found" := Or.inl (by kernel_rfl)
theorem v_law_deep_many : Vis (defScope s_law_deep) "many" := Or.inl (by kernel_rfl)
theorem g_law_deep_range : (defScope s_law_deep).names.lookup ("range" : Str) = some NameKind.globalImplicit := by kernel_rfl
def t_law_deep {cdv : Value} {A : Around} {outer : List Env} {s : Shared} {H : Hp} {E : XK} (B : Bl mg) (hr : Room 0 (A.deeper (PyProof.Rows.envOfC "_law_deep" (defScope s_law_deep) s.heap.objs.size f cdv))) :
    { t : TS // QB (cxOf CX0 P w K mg base ["many", "found", "k"] "_law_deep" (defScope s_law_deep) f cdv A outer s H E).nox (defBody s_law_deep) t } :=
  ⟨_, (qb_cons (qs_set (i := 1) sc_law_deep.nd rfl l_law_deep_found (.inl rfl) (qe_lst qa_nil))
    (qb_mid (qs_for PassesOwn.never rfl (qi_r1 g_law_deep_range B.range (qa_cons (qv 0 rfl v_law_deep_many) qa_nil)) (qg_name (i := 2) sc_law_deep.nd rfl l_law_deep_k (.inl rfl)) (qb_one (qs_set (i := 1) sc_law_deep.nd rfl l_law_deep_found (.inl rfl) (qe_lst (qa_cons (qv 1 rfl v_law_deep_found) qa_nil)))))
    (qb_one (qs_ret (qv 1 rfl v_law_deep_found)))))⟩
def sp_law_deep : Sp := fun vs H Q _ => ∃ m : Int, vs = [.int m] ∧ 1 ≤ m ∧ m ≤ 100000 ∧ ∀ p xs H', H p = none → Same H H' → H' p = some (.lst xs) → xs ≠ [] → (∀ x ∈ xs, tpOf H' x = none) → (∀ k, Kn k H' (.ref p)) → Q (.ref p) H'
theorem ok_law_deep (B : Bl mg) (F : Fun K "_law_deep" "_law_deep" s_law_deep f fd) : FnOk P w K mg base CX0 1 f fd ["many"] sp_law_deep := by
  refine F.okq sc_law_deep (fun vs H Q E h => ?_) (fun cdv A outer s H vs Q E hr h => ?_)
  · obtain ⟨m, rfl, _⟩ := h; rfl
  obtain ⟨m, rfl, h0, h1, q⟩ := h
  refine ⟨t_law_deep B  hr, ?_⟩
  refine i_newL (by show 0 ≤ sizeLine; decide) fun p1 H1 hp1 s1 e1 => ?_
  refine ⟨fun σ H' => ∃ p xs, H p = none ∧ Same H H' ∧ H' p = some (.lst xs) ∧ xs ≠ [] ∧ (∀ x ∈ xs, tpOf H' x = none) ∧ (∀ k, Kn k H' (.ref p)) ∧ ∃ o, σ = [some (.int m), some (.ref p), o], ?_, ?_⟩
  · have nt : ∀ {X : Hp} {a : Addr} {xs : List V}, X a = some (.lst xs) → tpOf X (.ref a) = none := fun e => by simp only [tpOf, e]
    have kn : ∀ {X : Hp} {a : Addr} {xs : List V}, X a = some (.lst xs) → (∀ k, ∀ x ∈ xs, Kn k X x) → ∀ k, Kn k X (.ref a) := fun e h k => by
      cases k with
      | zero => exact .odd (.lst e)
      | succ k => exact ⟨.odd (.lst e), fun ys z y hy => by rw [lsOf_lst e] at z; cases z; exact h k y hy, fun ys z => by rw [nt e] at z; cases z⟩
    refine ⟨⟨by omega, by omega⟩, for_range (fun i σ H' => ∃ p xs, H p = none ∧ Same H H' ∧ H' p = some (.lst xs) ∧ (1 ≤ i → xs ≠ []) ∧ (∀ x ∈ xs, tpOf H' x = none) ∧ (∀ k, Kn k H' (.ref p)) ∧ ∃ o, σ = [some (.int m), some (.ref p), o]) ?_ ?_ ?_⟩
    · exact ⟨p1, _, hp1, s1, e1, (fun z => absurd z (by decide)), (fun x z => nomatch z), kn e1 (fun k x z => nomatch z), _, rfl⟩
    · rintro i σ H4 hi ⟨p, xs, hp, s4, e4, hn, ht, hk, o, rfl⟩
      refine i_newL (by show 1 ≤ sizeLine; decide) fun p5 H5 hp5 s5 e5 => ?_
      exact ⟨p5, _, s4.free hp5, s4.trans s5, e5, (fun _ => by simp), (fun x z => by rw [List.mem_singleton.mp z]; exact nt (s5 _ _ e4)), kn e5 (fun k x z => by rw [List.mem_singleton.mp z]; exact (hk k).same s5), _, rfl⟩
    · rintro σ H' ⟨p, xs, hp, s', e', hn, ht, hk, o, rfl⟩
      exact ⟨p, xs, hp, s', e', hn (by omega), ht, hk, _, rfl⟩
  · rintro σ H' ⟨p, xs, hp, s', e', hn, ht, hk, o, rfl⟩
    exact q p xs H' hp s' e' hn ht hk
/-- a tuple that is no paper -/
inductive Bad (H : Hp) : V → Prop where
  | no {x : V} (h : tpOf H x = none) : Bad H x
  | num {x y : V} (h : tpOf H x = some [.str "number", y]) (hy : isI y = false) : Bad H x
  | str {x y : V} (h : tpOf H x = some [.str "stretches", y]) (hy : lsOf H y = none) : Bad H x
  | lst {x y : V} {zs : List V} (h : tpOf H x = some [.str "stretches", y]) (hy : lsOf H y = some zs) (hn : zs ≠ []) (ht : ∀ z ∈ zs, tpOf H z = none) : Bad H x
theorem Bad.pn {H : Hp} {x : V} {n : Nat} (b : Bad H x) : ¬ ∃ i, PN H n x i := fun ⟨i, e, _⟩ => by
  cases b with
  | no h => rw [h] at e; cases e
  | num h hy => rw [h] at e; cases e; cases hy
  | str h => rw [h] at e; simp at e; exact absurd e.1 (by decide +kernel)
  | lst h => rw [h] at e; simp at e; exact absurd e.1 (by decide +kernel)
theorem Bad.ps {H : Hp} {x : V} {n m : Nat} (b : Bad H x) : ¬ ∃ ps, PS H n m x ps := fun ⟨ps, y, zs, e, e2, _, e4⟩ => by
  cases b with
  | no h => rw [h] at e; cases e
  | num h => rw [h] at e; simp at e; exact absurd e.1 (by decide +kernel)
  | str h hy => rw [h] at e; cases e; rw [hy] at e2; cases e2
  | lst h hy hn ht =>
    rw [h] at e; cases e; rw [hy] at e2; cases e2
    cases zs with
    | nil => exact hn rfl
    | cons z zs =>
      have : stOf H n 0 z = none := by unfold stOf; rw [ht z List.mem_cons_self]
      simp only [stl, this] at e4; cases e4
theorem Bad.same {H H' : Hp} {x : V} (k : Kn 3 H x) (s : Same H H') (b : Bad H x) : Bad H' x := by
  have tx := k.an.tp s
  cases b with
  | no h => exact .no (by rw [tx]; exact h)
  | num h hy => exact .num (by rw [tx]; exact h) hy
  | str h hy => exact .str (by rw [tx]; exact h) (by rw [(k.2.2 _ h _ (by simp)).an.ls s]; exact hy)
  | lst h hy hn ht =>
    rename_i y zs
    have ky := k.2.2 _ h y (by simp)
    exact .lst (by rw [tx]; exact h) (by rw [ky.an.ls s]; exact hy) hn fun z hz => by rw [(ky.2.1 _ hy z hz).an.tp s]; exact ht z hz

end
end K

set_option linter.all false
set_option Elab.async false
set_option maxRecDepth 100000
set_option maxHeartbeats 4000000
namespace K
open PySem L2
section
variable {C : Addr} {P : Program} {w : World} {K : PySem.W.Frag} {mg : Str → Option Value} {base : Heap} {f : Addr} {fd : FuncData}

abbrev s_law : Stmt := top 28
theorem sc_law : FnScope ["script", "draws", "many", "row", "parts", "thing", "some", "none", "long"] ["script"] (defScope s_law) := ⟨rfl, rfl, rfl, by decide +kernel, rfl, by decide +kernel, by decide +kernel⟩
theorem l_law_draws : Loc (defScope s_law) "draws" := Or.inl (by kernel_rfl)
theorem l_law_long : Loc (defScope s_law) "long" := Or.inl (by kernel_rfl)
theorem l_law_many : Loc (defScope s_law) "many" := Or.inl (by kernel_rfl)
theorem l_law_none : Loc (defScope s_law) "none" := Or.inl (by kernel_rfl)
theorem l_law_parts : Loc (defScope s_law) "parts" := Or.inl (by kernel_rfl)
theorem l_law_row : Loc (defScope s_law) "row" := Or.inl (by kernel_rfl)
theorem l_law_some : Loc (defScope s_law) "some" := Or.inl (by kernel_rfl)
theorem l_law_thing : Loc (defScope s_law) "thing" := Or.inl (by kernel_rfl)
theorem v_law_draws : Vis (defScope s_law) "draws" := Or.inl (by kernel_rfl)
theorem v_law_long : Vis (defScope s_law) "long" := Or.inl (by kernel_rfl)
theorem v_law_many : Vis (defScope s_law) "many" := Or.inl (by kernel_rfl)
theorem v_law_none : Vis (defScope s_law) "none" := Or.inl (by kernel_rfl)
theorem v_law_parts : Vis (defScope s_law) "parts" := Or.inl (by kernel_rfl)
theorem v_law_row : Vis (defScope s_law) "row" := Or.inl (by kernel_rfl)
theorem v_law_script : Vis (defScope s_law) "script" := Or.inl (by kernel_rfl)
theorem v_law_some : Vis (defScope s_law) "some" := Or.inl (by kernel_rfl)
theorem v_law_thing : Vis (defScope s_law) "thing" := Or.inl (by kernel_rfl)
theorem g_law_ValueError : (defScope s_law).names.lookup ("ValueError" : Str) = some NameKind.globalImplicit := by kernel_rfl
theorem g_law__law_deep : (defScope s_law).names.lookup ("_law_deep" : Str) = some NameKind.globalImplicit := by kernel_rfl
theorem g_law__law_draws : (defScope s_law).names.lookup ("_law_draws" : Str) = some NameKind.globalImplicit := by kernel_rfl
theorem g_law__law_pieces : (defScope s_law).names.lookup ("_law_pieces" : Str) = some NameKind.globalImplicit := by kernel_rfl
theorem g_law__law_right : (defScope s_law).names.lookup ("_law_right" : Str) = some NameKind.globalImplicit := by kernel_rfl
theorem g_law__law_row : (defScope s_law).names.lookup ("_law_row" : Str) = some NameKind.globalImplicit := by kernel_rfl
theorem g_law__law_things : (defScope s_law).names.lookup ("_law_things" : Str) = some NameKind.globalImplicit := by kernel_rfl
theorem g_law_says_greatest : (defScope s_law).names.lookup ("says_greatest" : Str) = some NameKind.globalImplicit := by kernel_rfl
def t_law {cdv : Value} {A : Around} {outer : List Env} {s : Shared} {H : Hp} {E : XK} (B : Bl mg) (D_law_draws : Def P w K mg base 1 "_law_draws" ["script"] (sp_law_draws K)) (D_law_row : Def P w K mg base 2 "_law_row" ["draws", "most"] sp_law_row) (D_law_pieces : Def P w K mg base 2 "_law_pieces" ["draws", "row"] sp_law_pieces) (D_law_things : Def P w K mg base 4 "_law_things" ["draws", "row", "many"] sp_law_things) (D_law_right : Def P w K mg base 6 "_law_right" ["row", "many", "thing"] sp_law_right) (D_law_deep : Def P w K mg base 1 "_law_deep" ["many"] sp_law_deep) (D_says_greatest : Def P w K mg base 5 "says_greatest" ["row", "many", "thing"] sp_says_greatest) (hr : Room 6 (A.deeper (PyProof.Rows.envOfC "law" (defScope s_law) s.heap.objs.size f cdv))) :
    { t : TS // QB (cxOf CX0 P w K mg base ["script", "draws", "many", "row", "parts", "thing", "some", "none", "long"] "law" (defScope s_law) f cdv A outer s H E).nox (defBody s_law) t } :=
  ⟨_, (qb_cons (qs_set (i := 1) sc_law.nd rfl l_law_draws (.inl rfl) (qe_def D_law_draws hr (by decide) g_law__law_draws (qa_cons (qv 0 rfl v_law_script) qa_nil)))
    (qb_cons (qs_set (i := 2) sc_law.nd rfl l_law_many (.inl rfl) qe_int)
    (qb_mid (qs_while PassesOwn.never (QW.pt (qw_or (qt_cmp opLt (qv 2 rfl v_law_many) qe_int) (qw_or1 (QW.pt (qw_and (qt_cmp (kNeG (K := K) rfl hr) (qv 1 rfl v_law_draws) (qe_lst qa_nil)) (qw_and1 (qt_cmp opLt (qv 2 rfl v_law_many) qe_int))))))) (qb_cons (qs_set (i := 3) sc_law.nd rfl l_law_row (.inl rfl) (qe_def D_law_row hr (by decide) g_law__law_row (qa_cons (qv 1 rfl v_law_draws) (qa_cons qe_int qa_nil))))
    (qb_cons (qs_set (i := 4) sc_law.nd rfl l_law_parts (.inl rfl) (qe_def D_law_pieces hr (by decide) g_law__law_pieces (qa_cons (qv 1 rfl v_law_draws) (qa_cons (qv 3 rfl v_law_row) qa_nil))))
    (qb_mid (qs_for PassesOwn.never rfl (ki_list (K := K) rfl (qe_op opAdd (qe_def D_law_things hr (by decide) g_law__law_things (qa_cons (qv 1 rfl v_law_draws) (qa_cons (qv 3 rfl v_law_row) (qa_cons (qv 4 rfl v_law_parts) qa_nil)))) (qe_lst (qa_cons qe_non (qa_cons qe_int (qa_cons qe_bl (qa_cons qe_str (qa_cons qe_str (qa_cons (qe_tup qa_nil) (qa_cons (qe_lst qa_nil) (qa_cons qe_dnew (qa_cons qe_dnewS qa_nil)))))))))))) (qg_name (i := 5) sc_law.nd rfl l_law_thing (.inl rfl)) (qb_one (qs_if (qt_not (kt_val (K := K) rfl (qe_def D_law_right hr (by decide) g_law__law_right (qa_cons (qv 3 rfl v_law_row) (qa_cons (qv 4 rfl v_law_parts) (qa_cons (qv 5 rfl v_law_thing) qa_nil)))))) (qb_one (qs_ret qe_bl)) qb_nil)))
    (qb_cons (qs_set (i := 6) sc_law.nd rfl l_law_some (.inl rfl) (qe_lst (qa_cons (qe_def D_law_deep hr (by decide) g_law__law_deep (qa_cons qe_int qa_nil)) (qa_cons (qe_tup (qa_cons qe_str (qa_cons (qe_def D_law_deep hr (by decide) g_law__law_deep (qa_cons qe_int qa_nil)) qa_nil))) (qa_cons (qe_tup (qa_cons qe_str (qa_cons (qe_op opMul (qe_lst (qa_cons (qe_def D_law_deep hr (by decide) g_law__law_deep (qa_cons qe_int qa_nil)) qa_nil)) (qv 4 rfl v_law_parts)) qa_nil))) qa_nil)))))
    (qb_cons (qs_set (i := 7) sc_law.nd rfl l_law_none (.inl rfl) (qe_cT callVE g_law_ValueError B.ValueError boot_ValueErr (qa_cons qe_str qa_nil)))
    (qb_mid (qs_for PassesOwn.never rfl (ki_list (K := K) rfl (qe_op opAdd (qv 6 rfl v_law_some) (qe_lst (qa_cons (qv 7 rfl v_law_none) (qa_cons (qe_tup (qa_cons qe_str (qa_cons (qv 7 rfl v_law_none) qa_nil))) (qa_cons (qe_tup (qa_cons qe_str (qa_cons (qe_op opMul (qe_lst (qa_cons (qv 7 rfl v_law_none) qa_nil)) (qv 4 rfl v_law_parts)) qa_nil))) (qa_cons (qe_tup (qa_cons qe_str (qa_cons (qv 7 rfl v_law_none) qa_nil))) qa_nil))))))) (qg_name (i := 5) sc_law.nd rfl l_law_thing (.inl rfl)) (qb_one (qs_if (QW.pt (qw_or (qt_cmp opIsNot (qe_def D_says_greatest hr (by decide) g_law_says_greatest (qa_cons (qv 3 rfl v_law_row) (qa_cons (qv 4 rfl v_law_parts) (qa_cons (qv 5 rfl v_law_thing) qa_nil)))) qe_non) (qw_or1 (qt_cmp opIsNot (qe_def D_says_greatest hr (by decide) g_law_says_greatest (qa_cons (qv 3 rfl v_law_row) (qa_cons (qv 4 rfl v_law_parts) (qa_cons (qe_tup (qa_cons qe_str (qa_cons (qv 5 rfl v_law_thing) qa_nil))) qa_nil)))) qe_non)))) (qb_one (qs_ret qe_bl)) qb_nil)))
    (qb_one (qs_set (i := 2) sc_law.nd rfl l_law_many (.inl rfl) (qe_op opAdd (qv 2 rfl v_law_many) qe_int))))))))))
    (qb_cons (qs_set (i := 8) sc_law.nd rfl l_law_long (.inl rfl) (qe_op opAdd (qe_lst (qa_cons qe_int qa_nil)) (qe_op opMul (qe_lst (qa_cons qe_int qa_nil)) qe_int)))
    (qb_mid (qs_for PassesOwn.never rfl (ki_list (K := K) rfl (qe_lst (qa_cons (qe_tup (qa_cons qe_str (qa_cons (qe_lst (qa_cons (qe_tup (qa_cons qe_int (qa_cons qe_int qa_nil))) (qa_cons (qe_tup (qa_cons qe_int (qa_cons qe_int qa_nil))) qa_nil))) qa_nil))) (qa_cons (qe_tup (qa_cons qe_str (qa_cons (qe_lst (qa_cons (qe_tup (qa_cons qe_int (qa_cons qe_int qa_nil))) (qa_cons (qe_tup (qa_cons qe_int (qa_cons qe_int qa_nil))) qa_nil))) qa_nil))) (qa_cons (qe_tup (qa_cons qe_str (qa_cons qe_int qa_nil))) (qa_cons (qe_tup (qa_cons qe_str (qa_cons qe_int qa_nil))) qa_nil)))))) (qg_name (i := 5) sc_law.nd rfl l_law_thing (.inl rfl)) (qb_one (qs_if (qt_not (kt_val (K := K) rfl (qe_def D_law_right hr (by decide) g_law__law_right (qa_cons (qv 8 rfl v_law_long) (qa_cons qe_int (qa_cons (qv 5 rfl v_law_thing) qa_nil)))))) (qb_one (qs_ret qe_bl)) qb_nil)))
    (qb_one (qs_ret (qe_def D_law_right hr (by decide) g_law__law_right (qa_cons (qv 8 rfl v_law_long) (qa_cons qe_int (qa_cons (qe_tup (qa_cons qe_str (qa_cons (qe_lst (qa_cons (qe_tup (qa_cons qe_int (qa_cons qe_int qa_nil))) qa_nil)) qa_nil))) qa_nil)))))))))))⟩
def sp_law (K : PySem.W.Frag) : Sp := fun vs H Q _ => ∃ (a : Addr) (ns : List Int), vs = [.ref a] ∧ SqL K H a (ns.map V.int) ∧ ns.length ≤ 63 ∧ ∀ H', Q (.bl true) H'
theorem rown_of {ns : List Int} (h1 : 1 ≤ ns.length) (h2 : ns.length ≤ 120) (h : ∀ n ∈ ns, 0 ≤ n ∧ n ≤ 1000000000000) : RowN ns := ⟨h1, h2, fun n hn => (h n hn).1, fun n hn => (h n hn).2⟩
theorem tg_dctS {S : List Addr} {H : Hp} {a : Addr} {x : Str} {i : Int} {B : Nat} (hs : a ∉ S) (h : H a = some (.dK [(.inr x, .int i)])) (hx : (x.cps.toList.all fun c => decide (c < 16 ^ 8)) = true) (hB : x.cps.size ≤ B) (hi : i.natAbs < 10 ^ 40) : Tg S 1 (2 * B + 2) H (.ref a) := by
  obtain ⟨d1, e1, f1⟩ := tg_int (S := S) (n := 0) (B := B) (H := H) hi
  obtain ⟨d2, e2, f2⟩ := tg_str (S := S) (n := 0) (B := B) (H := H) hx hB
  have e2 : d2 = .str x := e2
  have hk := fit_kv (B := B) (ds := [(.str x, d1)]) (fun d hd => by rw [List.mem_singleton.mp hd]; exact ⟨e2 ▸ f2, f1⟩)
  exact ⟨.dict [(.str x, d1)], ⟨hs, .inr (.inr ⟨_, _, h, rfl, .cons ⟨rfl, e1⟩ .nil⟩)⟩, hk.1, hk.2.1, by show PyData.bulkKv _ ≤ _; simpa using hk.2.2⟩
/-- no paper, and known all through -/
def Bd (H : Hp) (x : V) : Prop := (∀ k, Kn k H x) ∧ Bad H x ∧ isI x = false
theorem Bd.same {H H' : Hp} {x : V} (s : Same H H') (b : Bd H x) : Bd H' x := ⟨fun k => (b.1 k).same s, b.2.1.same (b.1 3) s, b.2.2⟩
theorem kn_str {H : Hp} {z : Str} : ∀ k, Kn k H (.str z)
  | 0 => .odd (.str z)
  | _ + 1 => ⟨.odd (.str z), (fun _ e => nomatch e), (fun _ e => nomatch e)⟩
theorem kn_pair {H : Hp} {a : Addr} {z : Str} {y : V} (e : H a = some (.tup [.str z, y])) (h : ∀ k, Kn k H y) : ∀ k, Kn k H (.ref a)
  | 0 => .odd (.tup e)
  | k + 1 => ⟨.odd (.tup e), (fun xs f => by simp only [lsOf, e] at f; cases f), fun xs f x hx => by
      rw [tpOf_tup e] at f; cases f
      rcases List.mem_cons.mp hx with rfl | hx
      · exact kn_str k
      · rw [List.mem_singleton.mp hx]; exact h k⟩
theorem kn_lst {H : Hp} {a : Addr} {xs : List V} (e : H a = some (.lst xs)) (h : ∀ x ∈ xs, ∀ k, Kn k H x) : ∀ k, Kn k H (.ref a)
  | 0 => .odd (.lst e)
  | k + 1 => ⟨.odd (.lst e), (fun ys f x hx => by rw [lsOf_lst e] at f; cases f; exact h x hx k), fun ys f => by simp only [tpOf, e] at f; cases f⟩
theorem kn_exc {H : Hp} {a : Addr} (e : H a = some (exo (.type "ValueError") a)) : ∀ k, Kn k H (.ref a)
  | 0 => .odd (.exc e)
  | k + 1 => ⟨.odd (.exc e), (fun ys f => by simp only [lsOf, e, exo] at f; cases f), fun ys f => by simp only [tpOf, e, exo] at f; cases f⟩
theorem tp_lst {H : Hp} {a : Addr} {xs : List V} (e : H a = some (.lst xs)) : tpOf H (.ref a) = none := by simp only [tpOf, e]
theorem tp_exc {H : Hp} {a : Addr} (e : H a = some (exo (.type "ValueError") a)) : tpOf H (.ref a) = none := by simp only [tpOf, e, exo]
theorem bd_num {H : Hp} {a : Addr} {y : V} (e : H a = some (.tup [.str "number", y])) (h : ∀ k, Kn k H y) (hi : isI y = false) : Bd H (.ref a) := ⟨kn_pair e h, .num (tpOf_tup e) hi, rfl⟩
theorem bd_st {H : Hp} {a b : Addr} {zs : List V} (e : H a = some (.tup [.str "stretches", .ref b])) (f : H b = some (.lst zs)) (h : ∀ k, Kn k H (.ref b)) (hn : zs ≠ []) (ht : ∀ z ∈ zs, tpOf H z = none) : Bd H (.ref a) := ⟨kn_pair e h, .lst (tpOf_tup e) (lsOf_lst f) hn ht, rfl⟩
theorem tgP {X : Hp} {p : Addr} {a b : Int} (e : X p = some (.tup [.int a, .int b])) (ha : a.natAbs < 100) (hb : b.natAbs < 100) : Tg [] 1 2 X (.ref p) := (tg_tup (S := []) (n := 0) (B := 0) (by simp) e (fun x hx => by
  rcases List.mem_cons.mp hx with rfl | hx
  · exact tg_int (by omega)
  · rw [List.mem_singleton.mp hx]; exact tg_int (by omega)))
theorem tgW {X : Hp} {p : Addr} {z : Str} {y : V} (e : X p = some (.tup [.str z, y])) (hz : (z.cps.toList.all fun c => decide (c < 16 ^ 8)) = true) (hB : z.cps.size ≤ 20) (h : Tg [] 2 20 X y) : Tg [] 3 1000 X (.ref p) := (tg_tup (S := []) (n := 2) (B := 20) (by simp) e (fun x hx => by
  rcases List.mem_cons.mp hx with rfl | hx
  · exact tg_str hz hB
  · rw [List.mem_singleton.mp hx]; exact h)).le (by decide) (by simp)
theorem tgS {X : Hp} {p b : Addr} {xs : List V} (e : X p = some (.tup [.str "stretches", .ref b])) (f : X b = some (.lst xs)) (hl : xs.length ≤ 2) (h : ∀ x ∈ xs, Tg [] 1 2 X x) : Tg [] 3 1000 X (.ref p) := tgW e (by decide +kernel) (by decide +kernel) ((tg_lst (S := []) (by simp) f h).le (by decide) (by omega))
theorem ok_law (B : Bl mg) (D_law_draws : Def P w K mg base 1 "_law_draws" ["script"] (sp_law_draws K)) (D_law_row : Def P w K mg base 2 "_law_row" ["draws", "most"] sp_law_row) (D_law_pieces : Def P w K mg base 2 "_law_pieces" ["draws", "row"] sp_law_pieces) (D_law_things : Def P w K mg base 4 "_law_things" ["draws", "row", "many"] sp_law_things) (D_law_right : Def P w K mg base 6 "_law_right" ["row", "many", "thing"] sp_law_right) (D_law_deep : Def P w K mg base 1 "_law_deep" ["many"] sp_law_deep) (D_says_greatest : Def P w K mg base 5 "says_greatest" ["row", "many", "thing"] sp_says_greatest) (F : Fun K "law" "law" s_law f fd) : FnOk P w K mg base CX0 7 f fd ["script"] (sp_law K) := by
  refine F.okq sc_law (fun vs H Q E h => ?_) (fun cdv A outer s H vs Q E hr h => ?_)
  · obtain ⟨a, ns, rfl, _⟩ := h; rfl
  obtain ⟨a, sc, rfl, hS, h63, q⟩ := h
  refine ⟨t_law B D_law_draws D_law_row D_law_pieces D_law_things D_law_right D_law_deep D_says_greatest hr, ?_⟩
  refine ⟨a, sc, rfl, hS, h63, fun d H1 hd0 s1 hd1 => ?_⟩
  refine ⟨fun σ H' => ∃ o1 o2 o3 o4 o5 o6 o7 o8, σ = [some (.ref a), o1, o2, o3, o4, o5, o6, o7, o8], ?_, ?_⟩
  · refine while_m (fun mm σ H' => DrawsAt H' d ∧ ∃ (k : Nat) (o3 o4 o5 o6 o7 o8 : Option V), k ≤ 4 ∧ mm = 4 - k ∧ σ = [some (.ref a), some (.ref d), some (.int k), o3, o4, o5, o6, o7, o8]) 4 ⟨hd1, 0, _, _, _, _, _, _, by omega, rfl, rfl⟩ ?_
    rintro mm σ H2 ⟨hd2, k, o3, o4, o5, o6, o7, o8, hk4, hmm, rfl⟩
    refine dec2 (fun c => bT ?_) (fun c => ?_)
    · refine ⟨d, 120, rfl, hd2, by decide, by decide, fun r ns H3 rn _ hd3 k3 e3 nr _ => ?_⟩
      refine ⟨d, r, ns, rfl, hd3, e3, nr, rn.ne, by have := rn.le; omega, fun m H4 m1 m2 hd4 k4 => ?_⟩
      have e4 := k4.one nr e3
      have hmm1 : m ≤ 120 := by have := rn.le; omega
      refine ⟨fun σ H' => DrawsAt H' d ∧ H' r = some (.lst (ns.map V.int)) ∧ ∃ o5 o6 o7 o8, σ = [some (.ref a), some (.ref d), some (.int k), some (.ref r), some (.int m), o5, o6, o7, o8], ?_, ?_⟩
      · refine ⟨d, r, m, ns, rfl, hd4, e4, nr, rn, m1, m2, fun pt xs H5 hd5 k5 hpt npt e5 hxl hxs => ?_⟩
        have e5r := k5.one nr e4
        refine i_newT (by show 0 ≤ sizeLine; decide) fun q1 J1 hq1 u1 f1 => i_newL (by show 0 ≤ sizeLine; decide) fun q2 J2 hq2 u2 f2 => i_dnew fun q3 J3 hq3 u3 f3 => i_dnew fun q4 J4 hq4 u4 f4 => i_newL (by show 9 ≤ sizeLine; decide) fun q5 J5 hq5 u5 f5 => ?_
        have v2 := u1.trans u2
        have v3 := v2.trans u3
        have v4 := v3.trans u4
        have v5 := v4.trans u5
        refine i_cat (v5 _ _ e5) f5 (sz_of (by simp; omega)) fun q6 J6 hq6 u6 f6 => ?_
        have v6 := v5.trans u6
        have hall : ∀ x ∈ xs ++ [V.non, .int 0, .bl true, .str "", .str "number", .ref q1, .ref q2, .ref q3, .ref q4], Tg [d] 4 130000 J6 x := by
          intro x hx
          rcases List.mem_append.mp hx with hx | hx
          · exact (hxs x hx).same v6
          simp only [List.mem_cons, List.not_mem_nil, or_false] at hx
          rcases hx with rfl | rfl | rfl | rfl | rfl | rfl | rfl | rfl | rfl
          · exact tg_non
          · exact tg_int (by decide)
          · exact tg_bl
          · exact tg_str (by decide +kernel) (by decide +kernel)
          · exact tg_str (by decide +kernel) (by decide +kernel)
          · exact (tg_tup (n := 0) (B := 0) (tg_newD hd5 (Same.refl H5) hq1) ((u2.trans (u3.trans (u4.trans (u5.trans u6)))) _ _ f1) (fun p z => nomatch z)).le (by decide) (by decide)
          · exact (tg_lst (n := 0) (B := 0) (tg_newD hd5 u1 hq2) ((u3.trans (u4.trans (u5.trans u6))) _ _ f2) (fun p z => nomatch z)).le (by decide) (by decide)
          · exact (tg_dct (n := 0) (B := 0) (tg_newD hd5 v2 hq3) ((u4.trans (u5.trans u6)) _ _ f3) (fun p z => nomatch z)).le (by decide) (by decide)
          · exact (tg_dctS (B := 6) (tg_newD hd5 v3 hq4) ((u5.trans u6) _ _ f4) (by decide +kernel) (by decide +kernel) (by decide)).le (by decide) (by decide)
        have er6 := v6 _ _ e5r
        refine ⟨⟨_, SqL.of f6⟩, for_list (xs := xs ++ [V.non, .int 0, .bl true, .str "", .str "number", .ref q1, .ref q2, .ref q3, .ref q4]) (fun j σ H' => Same J6 H' ∧ ∃ o5 o6 o7 o8, σ = [some (.ref a), some (.ref d), some (.int k), some (.ref r), some (.int m), o5, o6, o7, o8]) ?_ ?_ ?_ ?_⟩
        · exact ⟨Same.refl _, _, _, _, _, rfl⟩
        · rintro j σ H' _ ⟨s', _⟩
          exact SqL.of (s' _ _ f6)
        · rintro j v σ H' hv ⟨s', o5, o6, o7, o8, rfl⟩
          exact ⟨r, v, m, ns, [d], 4, 130000, rfl, s' _ _ er6, rn, m1, m2, (hall v (List.mem_of_getElem? hv)).same s', by decide, by decide, fun H'' s'' => bF ⟨s'.trans s'', _, _, _, _, rfl⟩⟩
        · rintro σ H' ⟨s', o5, o6, o7, o8, rfl⟩
          exact ⟨(hd5.same v6).same s', s' _ _ er6, _, _, _, _, rfl⟩
      rintro σ H5 ⟨hd5, er5, o5, o6, o7, o8, rfl⟩
      refine ⟨3000, rfl, by decide, by decide, fun p1 x1 G1 hp1 s1 e1 hn1 ht1 hk1 => ⟨3000, rfl, by decide, by decide, fun p2 x2 G2 hp2 s2 e2 hn2 ht2 hk2 => i_newT (by show 2 ≤ sizeLine; decide) fun t2 G3 ht2' s3 f3 => ⟨3000, rfl, by decide, by decide, fun p4 x4 G4 hp4 s4 e4' hn4 ht4 hk4 => i_newL (by show 1 ≤ sizeLine; decide) fun l4 G5 hl4 s5 f5 => i_repV f5 (by omega) (by omega) fun l5 G6 hl5 s6 f6 => i_newT (by show 2 ≤ sizeLine; decide) fun t6 G7 ht6 s7 f7 => i_newL (by show 3 ≤ sizeLine; decide) fun so G8 hso s8 f8 => ?_⟩⟩⟩
      refine ⟨by decide, i_newE fun pv G9 hpv s9 f9 => ?_⟩
      have B1 : Bd G1 (.ref p1) := ⟨hk1, .no (tp_lst e1), rfl⟩
      have B2 : Bd G3 (.ref t2) := bd_st f3 (s3 _ _ e2) (fun k => (hk2 k).same s3) hn2 fun z hz => by rw [((hk2 1).2.1 _ (lsOf_lst e2) z hz).an.tp s3]; exact ht2 z hz
      have B6 : Bd G7 (.ref t6) := bd_st f7 (s7 _ _ f6) (kn_lst (s7 _ _ f6) fun x hx k => by rw [List.eq_of_mem_replicate hx]; exact (hk4 k).same (s5.trans (s6.trans s7))) (by intro z; have := congrArg List.length z; simp at this; omega) fun z hz => by rw [List.eq_of_mem_replicate hz]; exact tp_lst ((s5.trans (s6.trans s7)) _ _ e4')
      refine ⟨fun σ H' => DrawsAt H' d ∧ ∃ o3 o4 o5 o6 o7 o8, σ = [some (.ref a), some (.ref d), some (.int k), o3, o4, o5, o6, o7, o8], ?_, ?_⟩
      · refine i_newT (by show 2 ≤ sizeLine; decide) fun t7 K1 ht7 w1 c1 => i_newL (by show 1 ≤ sizeLine; decide) fun l7 K2 hl7 w2 c2 => i_repV c2 (by omega) (by omega) fun l8 K3 hl8 w3 c3 => i_newT (by show 2 ≤ sizeLine; decide) fun t8 K4 ht8 w4 c4 => i_newT (by show 2 ≤ sizeLine; decide) fun t9 K5 ht9 w5 c5 => i_newL (by show 4 ≤ sizeLine; decide) fun l9 K6 hl9 w6 c6 => ?_
        have y4 := w1.trans (w2.trans (w3.trans w4))
        have z9 := y4.trans (w5.trans w6)
        have z1 := w2.trans (w3.trans (w4.trans (w5.trans w6)))
        have B7 : Bd K1 (.ref t7) := ⟨kn_pair c1 (kn_exc (w1 _ _ f9)), .str (tpOf_tup c1) (by simp only [lsOf, w1 _ _ f9, exo]), rfl⟩
        have B8 : Bd K4 (.ref t8) := bd_st c4 (w4 _ _ c3) (kn_lst (w4 _ _ c3) fun x hx k => by rw [List.eq_of_mem_replicate hx]; exact kn_exc (y4 _ _ f9) k) (by intro z; have := congrArg List.length z; simp at this; omega) fun z hz => by rw [List.eq_of_mem_replicate hz]; exact tp_exc (y4 _ _ f9)
        have B9 : Bd K5 (.ref t9) := bd_num c5 (kn_exc (w5 _ _ (y4 _ _ f9))) rfl
        have Bv : Bd G9 (.ref pv) := ⟨kn_exc f9, .no (tp_exc f9), rfl⟩
        refine i_cat (z9 _ _ (s9 _ _ f8)) c6 (by show 3 + 4 ≤ sizeLine; decide) fun lf Z hlf w7 c7 => ?_
        have zz := z9.trans w7
        have s79 := s8.trans (s9.trans zz)
        have s39 := s4.trans (s5.trans (s6.trans (s7.trans s79)))
        have s19 := s2.trans (s3.trans s39)
        have hall : ∀ x ∈ [V.ref p1, .ref t2, .ref t6, .ref pv, .ref t7, .ref t8, .ref t9], Bd Z x := by
          intro x hx
          simp only [List.mem_cons, List.not_mem_nil, or_false] at hx
          rcases hx with rfl | rfl | rfl | rfl | rfl | rfl | rfl
          · exact B1.same s19
          · exact B2.same s39
          · exact B6.same s79
          · exact Bv.same zz
          · exact B7.same (z1.trans w7)
          · exact B8.same (w5.trans (w6.trans w7))
          · exact B9.same (w6.trans w7)
        have erZ := (s1.trans s19) _ _ er5
        refine ⟨⟨_, SqL.of c7⟩, for_list (xs := [V.ref p1, .ref t2, .ref t6, .ref pv, .ref t7, .ref t8, .ref t9]) (fun j σ H' => Same Z H' ∧ ∃ o5, σ = [some (.ref a), some (.ref d), some (.int k), some (.ref r), some (.int m), o5, some (.ref so), some (.ref pv), o8]) ?_ ?_ ?_ ?_⟩
        · exact ⟨Same.refl _, _, rfl⟩
        · rintro j σ H' _ ⟨s', _⟩
          exact SqL.of (s' _ _ c7)
        · rintro j v σ H' hv ⟨s', o5, rfl⟩
          have b := (hall v (List.mem_of_getElem? hv)).same s'
          refine ⟨r, v, m, ns, rfl, s' _ _ erZ, rn, m1, m2, b.1 3, (fun i h => absurd ⟨i, h⟩ b.2.1.pn), (fun ps h => absurd ⟨ps, h⟩ b.2.1.ps), fun _ _ => bF ?_⟩
          refine i_newT (by show 2 ≤ sizeLine; decide) fun tt H8 htt s8' e8 => ?_
          have b' : Bd H8 (.ref tt) := bd_num e8 (fun k => (b.1 k).same s8') b.2.2
          exact ⟨r, _, m, ns, rfl, s8' _ _ (s' _ _ erZ), rn, m1, m2, b'.1 3, (fun i h => absurd ⟨i, h⟩ b'.2.1.pn), (fun ps h => absurd ⟨ps, h⟩ b'.2.1.ps), fun _ _ => bF ⟨s'.trans s8', _, rfl⟩⟩
        · rintro σ H' ⟨s', o5, rfl⟩
          exact ⟨((hd5.same s1).same s19).same s', _, _, _, _, _, _, rfl⟩
      · rintro σ H' ⟨hd', o3, o4, o5, o6, o7, o8, rfl⟩
        exact ⟨4 - (k + 1), by omega, hd', k + 1, _, _, _, _, _, _, by omega, rfl, rfl⟩
    · obtain ⟨ds, ed, hds, hdl⟩ := hd2
      refine i_newL (by show 0 ≤ sizeLine; decide) fun p3 H3 hp3 s3 e3 => ?_
      have hd3 : DrawsAt H3 d := ⟨ds, s3 _ _ ed, hds, hdl⟩
      refine i_eqI (ns := ds) (ms := []) (SqL.of (s3 _ _ ed)) (SqL.of e3) (ndec2 (fun c1 => dec2 (fun c2 => ?_) (fun c2 => ⟨_, _, _, _, _, _, _, _, rfl⟩)) (fun c1 => bF ⟨_, _, _, _, _, _, _, _, rfl⟩))
      refine ⟨d, 120, rfl, hd3, by decide, by decide, fun r ns H3 rn _ hd3 k3 e3 nr _ => ?_⟩
      refine ⟨d, r, ns, rfl, hd3, e3, nr, rn.ne, by have := rn.le; omega, fun m H4 m1 m2 hd4 k4 => ?_⟩
      have e4 := k4.one nr e3
      have hmm1 : m ≤ 120 := by have := rn.le; omega
      refine ⟨fun σ H' => DrawsAt H' d ∧ H' r = some (.lst (ns.map V.int)) ∧ ∃ o5 o6 o7 o8, σ = [some (.ref a), some (.ref d), some (.int k), some (.ref r), some (.int m), o5, o6, o7, o8], ?_, ?_⟩
      · refine ⟨d, r, m, ns, rfl, hd4, e4, nr, rn, m1, m2, fun pt xs H5 hd5 k5 hpt npt e5 hxl hxs => ?_⟩
        have e5r := k5.one nr e4
        refine i_newT (by show 0 ≤ sizeLine; decide) fun q1 J1 hq1 u1 f1 => i_newL (by show 0 ≤ sizeLine; decide) fun q2 J2 hq2 u2 f2 => i_dnew fun q3 J3 hq3 u3 f3 => i_dnew fun q4 J4 hq4 u4 f4 => i_newL (by show 9 ≤ sizeLine; decide) fun q5 J5 hq5 u5 f5 => ?_
        have v2 := u1.trans u2
        have v3 := v2.trans u3
        have v4 := v3.trans u4
        have v5 := v4.trans u5
        refine i_cat (v5 _ _ e5) f5 (sz_of (by simp; omega)) fun q6 J6 hq6 u6 f6 => ?_
        have v6 := v5.trans u6
        have hall : ∀ x ∈ xs ++ [V.non, .int 0, .bl true, .str "", .str "number", .ref q1, .ref q2, .ref q3, .ref q4], Tg [d] 4 130000 J6 x := by
          intro x hx
          rcases List.mem_append.mp hx with hx | hx
          · exact (hxs x hx).same v6
          simp only [List.mem_cons, List.not_mem_nil, or_false] at hx
          rcases hx with rfl | rfl | rfl | rfl | rfl | rfl | rfl | rfl | rfl
          · exact tg_non
          · exact tg_int (by decide)
          · exact tg_bl
          · exact tg_str (by decide +kernel) (by decide +kernel)
          · exact tg_str (by decide +kernel) (by decide +kernel)
          · exact (tg_tup (n := 0) (B := 0) (tg_newD hd5 (Same.refl H5) hq1) ((u2.trans (u3.trans (u4.trans (u5.trans u6)))) _ _ f1) (fun p z => nomatch z)).le (by decide) (by decide)
          · exact (tg_lst (n := 0) (B := 0) (tg_newD hd5 u1 hq2) ((u3.trans (u4.trans (u5.trans u6))) _ _ f2) (fun p z => nomatch z)).le (by decide) (by decide)
          · exact (tg_dct (n := 0) (B := 0) (tg_newD hd5 v2 hq3) ((u4.trans (u5.trans u6)) _ _ f3) (fun p z => nomatch z)).le (by decide) (by decide)
          · exact (tg_dctS (B := 6) (tg_newD hd5 v3 hq4) ((u5.trans u6) _ _ f4) (by decide +kernel) (by decide +kernel) (by decide)).le (by decide) (by decide)
        have er6 := v6 _ _ e5r
        refine ⟨⟨_, SqL.of f6⟩, for_list (xs := xs ++ [V.non, .int 0, .bl true, .str "", .str "number", .ref q1, .ref q2, .ref q3, .ref q4]) (fun j σ H' => Same J6 H' ∧ ∃ o5 o6 o7 o8, σ = [some (.ref a), some (.ref d), some (.int k), some (.ref r), some (.int m), o5, o6, o7, o8]) ?_ ?_ ?_ ?_⟩
        · exact ⟨Same.refl _, _, _, _, _, rfl⟩
        · rintro j σ H' _ ⟨s', _⟩
          exact SqL.of (s' _ _ f6)
        · rintro j v σ H' hv ⟨s', o5, o6, o7, o8, rfl⟩
          exact ⟨r, v, m, ns, [d], 4, 130000, rfl, s' _ _ er6, rn, m1, m2, (hall v (List.mem_of_getElem? hv)).same s', by decide, by decide, fun H'' s'' => bF ⟨s'.trans s'', _, _, _, _, rfl⟩⟩
        · rintro σ H' ⟨s', o5, o6, o7, o8, rfl⟩
          exact ⟨(hd5.same v6).same s', s' _ _ er6, _, _, _, _, rfl⟩
      rintro σ H5 ⟨hd5, er5, o5, o6, o7, o8, rfl⟩
      refine ⟨3000, rfl, by decide, by decide, fun p1 x1 G1 hp1 s1 e1 hn1 ht1 hk1 => ⟨3000, rfl, by decide, by decide, fun p2 x2 G2 hp2 s2 e2 hn2 ht2 hk2 => i_newT (by show 2 ≤ sizeLine; decide) fun t2 G3 ht2' s3 f3 => ⟨3000, rfl, by decide, by decide, fun p4 x4 G4 hp4 s4 e4' hn4 ht4 hk4 => i_newL (by show 1 ≤ sizeLine; decide) fun l4 G5 hl4 s5 f5 => i_repV f5 (by omega) (by omega) fun l5 G6 hl5 s6 f6 => i_newT (by show 2 ≤ sizeLine; decide) fun t6 G7 ht6 s7 f7 => i_newL (by show 3 ≤ sizeLine; decide) fun so G8 hso s8 f8 => ?_⟩⟩⟩
      refine ⟨by decide, i_newE fun pv G9 hpv s9 f9 => ?_⟩
      have B1 : Bd G1 (.ref p1) := ⟨hk1, .no (tp_lst e1), rfl⟩
      have B2 : Bd G3 (.ref t2) := bd_st f3 (s3 _ _ e2) (fun k => (hk2 k).same s3) hn2 fun z hz => by rw [((hk2 1).2.1 _ (lsOf_lst e2) z hz).an.tp s3]; exact ht2 z hz
      have B6 : Bd G7 (.ref t6) := bd_st f7 (s7 _ _ f6) (kn_lst (s7 _ _ f6) fun x hx k => by rw [List.eq_of_mem_replicate hx]; exact (hk4 k).same (s5.trans (s6.trans s7))) (by intro z; have := congrArg List.length z; simp at this; omega) fun z hz => by rw [List.eq_of_mem_replicate hz]; exact tp_lst ((s5.trans (s6.trans s7)) _ _ e4')
      refine ⟨fun σ H' => DrawsAt H' d ∧ ∃ o3 o4 o5 o6 o7 o8, σ = [some (.ref a), some (.ref d), some (.int k), o3, o4, o5, o6, o7, o8], ?_, ?_⟩
      · refine i_newT (by show 2 ≤ sizeLine; decide) fun t7 K1 ht7 w1 c1 => i_newL (by show 1 ≤ sizeLine; decide) fun l7 K2 hl7 w2 c2 => i_repV c2 (by omega) (by omega) fun l8 K3 hl8 w3 c3 => i_newT (by show 2 ≤ sizeLine; decide) fun t8 K4 ht8 w4 c4 => i_newT (by show 2 ≤ sizeLine; decide) fun t9 K5 ht9 w5 c5 => i_newL (by show 4 ≤ sizeLine; decide) fun l9 K6 hl9 w6 c6 => ?_
        have y4 := w1.trans (w2.trans (w3.trans w4))
        have z9 := y4.trans (w5.trans w6)
        have z1 := w2.trans (w3.trans (w4.trans (w5.trans w6)))
        have B7 : Bd K1 (.ref t7) := ⟨kn_pair c1 (kn_exc (w1 _ _ f9)), .str (tpOf_tup c1) (by simp only [lsOf, w1 _ _ f9, exo]), rfl⟩
        have B8 : Bd K4 (.ref t8) := bd_st c4 (w4 _ _ c3) (kn_lst (w4 _ _ c3) fun x hx k => by rw [List.eq_of_mem_replicate hx]; exact kn_exc (y4 _ _ f9) k) (by intro z; have := congrArg List.length z; simp at this; omega) fun z hz => by rw [List.eq_of_mem_replicate hz]; exact tp_exc (y4 _ _ f9)
        have B9 : Bd K5 (.ref t9) := bd_num c5 (kn_exc (w5 _ _ (y4 _ _ f9))) rfl
        have Bv : Bd G9 (.ref pv) := ⟨kn_exc f9, .no (tp_exc f9), rfl⟩
        refine i_cat (z9 _ _ (s9 _ _ f8)) c6 (by show 3 + 4 ≤ sizeLine; decide) fun lf Z hlf w7 c7 => ?_
        have zz := z9.trans w7
        have s79 := s8.trans (s9.trans zz)
        have s39 := s4.trans (s5.trans (s6.trans (s7.trans s79)))
        have s19 := s2.trans (s3.trans s39)
        have hall : ∀ x ∈ [V.ref p1, .ref t2, .ref t6, .ref pv, .ref t7, .ref t8, .ref t9], Bd Z x := by
          intro x hx
          simp only [List.mem_cons, List.not_mem_nil, or_false] at hx
          rcases hx with rfl | rfl | rfl | rfl | rfl | rfl | rfl
          · exact B1.same s19
          · exact B2.same s39
          · exact B6.same s79
          · exact Bv.same zz
          · exact B7.same (z1.trans w7)
          · exact B8.same (w5.trans (w6.trans w7))
          · exact B9.same (w6.trans w7)
        have erZ := (s1.trans s19) _ _ er5
        refine ⟨⟨_, SqL.of c7⟩, for_list (xs := [V.ref p1, .ref t2, .ref t6, .ref pv, .ref t7, .ref t8, .ref t9]) (fun j σ H' => Same Z H' ∧ ∃ o5, σ = [some (.ref a), some (.ref d), some (.int k), some (.ref r), some (.int m), o5, some (.ref so), some (.ref pv), o8]) ?_ ?_ ?_ ?_⟩
        · exact ⟨Same.refl _, _, rfl⟩
        · rintro j σ H' _ ⟨s', _⟩
          exact SqL.of (s' _ _ c7)
        · rintro j v σ H' hv ⟨s', o5, rfl⟩
          have b := (hall v (List.mem_of_getElem? hv)).same s'
          refine ⟨r, v, m, ns, rfl, s' _ _ erZ, rn, m1, m2, b.1 3, (fun i h => absurd ⟨i, h⟩ b.2.1.pn), (fun ps h => absurd ⟨ps, h⟩ b.2.1.ps), fun _ _ => bF ?_⟩
          refine i_newT (by show 2 ≤ sizeLine; decide) fun tt H8 htt s8' e8 => ?_
          have b' : Bd H8 (.ref tt) := bd_num e8 (fun k => (b.1 k).same s8') b.2.2
          exact ⟨r, _, m, ns, rfl, s8' _ _ (s' _ _ erZ), rn, m1, m2, b'.1 3, (fun i h => absurd ⟨i, h⟩ b'.2.1.pn), (fun ps h => absurd ⟨ps, h⟩ b'.2.1.ps), fun _ _ => bF ⟨s'.trans s8', _, rfl⟩⟩
        · rintro σ H' ⟨s', o5, rfl⟩
          exact ⟨((hd5.same s1).same s19).same s', _, _, _, _, _, _, rfl⟩
      · rintro σ H' ⟨hd', o3, o4, o5, o6, o7, o8, rfl⟩
        exact ⟨4 - (k + 1), by omega, hd', k + 1, _, _, _, _, _, _, by omega, rfl, rfl⟩
  · rintro σ H2 ⟨o1, o2, o3, o4, o5, o6, o7, o8, rfl⟩
    have r13 : RowN (9 :: List.replicate 12 1) := rown_of (by simp) (by simp) (by intro n hn; simp at hn; omega)
    refine i_newL (by show 1 ≤ sizeLine; decide) fun p3 H3 hp3 s3 e3 => i_newL (by show 1 ≤ sizeLine; decide) fun p4 H4 hp4 s4 e4 => i_rep1 (z := 1) e4 (by omega) (by omega) fun p5 H5 hp5 s5 e5 => i_cat (s5 _ _ (s4 _ _ e3)) e5 (sz_of (by simp)) fun p6 H6 hp6 s6 e6 => ?_
    have e6' : H6 p6 = some (.lst ((9 :: List.replicate 12 1 : List Int).map V.int)) := e6
    refine ⟨fun σ H' => Same H6 H' ∧ ∃ o1 o2 o3 o4 o5 o6 o7, σ = [some (.ref a), o1, o2, o3, o4, o5, o6, o7, some (.ref p6)], ?_, ?_⟩
    · refine i_newT (by show 2 ≤ sizeLine; decide) fun a1 K1 ha1 w1 c1 => i_newT (by show 2 ≤ sizeLine; decide) fun a2 K2 ha2 w2 c2 => i_newL (by show 2 ≤ sizeLine; decide) fun a3 K3 ha3 w3 c3 => i_newT (by show 2 ≤ sizeLine; decide) fun a4 K4 ha4 w4 c4 => ?_
      have P4 : Tg [] 3 1000 K4 (.ref a4) := tgS c4 (w4 _ _ c3) (by simp) fun x hx => by
        rcases List.mem_cons.mp hx with rfl | hx
        · exact tgP ((w2.trans (w3.trans w4)) _ _ c1) (by decide) (by decide)
        · rw [List.mem_singleton.mp hx]; exact tgP ((w3.trans w4) _ _ c2) (by decide) (by decide)
      refine i_newT (by show 2 ≤ sizeLine; decide) fun b1 L1 hb1 x1 g1 => i_newT (by show 2 ≤ sizeLine; decide) fun b2 L2 hb2 x2 g2 => i_newL (by show 2 ≤ sizeLine; decide) fun b3 L3 hb3 x3 g3 => i_newT (by show 2 ≤ sizeLine; decide) fun b4 L4 hb4 x4 g4 => ?_
      have Q4 : Tg [] 3 1000 L4 (.ref b4) := tgS g4 (x4 _ _ g3) (by simp) fun x hx => by
        rcases List.mem_cons.mp hx with rfl | hx
        · exact tgP ((x2.trans (x3.trans x4)) _ _ g1) (by decide) (by decide)
        · rw [List.mem_singleton.mp hx]; exact tgP ((x3.trans x4) _ _ g2) (by decide) (by decide)
      refine i_newT (by show 2 ≤ sizeLine; decide) fun a5 K5 ha5 w5 c5 => i_newT (by show 2 ≤ sizeLine; decide) fun a6 K6 ha6 w6 c6 => i_newL (by show 4 ≤ sizeLine; decide) fun a7 K7 ha7 w7 c7 => ?_
      have v5 := w5.trans (w6.trans w7)
      have v4 := x1.trans (x2.trans (x3.trans (x4.trans v5)))
      have v6 := w1.trans (w2.trans (w3.trans (w4.trans v4)))
      have hall : ∀ x ∈ [V.ref a4, .ref b4, .ref a5, .ref a6], Tg [] 3 1000 K7 x := by
        intro x hx
        simp only [List.mem_cons, List.not_mem_nil, or_false] at hx
        rcases hx with rfl | rfl | rfl | rfl
        · exact P4.same v4
        · exact Q4.same v5
        · exact tgW ((w6.trans w7) _ _ c5) (by decide +kernel) (by decide +kernel) (tg_int (by decide))
        · exact tgW (w7 _ _ c6) (by decide +kernel) (by decide +kernel) (tg_int (by decide))
      refine ⟨⟨_, SqL.of c7⟩, for_list (xs := [V.ref a4, .ref b4, .ref a5, .ref a6]) (fun j σ H' => Same K7 H' ∧ ∃ o1 o2 o3 o4 o5 o6 o7, σ = [some (.ref a), o1, o2, o3, o4, o5, o6, o7, some (.ref p6)]) ?_ ?_ ?_ ?_⟩
      · exact ⟨Same.refl _, _, _, _, _, _, _, _, rfl⟩
      · rintro j σ H' _ ⟨s', _⟩
        exact SqL.of (s' _ _ c7)
      · rintro j v σ H' hv ⟨s', o1, o2, o3, o4, o5, o6, o7, rfl⟩
        exact ⟨p6, v, 2, 9 :: List.replicate 12 1, [], 3, 1000, rfl, s' _ _ (v6 _ _ e6'), r13, by decide, by simp, (hall v (List.mem_of_getElem? hv)).same s', by decide, by decide, fun H7 s7 => bF ⟨s'.trans s7, _, _, _, _, _, _, _, rfl⟩⟩
      · rintro σ H' ⟨s', o1, o2, o3, o4, o5, o6, o7, rfl⟩
        exact ⟨v6.trans s', _, _, _, _, _, _, _, rfl⟩
    · rintro σ H7 ⟨s7, o1, o2, o3, o4, o5, o6, o7, rfl⟩
      refine i_newT (by show 2 ≤ sizeLine; decide) fun a1 K1 ha1 w1 c1 => i_newL (by show 1 ≤ sizeLine; decide) fun a2 K2 ha2 w2 c2 => i_newT (by show 2 ≤ sizeLine; decide) fun a3 K3 ha3 w3 c3 => ?_
      exact ⟨p6, _, 1, 9 :: List.replicate 12 1, [], 3, 1000, rfl, (w1.trans (w2.trans w3)) _ _ (s7 _ _ e6'), r13, by decide, by simp, tgS c3 (w3 _ _ c2) (by simp) (fun x hx => by rw [List.mem_singleton.mp hx]; exact tgP ((w2.trans w3) _ _ c1) (by decide) (by decide)), by decide, by decide, fun H9 s9 => q H9⟩

end
end K

set_option linter.all false
set_option Elab.async false
set_option maxRecDepth 100000
set_option maxHeartbeats 4000000
namespace K
open PySem PySem.Spec PyProof.Rows L2
theorem all_mk {l : PySem.W.OpenLaw} {w : World} {K : PySem.W.Frag} {h : Heap} {mg : Str → Option Value} {fa f0 f1 f2 f3 f4 f5 f6 f7 f8 f9 f10 f11 f12 f13 f14 f15 f16 f17 f18 f19 f20 f21 f22 : Addr} (X : K.In h) (G : h.Ns mainGlobals mg) (hfa : mg "law" = some (.ref fa))
    {od0 an0 od1 an1 od2 an2 od3 an3 od4 an4 od5 an5 od6 an6 od7 an7 od8 an8 od9 an9 od10 an10 od11 an11 od12 an12 od13 an13 od14 an14 od15 an15 od16 an16 od17 an17 od18 an18 od19 an19 od20 an20 od21 an21 od22 an22 : Option Addr} {sl0 sl1 sl2 sl3 sl4 sl5 sl6 sl7 sl8 sl9 sl10 sl11 sl12 sl13 sl14 sl15 sl16 sl17 sl18 sl19 sl20 sl21 sl22 : Array (Option Value)} {oc0 kV0 dc0 pm0 cd0 ct0 oc1 kV1 dc1 pm1 cd1 ct1 oc2 kV2 dc2 pm2 cd2 ct2 oc3 kV3 dc3 pm3 cd3 ct3 oc4 kV4 dc4 pm4 cd4 ct4 oc5 kV5 dc5 pm5 cd5 ct5 oc6 kV6 dc6 pm6 cd6 ct6 oc7 kV7 dc7 pm7 cd7 ct7 oc8 kV8 dc8 pm8 cd8 ct8 oc9 kV9 dc9 pm9 cd9 ct9 oc10 kV10 dc10 pm10 cd10 ct10 oc11 kV11 dc11 pm11 cd11 ct11 oc12 kV12 dc12 pm12 cd12 ct12 oc13 kV13 dc13 pm13 cd13 ct13 oc14 kV14 dc14 pm14 cd14 ct14 oc15 kV15 dc15 pm15 cd15 ct15 oc16 kV16 dc16 pm16 cd16 ct16 oc17 kV17 dc17 pm17 cd17 ct17 oc18 kV18 dc18 pm18 cd18 ct18 oc19 kV19 dc19 pm19 cd19 ct19 oc20 kV20 dc20 pm20 cd20 ct20 oc21 kV21 dc21 pm21 cd21 ct21 oc22 kV22 dc22 pm22 cd22 ct22 : Value}
    (a0 : PySem.W.nsIn K mainGlobals "_law_draws" = some (some (.ref f0))) (l0 : K.lookup f0 = some ⟨oc0, od0, .func (PySem.W.fnOf "_law_draws" "_law_draws" (defArgs s_law_draws) (defBody s_law_draws) (defScope s_law_draws) .none kV0 dc0 pm0 an0 cd0 ct0), sl0⟩) (c0 : PySem.W.codeIn K cd0 "_law_draws" = true) (k0 : PySem.W.keepIn K (.ref f0) = true)
    (a1 : PySem.W.nsIn K mainGlobals "_law_take" = some (some (.ref f1))) (l1 : K.lookup f1 = some ⟨oc1, od1, .func (PySem.W.fnOf "_law_take" "_law_take" (defArgs s_law_take) (defBody s_law_take) (defScope s_law_take) .none kV1 dc1 pm1 an1 cd1 ct1), sl1⟩) (c1 : PySem.W.codeIn K cd1 "_law_take" = true) (k1 : PySem.W.keepIn K (.ref f1) = true)
    (a2 : PySem.W.nsIn K mainGlobals "_law_row" = some (some (.ref f2))) (l2 : K.lookup f2 = some ⟨oc2, od2, .func (PySem.W.fnOf "_law_row" "_law_row" (defArgs s_law_row) (defBody s_law_row) (defScope s_law_row) .none kV2 dc2 pm2 an2 cd2 ct2), sl2⟩) (c2 : PySem.W.codeIn K cd2 "_law_row" = true) (k2 : PySem.W.keepIn K (.ref f2) = true)
    (a3 : PySem.W.nsIn K mainGlobals "_law_pieces" = some (some (.ref f3))) (l3 : K.lookup f3 = some ⟨oc3, od3, .func (PySem.W.fnOf "_law_pieces" "_law_pieces" (defArgs s_law_pieces) (defBody s_law_pieces) (defScope s_law_pieces) .none kV3 dc3 pm3 an3 cd3 ct3), sl3⟩) (c3 : PySem.W.codeIn K cd3 "_law_pieces" = true) (k3 : PySem.W.keepIn K (.ref f3) = true)
    (a4 : PySem.W.nsIn K mainGlobals "_law_fewest" = some (some (.ref f4))) (l4 : K.lookup f4 = some ⟨oc4, od4, .func (PySem.W.fnOf "_law_fewest" "_law_fewest" (defArgs s_law_fewest) (defBody s_law_fewest) (defScope s_law_fewest) .none kV4 dc4 pm4 an4 cd4 ct4), sl4⟩) (c4 : PySem.W.codeIn K cd4 "_law_fewest" = true) (k4 : PySem.W.keepIn K (.ref f4) = true)
    (a5 : PySem.W.nsIn K mainGlobals "_law_greatest" = some (some (.ref f5))) (l5 : K.lookup f5 = some ⟨oc5, od5, .func (PySem.W.fnOf "_law_greatest" "_law_greatest" (defArgs s_law_greatest) (defBody s_law_greatest) (defScope s_law_greatest) .none kV5 dc5 pm5 an5 cd5 ct5), sl5⟩) (c5 : PySem.W.codeIn K cd5 "_law_greatest" = true) (k5 : PySem.W.keepIn K (.ref f5) = true)
    (a6 : PySem.W.nsIn K mainGlobals "_law_stretches" = some (some (.ref f6))) (l6 : K.lookup f6 = some ⟨oc6, od6, .func (PySem.W.fnOf "_law_stretches" "_law_stretches" (defArgs s_law_stretches) (defBody s_law_stretches) (defScope s_law_stretches) .none kV6 dc6 pm6 an6 cd6 ct6), sl6⟩) (c6 : PySem.W.codeIn K cd6 "_law_stretches" = true) (k6 : PySem.W.keepIn K (.ref f6) = true)
    (a7 : PySem.W.nsIn K mainGlobals "_law_free" = some (some (.ref f7))) (l7 : K.lookup f7 = some ⟨oc7, od7, .func (PySem.W.fnOf "_law_free" "_law_free" (defArgs s_law_free) (defBody s_law_free) (defScope s_law_free) .none kV7 dc7 pm7 an7 cd7 ct7), sl7⟩) (c7 : PySem.W.codeIn K cd7 "_law_free" = true) (k7 : PySem.W.keepIn K (.ref f7) = true)
    (a8 : PySem.W.nsIn K mainGlobals "_law_odd" = some (some (.ref f8))) (l8 : K.lookup f8 = some ⟨oc8, od8, .func (PySem.W.fnOf "_law_odd" "_law_odd" (defArgs s_law_odd) (defBody s_law_odd) (defScope s_law_odd) .none kV8 dc8 pm8 an8 cd8 ct8), sl8⟩) (c8 : PySem.W.codeIn K cd8 "_law_odd" = true) (k8 : PySem.W.keepIn K (.ref f8) = true)
    (a9 : PySem.W.nsIn K mainGlobals "_law_spoilt" = some (some (.ref f9))) (l9 : K.lookup f9 = some ⟨oc9, od9, .func (PySem.W.fnOf "_law_spoilt" "_law_spoilt" (defArgs s_law_spoilt) (defBody s_law_spoilt) (defScope s_law_spoilt) .none kV9 dc9 pm9 an9 cd9 ct9), sl9⟩) (c9 : PySem.W.codeIn K cd9 "_law_spoilt" = true) (k9 : PySem.W.keepIn K (.ref f9) = true)
    (a10 : PySem.W.nsIn K mainGlobals "_law_things" = some (some (.ref f10))) (l10 : K.lookup f10 = some ⟨oc10, od10, .func (PySem.W.fnOf "_law_things" "_law_things" (defArgs s_law_things) (defBody s_law_things) (defScope s_law_things) .none kV10 dc10 pm10 an10 cd10 ct10), sl10⟩) (c10 : PySem.W.codeIn K cd10 "_law_things" = true) (k10 : PySem.W.keepIn K (.ref f10) = true)
    (a11 : PySem.W.nsIn K mainGlobals "_law_among" = some (some (.ref f11))) (l11 : K.lookup f11 = some ⟨oc11, od11, .func (PySem.W.fnOf "_law_among" "_law_among" (defArgs s_law_among) (defBody s_law_among) (defScope s_law_among) .none kV11 dc11 pm11 an11 cd11 ct11), sl11⟩) (c11 : PySem.W.codeIn K cd11 "_law_among" = true) (k11 : PySem.W.keepIn K (.ref f11) = true)
    (a12 : PySem.W.nsIn K mainGlobals "_law_says_greatest" = some (some (.ref f12))) (l12 : K.lookup f12 = some ⟨oc12, od12, .func (PySem.W.fnOf "_law_says_greatest" "_law_says_greatest" (defArgs s_law_says_greatest) (defBody s_law_says_greatest) (defScope s_law_says_greatest) .none kV12 dc12 pm12 an12 cd12 ct12), sl12⟩) (c12 : PySem.W.codeIn K cd12 "_law_says_greatest" = true) (k12 : PySem.W.keepIn K (.ref f12) = true)
    (a13 : PySem.W.nsIn K mainGlobals "is_whole" = some (some (.ref f13))) (l13 : K.lookup f13 = some ⟨oc13, od13, .func (PySem.W.fnOf "is_whole" "is_whole" (defArgs s_is_whole) (defBody s_is_whole) (defScope s_is_whole) .none kV13 dc13 pm13 an13 cd13 ct13), sl13⟩) (c13 : PySem.W.codeIn K cd13 "is_whole" = true) (k13 : PySem.W.keepIn K (.ref f13) = true)
    (a14 : PySem.W.nsIn K mainGlobals "is_within" = some (some (.ref f14))) (l14 : K.lookup f14 = some ⟨oc14, od14, .func (PySem.W.fnOf "is_within" "is_within" (defArgs s_is_within) (defBody s_is_within) (defScope s_is_within) .none kV14 dc14 pm14 an14 cd14 ct14), sl14⟩) (c14 : PySem.W.codeIn K cd14 "is_within" = true) (k14 : PySem.W.keepIn K (.ref f14) = true)
    (a15 : PySem.W.nsIn K mainGlobals "check_many" = some (some (.ref f15))) (l15 : K.lookup f15 = some ⟨oc15, od15, .func (PySem.W.fnOf "check_many" "check_many" (defArgs s_check_many) (defBody s_check_many) (defScope s_check_many) .none kV15 dc15 pm15 an15 cd15 ct15), sl15⟩) (c15 : PySem.W.codeIn K cd15 "check_many" = true) (k15 : PySem.W.keepIn K (.ref f15) = true)
    (a16 : PySem.W.nsIn K mainGlobals "is_stretch" = some (some (.ref f16))) (l16 : K.lookup f16 = some ⟨oc16, od16, .func (PySem.W.fnOf "is_stretch" "is_stretch" (defArgs s_is_stretch) (defBody s_is_stretch) (defScope s_is_stretch) .none kV16 dc16 pm16 an16 cd16 ct16), sl16⟩) (c16 : PySem.W.codeIn K cd16 "is_stretch" = true) (k16 : PySem.W.keepIn K (.ref f16) = true)
    (a17 : PySem.W.nsIn K mainGlobals "are_stretches" = some (some (.ref f17))) (l17 : K.lookup f17 = some ⟨oc17, od17, .func (PySem.W.fnOf "are_stretches" "are_stretches" (defArgs s_are_stretches) (defBody s_are_stretches) (defScope s_are_stretches) .none kV17 dc17 pm17 an17 cd17 ct17), sl17⟩) (c17 : PySem.W.codeIn K cd17 "are_stretches" = true) (k17 : PySem.W.keepIn K (.ref f17) = true)
    (a18 : PySem.W.nsIn K mainGlobals "says_greatest" = some (some (.ref f18))) (l18 : K.lookup f18 = some ⟨oc18, od18, .func (PySem.W.fnOf "says_greatest" "says_greatest" (defArgs s_says_greatest) (defBody s_says_greatest) (defScope s_says_greatest) .none kV18 dc18 pm18 an18 cd18 ct18), sl18⟩) (c18 : PySem.W.codeIn K cd18 "says_greatest" = true) (k18 : PySem.W.keepIn K (.ref f18) = true)
    (a19 : PySem.W.nsIn K mainGlobals "_law_whole" = some (some (.ref f19))) (l19 : K.lookup f19 = some ⟨oc19, od19, .func (PySem.W.fnOf "_law_whole" "_law_whole" (defArgs s_law_whole) (defBody s_law_whole) (defScope s_law_whole) .none kV19 dc19 pm19 an19 cd19 ct19), sl19⟩) (c19 : PySem.W.codeIn K cd19 "_law_whole" = true) (k19 : PySem.W.keepIn K (.ref f19) = true)
    (a20 : PySem.W.nsIn K mainGlobals "_law_right" = some (some (.ref f20))) (l20 : K.lookup f20 = some ⟨oc20, od20, .func (PySem.W.fnOf "_law_right" "_law_right" (defArgs s_law_right) (defBody s_law_right) (defScope s_law_right) .none kV20 dc20 pm20 an20 cd20 ct20), sl20⟩) (c20 : PySem.W.codeIn K cd20 "_law_right" = true) (k20 : PySem.W.keepIn K (.ref f20) = true)
    (a21 : PySem.W.nsIn K mainGlobals "_law_deep" = some (some (.ref f21))) (l21 : K.lookup f21 = some ⟨oc21, od21, .func (PySem.W.fnOf "_law_deep" "_law_deep" (defArgs s_law_deep) (defBody s_law_deep) (defScope s_law_deep) .none kV21 dc21 pm21 an21 cd21 ct21), sl21⟩) (c21 : PySem.W.codeIn K cd21 "_law_deep" = true) (k21 : PySem.W.keepIn K (.ref f21) = true)
    (a22 : PySem.W.nsIn K mainGlobals "law" = some (some (.ref f22))) (l22 : K.lookup f22 = some ⟨oc22, od22, .func (PySem.W.fnOf "law" "law" (defArgs s_law) (defBody s_law) (defScope s_law) .none kV22 dc22 pm22 an22 cd22 ct22), sl22⟩) (c22 : PySem.W.codeIn K cd22 "law" = true) (k22 : PySem.W.keepIn K (.ref f22) = true)
    (z0 : PySem.W.nsIn K mainGlobals "list" = some none) (z1 : PySem.W.nsIn K mainGlobals "enumerate" = some none) (z2 : PySem.W.nsIn K mainGlobals "int" = some none) (z3 : PySem.W.nsIn K mainGlobals "sum" = some none) (z4 : PySem.W.nsIn K mainGlobals "range" = some none) (z5 : PySem.W.nsIn K mainGlobals "sorted" = some none) (z6 : PySem.W.nsIn K mainGlobals "max" = some none) (z7 : PySem.W.nsIn K mainGlobals "min" = some none) (z8 : PySem.W.nsIn K mainGlobals "len" = some none) (z9 : PySem.W.nsIn K mainGlobals "repr" = some none) (z10 : PySem.W.nsIn K mainGlobals "isinstance" = some none) (z11 : PySem.W.nsIn K mainGlobals "zip" = some none) (z12 : PySem.W.nsIn K mainGlobals "bool" = some none) (z13 : PySem.W.nsIn K mainGlobals "tuple" = some none) (z14 : PySem.W.nsIn K mainGlobals "str" = some none) (z15 : PySem.W.nsIn K mainGlobals "dict" = some none) (z16 : PySem.W.nsIn K mainGlobals "abs" = some none) (z17 : PySem.W.nsIn K mainGlobals "ValueError" = some none) :
    ∃ fd : FuncData, (∀ (s : Shared) (v : Value), BindsTo s fd ⟨[v], []⟩ [("script", v)]) ∧ ∀ base : Heap, K.In base → base.Ns mainGlobals mg → FnOk l.prog w K mg base CX0 7 fa fd ["script"] (sp_law K) := by
  have e := hfa.symm.trans (PySem.W.mg_of X G a22)
  cases e
  have F0 := fun_mk (st := s_law_draws) l0 c0 k0
  have b0 := F0.binds (ps := ["script"]) fun _ _ _ _ _ _ us hl => match us, hl with | [_], _ => rfl
  have F1 := fun_mk (st := s_law_take) l1 c1 k1
  have b1 := F1.binds (ps := ["draws", "many"]) fun _ _ _ _ _ _ us hl => match us, hl with | [_, _], _ => rfl
  have F2 := fun_mk (st := s_law_row) l2 c2 k2
  have b2 := F2.binds (ps := ["draws", "most"]) fun _ _ _ _ _ _ us hl => match us, hl with | [_, _], _ => rfl
  have F3 := fun_mk (st := s_law_pieces) l3 c3 k3
  have b3 := F3.binds (ps := ["draws", "row"]) fun _ _ _ _ _ _ us hl => match us, hl with | [_, _], _ => rfl
  have F4 := fun_mk (st := s_law_fewest) l4 c4 k4
  have b4 := F4.binds (ps := ["row", "bound"]) fun _ _ _ _ _ _ us hl => match us, hl with | [_, _], _ => rfl
  have F5 := fun_mk (st := s_law_greatest) l5 c5 k5
  have b5 := F5.binds (ps := ["row", "many"]) fun _ _ _ _ _ _ us hl => match us, hl with | [_, _], _ => rfl
  have F6 := fun_mk (st := s_law_stretches) l6 c6 k6
  have b6 := F6.binds (ps := ["row", "bound"]) fun _ _ _ _ _ _ us hl => match us, hl with | [_, _], _ => rfl
  have F7 := fun_mk (st := s_law_free) l7 c7 k7
  have b7 := F7.binds (ps := ["draws", "row", "many"]) fun _ _ _ _ _ _ us hl => match us, hl with | [_, _, _], _ => rfl
  have F8 := fun_mk (st := s_law_odd) l8 c8 k8
  have b8 := F8.binds (ps := ["draws"]) fun _ _ _ _ _ _ us hl => match us, hl with | [_], _ => rfl
  have F9 := fun_mk (st := s_law_spoilt) l9 c9 k9
  have b9 := F9.binds (ps := ["draws", "some", "size"]) fun _ _ _ _ _ _ us hl => match us, hl with | [_, _, _], _ => rfl
  have F10 := fun_mk (st := s_law_things) l10 c10 k10
  have b10 := F10.binds (ps := ["draws", "row", "many"]) fun _ _ _ _ _ _ us hl => match us, hl with | [_, _, _], _ => rfl
  have F11 := fun_mk (st := s_law_among) l11 c11 k11
  have b11 := F11.binds (ps := ["thing", "low", "high"]) fun _ _ _ _ _ _ us hl => match us, hl with | [_, _, _], _ => rfl
  have F12 := fun_mk (st := s_law_says_greatest) l12 c12 k12
  have b12 := F12.binds (ps := ["row", "many", "thing"]) fun _ _ _ _ _ _ us hl => match us, hl with | [_, _, _], _ => rfl
  have F13 := fun_mk (st := s_is_whole) l13 c13 k13
  have b13 := F13.binds (ps := ["thing"]) fun _ _ _ _ _ _ us hl => match us, hl with | [_], _ => rfl
  have F14 := fun_mk (st := s_is_within) l14 c14 k14
  have b14 := F14.binds (ps := ["thing", "low", "high"]) fun _ _ _ _ _ _ us hl => match us, hl with | [_, _, _], _ => rfl
  have F15 := fun_mk (st := s_check_many) l15 c15 k15
  have b15 := F15.binds (ps := ["row", "many"]) fun _ _ _ _ _ _ us hl => match us, hl with | [_, _], _ => rfl
  have F16 := fun_mk (st := s_is_stretch) l16 c16 k16
  have b16 := F16.binds (ps := ["row", "thing", "least"]) fun _ _ _ _ _ _ us hl => match us, hl with | [_, _, _], _ => rfl
  have F17 := fun_mk (st := s_are_stretches) l17 c17 k17
  have b17 := F17.binds (ps := ["row", "many", "thing"]) fun _ _ _ _ _ _ us hl => match us, hl with | [_, _, _], _ => rfl
  have F18 := fun_mk (st := s_says_greatest) l18 c18 k18
  have b18 := F18.binds (ps := ["row", "many", "thing"]) fun _ _ _ _ _ _ us hl => match us, hl with | [_, _, _], _ => rfl
  have F19 := fun_mk (st := s_law_whole) l19 c19 k19
  have b19 := F19.binds (ps := ["thing"]) fun _ _ _ _ _ _ us hl => match us, hl with | [_], _ => rfl
  have F20 := fun_mk (st := s_law_right) l20 c20 k20
  have b20 := F20.binds (ps := ["row", "many", "thing"]) fun _ _ _ _ _ _ us hl => match us, hl with | [_, _, _], _ => rfl
  have F21 := fun_mk (st := s_law_deep) l21 c21 k21
  have b21 := F21.binds (ps := ["many"]) fun _ _ _ _ _ _ us hl => match us, hl with | [_], _ => rfl
  have F22 := fun_mk (st := s_law) l22 c22 k22
  have b22 := F22.binds (ps := ["script"]) fun _ _ _ _ _ _ us hl => match us, hl with | [_], _ => rfl
  have B : Bl mg := ⟨PySem.W.mg_none_of X G z0, PySem.W.mg_none_of X G z1, PySem.W.mg_none_of X G z2, PySem.W.mg_none_of X G z3, PySem.W.mg_none_of X G z4, PySem.W.mg_none_of X G z5, PySem.W.mg_none_of X G z6, PySem.W.mg_none_of X G z7, PySem.W.mg_none_of X G z8, PySem.W.mg_none_of X G z9, PySem.W.mg_none_of X G z10, PySem.W.mg_none_of X G z11, PySem.W.mg_none_of X G z12, PySem.W.mg_none_of X G z13, PySem.W.mg_none_of X G z14, PySem.W.mg_none_of X G z15, PySem.W.mg_none_of X G z16, PySem.W.mg_none_of X G z17⟩
  refine ⟨PySem.W.fnOf "law" "law" (defArgs s_law) (defBody s_law) (defScope s_law) .none kV22 dc22 pm22 an22 cd22 ct22, fun s v => .of_eq rfl, fun base _ _ => ?_⟩
  have D_law_draws : Def l.prog w K mg base 1 "_law_draws" ["script"] (sp_law_draws K) := ⟨f0, _, ok_law_draws (P := l.prog) (w := w) (base := base) B  F0, b0, k0, PySem.W.mg_of X G a0⟩
  have D_law_take : Def l.prog w K mg base 1 "_law_take" ["draws", "many"] sp_law_take := ⟨f1, _, ok_law_take (P := l.prog) (w := w) (base := base) B  F1, b1, k1, PySem.W.mg_of X G a1⟩
  have D_law_row : Def l.prog w K mg base 2 "_law_row" ["draws", "most"] sp_law_row := ⟨f2, _, ok_law_row (P := l.prog) (w := w) (base := base) B D_law_take F2, b2, k2, PySem.W.mg_of X G a2⟩
  have D_law_pieces : Def l.prog w K mg base 2 "_law_pieces" ["draws", "row"] sp_law_pieces := ⟨f3, _, ok_law_pieces (P := l.prog) (w := w) (base := base) B D_law_take F3, b3, k3, PySem.W.mg_of X G a3⟩
  have D_law_fewest : Def l.prog w K mg base 1 "_law_fewest" ["row", "bound"] sp_law_fewest := ⟨f4, _, ok_law_fewest (P := l.prog) (w := w) (base := base) B  F4, b4, k4, PySem.W.mg_of X G a4⟩
  have D_law_greatest : Def l.prog w K mg base 2 "_law_greatest" ["row", "many"] sp_law_greatest := ⟨f5, _, ok_law_greatest (P := l.prog) (w := w) (base := base) B D_law_fewest F5, b5, k5, PySem.W.mg_of X G a5⟩
  have D_law_stretches : Def l.prog w K mg base 1 "_law_stretches" ["row", "bound"] sp_law_stretches := ⟨f6, _, ok_law_stretches (P := l.prog) (w := w) (base := base) B  F6, b6, k6, PySem.W.mg_of X G a6⟩
  have D_law_free : Def l.prog w K mg base 2 "_law_free" ["draws", "row", "many"] sp_law_free := ⟨f7, _, ok_law_free (P := l.prog) (w := w) (base := base) B D_law_take F7, b7, k7, PySem.W.mg_of X G a7⟩
  have D_law_odd : Def l.prog w K mg base 2 "_law_odd" ["draws"] sp_law_odd := ⟨f8, _, ok_law_odd (P := l.prog) (w := w) (base := base) B D_law_take F8, b8, k8, PySem.W.mg_of X G a8⟩
  have D_law_spoilt : Def l.prog w K mg base 3 "_law_spoilt" ["draws", "some", "size"] sp_law_spoilt := ⟨f9, _, ok_law_spoilt (P := l.prog) (w := w) (base := base) B D_law_take D_law_odd F9, b9, k9, PySem.W.mg_of X G a9⟩
  have D_law_things : Def l.prog w K mg base 4 "_law_things" ["draws", "row", "many"] sp_law_things := ⟨f10, _, ok_law_things (P := l.prog) (w := w) (base := base) B D_law_greatest D_law_take D_law_stretches D_law_free D_law_spoilt F10, b10, k10, PySem.W.mg_of X G a10⟩
  have D_law_among : Def l.prog w K mg base 1 "_law_among" ["thing", "low", "high"] sp_law_among := ⟨f11, _, ok_law_among (P := l.prog) (w := w) (base := base) B  F11, b11, k11, PySem.W.mg_of X G a11⟩
  have D_law_says_greatest : Def l.prog w K mg base 2 "_law_says_greatest" ["row", "many", "thing"] sp_law_says_greatest := ⟨f12, _, ok_law_says_greatest (P := l.prog) (w := w) (base := base) B D_law_among F12, b12, k12, PySem.W.mg_of X G a12⟩
  have D_is_whole : Def l.prog w K mg base 1 "is_whole" ["thing"] sp_is_whole := ⟨f13, _, ok_is_whole (P := l.prog) (w := w) (base := base) B  F13, b13, k13, PySem.W.mg_of X G a13⟩
  have D_is_within : Def l.prog w K mg base 2 "is_within" ["thing", "low", "high"] sp_is_within := ⟨f14, _, ok_is_within (P := l.prog) (w := w) (base := base) B D_is_whole F14, b14, k14, PySem.W.mg_of X G a14⟩
  have D_check_many : Def l.prog w K mg base 3 "check_many" ["row", "many"] sp_check_many := ⟨f15, _, ok_check_many (P := l.prog) (w := w) (base := base) B D_is_within F15, b15, k15, PySem.W.mg_of X G a15⟩
  have D_is_stretch : Def l.prog w K mg base 3 "is_stretch" ["row", "thing", "least"] sp_is_stretch := ⟨f16, _, ok_is_stretch (P := l.prog) (w := w) (base := base) B D_is_within F16, b16, k16, PySem.W.mg_of X G a16⟩
  have D_are_stretches : Def l.prog w K mg base 4 "are_stretches" ["row", "many", "thing"] sp_are_stretches := ⟨f17, _, ok_are_stretches (P := l.prog) (w := w) (base := base) B D_is_stretch F17, b17, k17, PySem.W.mg_of X G a17⟩
  have D_says_greatest : Def l.prog w K mg base 5 "says_greatest" ["row", "many", "thing"] sp_says_greatest := ⟨f18, _, ok_says_greatest (P := l.prog) (w := w) (base := base) B D_check_many D_is_within D_are_stretches F18, b18, k18, PySem.W.mg_of X G a18⟩
  have D_law_whole : Def l.prog w K mg base 1 "_law_whole" ["thing"] sp_law_whole := ⟨f19, _, ok_law_whole (P := l.prog) (w := w) (base := base) B  F19, b19, k19, PySem.W.mg_of X G a19⟩
  have D_law_right : Def l.prog w K mg base 6 "_law_right" ["row", "many", "thing"] sp_law_right := ⟨f20, _, ok_law_right (P := l.prog) (w := w) (base := base) B D_law_says_greatest D_says_greatest D_law_whole F20, b20, k20, PySem.W.mg_of X G a20⟩
  have D_law_deep : Def l.prog w K mg base 1 "_law_deep" ["many"] sp_law_deep := ⟨f21, _, ok_law_deep (P := l.prog) (w := w) (base := base) B  F21, b21, k21, PySem.W.mg_of X G a21⟩
  exact ok_law (P := l.prog) (w := w) (base := base) B D_law_draws D_law_row D_law_pieces D_law_things D_law_right D_law_deep D_says_greatest F22
theorem walk {l : PySem.W.OpenLaw} {q : Program} {loose : List Str} {XP : (Str → Option Value) → Heap → Prop} {YP : World → Heap → Prop} {d : DefRec} {K : Params → PySem.W.Frag} (hn : l.most = some 63) (hdf : d.params.defaults = [])
    (hY : ∀ (w : World) (h : Heap), YP w h → (K w.params).In h)
    (F : ∀ (w : World) (mg : Str → Option Value) (fa : Addr) (h : Heap), (K w.params).In h → h.Ns mainGlobals mg → mg d.name = some (.ref fa) →
      ∃ fd : FuncData, (∀ (s : Shared) (u : Value), BindsTo s fd ⟨[u], []⟩ [("script", u)]) ∧ ∀ base : Heap, (K w.params).In base → base.Ns mainGlobals mg → FnOk l.prog w (K w.params) mg base CX0 7 fa fd ["script"] (sp_law (K w.params))) :
    PySem.W.WalkO q loose XP YP l.row.toRowW d [] (fun f vs => PySem.call f vs) :=
  L2.walk_of (n := 63) (k := 7) (x := "script") (CX := fun _ => CX0) (sp := fun w => sp_law (K w.params)) hn (by decide) hdf ⟨rfl, by decide, by decide, rfl⟩ hY F (fun _ _ a ns hl _ hS => ⟨a, ns, rfl, hS, hl, fun _ => rfl⟩) fun _ _ _ _ _ z => z
end K
namespace PySem.W.Fast
theorem tw10002714969769717684 : True := ⟨⟩
theorem tw10059521703391139271 : True := ⟨⟩
theorem tw1017913312085866500 : True := ⟨⟩
theorem tw10369620319831321797 : True := ⟨⟩
theorem tw10724963314784471196 : True := ⟨⟩
theorem tw10731586823010417980 : True := ⟨⟩
theorem tw10819035217547830963 : True := ⟨⟩
theorem tw10866830518509770722 : True := ⟨⟩
theorem tw11011477855236362458 : True := ⟨⟩
theorem tw11148026480499813125 : True := ⟨⟩
theorem tw11262004784192306933 : True := ⟨⟩
theorem tw1129172171891565913 : True := ⟨⟩
theorem tw114017315260322708 : True := ⟨⟩
theorem tw11422924113599313587 : True := ⟨⟩
theorem tw11472585849841282086 : True := ⟨⟩
theorem tw11499530071840390915 : True := ⟨⟩
theorem tw11508274008328710650 : True := ⟨⟩
theorem tw11619049956299691456 : True := ⟨⟩
theorem tw11754532848944157979 : True := ⟨⟩
theorem tw11879359173488760450 : True := ⟨⟩
theorem tw11937073314959621114 : True := ⟨⟩
theorem tw11950657989656775062 : True := ⟨⟩
theorem tw12043945458577856483 : True := ⟨⟩
theorem tw12092869111278236262 : True := ⟨⟩
theorem tw12117355200516430523 : True := ⟨⟩
theorem tw12119883881573338704 : True := ⟨⟩
theorem tw12314436225541129455 : True := ⟨⟩
theorem tw12347710522523182932 : True := ⟨⟩
theorem tw12607472781080807367 : True := ⟨⟩
theorem tw12742598486731831793 : True := ⟨⟩
theorem tw12806158074896505483 : True := ⟨⟩
theorem tw12855979092109832777 : True := ⟨⟩
theorem tw12883236959612712093 : True := ⟨⟩
theorem tw12985365387682321425 : True := ⟨⟩
theorem tw13014395007047606047 : True := ⟨⟩
theorem tw13200918405626078289 : True := ⟨⟩
theorem tw13229052932622477324 : True := ⟨⟩
theorem tw13233789565408167137 : True := ⟨⟩
theorem tw13410391930672630548 : True := ⟨⟩
theorem tw1343130673849281496 : True := ⟨⟩
theorem tw13458122060260983634 : True := ⟨⟩
theorem tw13642351681620972051 : True := ⟨⟩
theorem tw13720857032557444394 : True := ⟨⟩
theorem tw13743233054620809159 : True := ⟨⟩
theorem tw13807194334281417309 : True := ⟨⟩
theorem tw14005976430606820273 : True := ⟨⟩
theorem tw14119189050309571435 : True := ⟨⟩
theorem tw14188310949682148911 : True := ⟨⟩
theorem tw14345542669514218138 : True := ⟨⟩
theorem tw14400458136440053204 : True := ⟨⟩
theorem tw14404780313894405794 : True := ⟨⟩
theorem tw14428115770291555535 : True := ⟨⟩
theorem tw14496520005986024650 : True := ⟨⟩
theorem tw14588129276015171407 : True := ⟨⟩
theorem tw14780757883476802200 : True := ⟨⟩
theorem tw14798965583463407273 : True := ⟨⟩
theorem tw14933073300077066007 : True := ⟨⟩
theorem tw14940137355036487060 : True := ⟨⟩
theorem tw1497481364770166729 : True := ⟨⟩
theorem tw14992021327153417190 : True := ⟨⟩
theorem tw14995382151279747433 : True := ⟨⟩
theorem tw15050228475426610328 : True := ⟨⟩
theorem tw15078631614317429216 : True := ⟨⟩
theorem tw15113488076278168776 : True := ⟨⟩
theorem tw15141574137612243498 : True := ⟨⟩
theorem tw15155228101868564183 : True := ⟨⟩
theorem tw15244257520685899908 : True := ⟨⟩
theorem tw15295053118073202847 : True := ⟨⟩
theorem tw15322807167353694750 : True := ⟨⟩
theorem tw1534856122423459432 : True := ⟨⟩
theorem tw15475581014183793979 : True := ⟨⟩
theorem tw15539604733457137556 : True := ⟨⟩
theorem tw15717256260434813179 : True := ⟨⟩
theorem tw15738356340837023968 : True := ⟨⟩
theorem tw15754767202416020951 : True := ⟨⟩
theorem tw15758678723414879319 : True := ⟨⟩
theorem tw15808324145536152974 : True := ⟨⟩
theorem tw15822606997466372326 : True := ⟨⟩
theorem tw15852494705969554930 : True := ⟨⟩
theorem tw15895309496492825400 : True := ⟨⟩
theorem tw15913599668234236343 : True := ⟨⟩
theorem tw1598223199411477370 : True := ⟨⟩
theorem tw16007210110684293977 : True := ⟨⟩
theorem tw1604784868359714490 : True := ⟨⟩
theorem tw16153427534518197135 : True := ⟨⟩
theorem tw16368560084957308683 : True := ⟨⟩
theorem tw16629886627666887157 : True := ⟨⟩
theorem tw16651919208296141677 : True := ⟨⟩
theorem tw16658175239179955949 : True := ⟨⟩
theorem tw16671453771474106064 : True := ⟨⟩
theorem tw1671299468134323513 : True := ⟨⟩
theorem tw1685761806796939999 : True := ⟨⟩
theorem tw16872212036091427311 : True := ⟨⟩
theorem tw16971125944751465996 : True := ⟨⟩
theorem tw17084254966713539560 : True := ⟨⟩
theorem tw17188589195548404831 : True := ⟨⟩
theorem tw17200796331895709925 : True := ⟨⟩
theorem tw17379799479423989211 : True := ⟨⟩
theorem tw17518335300653718658 : True := ⟨⟩
theorem tw17535634136264934057 : True := ⟨⟩
theorem tw17567533904301254305 : True := ⟨⟩
theorem tw17675364785182119913 : True := ⟨⟩
theorem tw17734632918259369127 : True := ⟨⟩
theorem tw17833833203648669817 : True := ⟨⟩
theorem tw18098708687832570692 : True := ⟨⟩
theorem tw18137275361280698476 : True := ⟨⟩
theorem tw18170836508519342785 : True := ⟨⟩
theorem tw18362715577492561551 : True := ⟨⟩
theorem tw18421775434707495760 : True := ⟨⟩
theorem tw18442512892636816257 : True := ⟨⟩
theorem tw1933356787611743042 : True := ⟨⟩
theorem tw1972956203186671422 : True := ⟨⟩
theorem tw197888163902383644 : True := ⟨⟩
theorem tw224040413889027039 : True := ⟨⟩
theorem tw2293246121275340255 : True := ⟨⟩
theorem tw2722260712375927652 : True := ⟨⟩
theorem tw2948271315335221855 : True := ⟨⟩
theorem tw3078249115504207099 : True := ⟨⟩
theorem tw3137174002982510119 : True := ⟨⟩
theorem tw3375509041396215692 : True := ⟨⟩
theorem tw3548326323746063941 : True := ⟨⟩
theorem tw3768446506362252385 : True := ⟨⟩
theorem tw3927178621337637190 : True := ⟨⟩
theorem tw4023887982338507198 : True := ⟨⟩
theorem tw4032367730894767514 : True := ⟨⟩
theorem tw4204145805317724701 : True := ⟨⟩
theorem tw4527011888195076329 : True := ⟨⟩
theorem tw4557667837065605242 : True := ⟨⟩
theorem tw4565431776255151362 : True := ⟨⟩
theorem tw4579543207089459641 : True := ⟨⟩
theorem tw458381909048372152 : True := ⟨⟩
theorem tw4654061936630610292 : True := ⟨⟩
theorem tw467193254716575638 : True := ⟨⟩
theorem tw4736105743826355130 : True := ⟨⟩
theorem tw4936757032049054982 : True := ⟨⟩
theorem tw4981404686867281713 : True := ⟨⟩
theorem tw5076543542735976882 : True := ⟨⟩
theorem tw5158530376158137295 : True := ⟨⟩
theorem tw53369812305958957 : True := ⟨⟩
theorem tw5503629061238465084 : True := ⟨⟩
theorem tw5607585693431784357 : True := ⟨⟩
theorem tw5939924795261549297 : True := ⟨⟩
theorem tw6132519454037858273 : True := ⟨⟩
theorem tw6426097852781033994 : True := ⟨⟩
theorem tw6440675693858470766 : True := ⟨⟩
theorem tw6537395469589527980 : True := ⟨⟩
theorem tw6710273698787954591 : True := ⟨⟩
theorem tw6761463627781621018 : True := ⟨⟩
theorem tw6771462206425743856 : True := ⟨⟩
theorem tw6954467711268864388 : True := ⟨⟩
theorem tw723021290426186396 : True := ⟨⟩
theorem tw7276515232526468814 : True := ⟨⟩
theorem tw7331233521807690350 : True := ⟨⟩
theorem tw7603442762421636155 : True := ⟨⟩
theorem tw7651778243017521654 : True := ⟨⟩
theorem tw7796696642966654353 : True := ⟨⟩
theorem tw7856648725396820927 : True := ⟨⟩
theorem tw7913850717366840300 : True := ⟨⟩
theorem tw8001852702980811253 : True := ⟨⟩
theorem tw8014336282911406582 : True := ⟨⟩
theorem tw8032117556502405093 : True := ⟨⟩
theorem tw8046842450417136132 : True := ⟨⟩
theorem tw8342950168925464164 : True := ⟨⟩
theorem tw8452239277133337473 : True := ⟨⟩
theorem tw8574378484975043598 : True := ⟨⟩
theorem tw8687299688300794617 : True := ⟨⟩
theorem tw869474637190252066 : True := ⟨⟩
theorem tw8708977124624700901 : True := ⟨⟩
theorem tw8921519985312414483 : True := ⟨⟩
theorem tw8964695799962023685 : True := ⟨⟩
theorem tw8979635422489316400 : True := ⟨⟩
theorem tw9017259513962923472 : True := ⟨⟩
theorem tw9147897768351099272 : True := ⟨⟩
theorem tw946175035490894582 : True := ⟨⟩
theorem tw9644070658065158239 : True := ⟨⟩
theorem tw9737293470542980097 : True := ⟨⟩
theorem tw9938184933555607960 : True := ⟨⟩
theorem tw9955688618696243678 : True := ⟨⟩
theorem tw9986582022783700307 : True := ⟨⟩
end PySem.W.Fast
open PySem PySem.W PyProof.Rows
set_option maxRecDepth 100000 in
set_option maxHeartbeats 0 in
theorem PySem.Challenge.cw_piecebounds_k35_papers_of_the_greatest_j_holds : PySem.Challenge.rw_piecebounds_k35_papers_of_the_greatest_j.Holds := by
  w_on; o_law; k_head; (case hw => w_witness2)
  k_fill
  refine K.walk (l := PySem.Challenge.rw_piecebounds_k35_papers_of_the_greatest_j) rfl rfl (fun w h Y => PySem.W.kIn_of Y) ?F
  case F =>
    intro w mg fa h KX G hmg
    refine' K.all_mk KX G hmg ?a0 ?l0 ?c0 ?k0 ?a1 ?l1 ?c1 ?k1 ?a2 ?l2 ?c2 ?k2 ?a3 ?l3 ?c3 ?k3 ?a4 ?l4 ?c4 ?k4 ?a5 ?l5 ?c5 ?k5 ?a6 ?l6 ?c6 ?k6 ?a7 ?l7 ?c7 ?k7 ?a8 ?l8 ?c8 ?k8 ?a9 ?l9 ?c9 ?k9 ?a10 ?l10 ?c10 ?k10 ?a11 ?l11 ?c11 ?k11 ?a12 ?l12 ?c12 ?k12 ?a13 ?l13 ?c13 ?k13 ?a14 ?l14 ?c14 ?k14 ?a15 ?l15 ?c15 ?k15 ?a16 ?l16 ?c16 ?k16 ?a17 ?l17 ?c17 ?k17 ?a18 ?l18 ?c18 ?k18 ?a19 ?l19 ?c19 ?k19 ?a20 ?l20 ?c20 ?k20 ?a21 ?l21 ?c21 ?k21 ?a22 ?l22 ?c22 ?k22 ?z0 ?z1 ?z2 ?z3 ?z4 ?z5 ?z6 ?z7 ?z8 ?z9 ?z10 ?z11 ?z12 ?z13 ?z14 ?z15 ?z16 ?z17
    (case a0 => k_is); (case l0 => k_is); (case c0 => k_is); (case k0 => k_is); (case a1 => k_is); (case l1 => k_is); (case c1 => k_is); (case k1 => k_is); (case a2 => k_is); (case l2 => k_is); (case c2 => k_is); (case k2 => k_is); (case a3 => k_is); (case l3 => k_is); (case c3 => k_is); (case k3 => k_is); (case a4 => k_is); (case l4 => k_is); (case c4 => k_is); (case k4 => k_is); (case a5 => k_is); (case l5 => k_is); (case c5 => k_is); (case k5 => k_is); (case a6 => k_is); (case l6 => k_is); (case c6 => k_is); (case k6 => k_is); (case a7 => k_is); (case l7 => k_is); (case c7 => k_is); (case k7 => k_is); (case a8 => k_is); (case l8 => k_is); (case c8 => k_is); (case k8 => k_is); (case a9 => k_is); (case l9 => k_is); (case c9 => k_is); (case k9 => k_is); (case a10 => k_is); (case l10 => k_is); (case c10 => k_is); (case k10 => k_is); (case a11 => k_is); (case l11 => k_is); (case c11 => k_is); (case k11 => k_is); (case a12 => k_is); (case l12 => k_is); (case c12 => k_is); (case k12 => k_is); (case a13 => k_is); (case l13 => k_is); (case c13 => k_is); (case k13 => k_is); (case a14 => k_is); (case l14 => k_is); (case c14 => k_is); (case k14 => k_is); (case a15 => k_is); (case l15 => k_is); (case c15 => k_is); (case k15 => k_is); (case a16 => k_is); (case l16 => k_is); (case c16 => k_is); (case k16 => k_is); (case a17 => k_is); (case l17 => k_is); (case c17 => k_is); (case k17 => k_is); (case a18 => k_is); (case l18 => k_is); (case c18 => k_is); (case k18 => k_is); (case a19 => k_is); (case l19 => k_is); (case c19 => k_is); (case k19 => k_is); (case a20 => k_is); (case l20 => k_is); (case c20 => k_is); (case k20 => k_is); (case a21 => k_is); (case l21 => k_is); (case c21 => k_is); (case k21 => k_is); (case a22 => k_is); (case l22 => k_is); (case c22 => k_is); (case k22 => k_is); (case z0 => k_is); (case z1 => k_is); (case z2 => k_is); (case z3 => k_is); (case z4 => k_is); (case z5 => k_is); (case z6 => k_is); (case z7 => k_is); (case z8 => k_is); (case z9 => k_is); (case z10 => k_is); (case z11 => k_is); (case z12 => k_is); (case z13 => k_is); (case z14 => k_is); (case z15 => k_is); (case z16 => k_is); (case z17 => k_is)

