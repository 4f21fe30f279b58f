import PyProof.Rows.All
import Wide.All
import OpenK.AllK
import Wide.FinOn
import Lean
import PyProof.EqAt
import PyProof.EqKinds
import PyProof.TupleCall
import PySem.Challenge.RW_piecebounds_k38_whole_papers_and_cuts
set_option Elab.async false
set_option linter.all false
set_option maxRecDepth 100000
namespace L2
open PySem PySem.Spec PyProof.Rows
abbrev Key := Sum Int Str
def keyIs : Key → Value → Bool
  | .inl k, v => Value.isInt k v
  | .inr x, v => Value.isStrOf x v
def keyH (w : World) : Key → Int
  | .inl k => hashInt k
  | .inr x => hashStr w x
theorem keyIs_shape : ∀ {k : Key} {v : Value}, keyIs k v = true → (∃ i t, k = Sum.inl i ∧ v = Value.int i t) ∨ (∃ x t, k = Sum.inr x ∧ v = Value.str x t)
  | .inl i, v, h => by
    obtain ⟨t, e⟩ := Value.isInt_shape (k := i) (v := v) h
    exact .inl ⟨i, t, rfl, e⟩
  | .inr x, v, h => by
    obtain ⟨t, e⟩ := Value.isStrOf_shape (x := x) (v := v) h
    exact .inr ⟨x, t, rfl, e⟩
theorem key_ll (a b : Int) : decide ((Sum.inl a : Key) = Sum.inl b) = (a == b) := by
  by_cases e : a = b
  · subst e; simp
  · have h : ¬ (Sum.inl a : Key) = Sum.inl b := fun q => e (Sum.inl.inj q)
    rw [decide_eq_false h]
    exact (beq_eq_false_iff_ne.mpr e).symm
theorem key_rr (a b : Str) : decide ((Sum.inr a : Key) = Sum.inr b) = decide (a = b) := by
  by_cases e : a = b
  · subst e; simp
  · have h : ¬ (Sum.inr a : Key) = Sum.inr b := fun q => e (Sum.inr.inj q)
    rw [decide_eq_false h, decide_eq_false e]
theorem key_lr (a : Int) (b : Str) : decide ((Sum.inl a : Key) = Sum.inr b) = false := decide_eq_false (fun q => nomatch q)
theorem key_rl (a : Str) (b : Int) : decide ((Sum.inr a : Key) = Sum.inl b) = false := decide_eq_false (fun q => nomatch q)
def mixKind (prog : Program) (w : World) : PySem.KeyKind prog w Key where
  is := keyIs
  hash := keyH w
  inj := fun v a b ha hb => by
    rcases keyIs_shape ha with ⟨i, t, rfl, rfl⟩ | ⟨x, t, rfl, rfl⟩
    · rcases keyIs_shape hb with ⟨j, u, rfl, e⟩ | ⟨y, u, rfl, e⟩
      · injection e with e1 _; rw [e1]
      · exact nomatch e
    · rcases keyIs_shape hb with ⟨j, u, rfl, e⟩ | ⟨y, u, rfl, e⟩
      · exact nomatch e
      · injection e with e1 _; rw [e1]
  byValue := fun k v h => by
    rcases keyIs_shape h with ⟨i, t, rfl, rfl⟩ | ⟨x, t, rfl, rfl⟩ <;> rfl
  pyHash := fun hv h => by
    rcases keyIs_shape hv with ⟨i, t, rfl, rfl⟩ | ⟨x, t, rfl, rfl⟩
    · exact wpAny_pyHash_int h
    · exact wpAny_pyHash_str h
  eqBool := fun hu hv h => by
    rcases keyIs_shape hu with ⟨i, t, rfl, rfl⟩ | ⟨x, t, rfl, rfl⟩
    · rcases keyIs_shape hv with ⟨j, u, rfl, rfl⟩ | ⟨y, u, rfl, rfl⟩
      · rw [key_ll] at h; exact wpAny_eqBool_int h
      · rw [key_lr] at h; exact SeqAt.EqAt.int_str i t y u _ _ _ _ h
    · rcases keyIs_shape hv with ⟨j, u, rfl, rfl⟩ | ⟨y, u, rfl, rfl⟩
      · rw [key_rl] at h; exact SeqAt.EqAt.str_int x t j u _ _ _ _ h
      · rw [key_rr] at h; exact wpAny_eqBool_str h
  «strs» := fun k x t v h => by
    rcases keyIs_shape h with ⟨i, u, rfl, e⟩ | ⟨y, u, rfl, e⟩
    · exact nomatch e
    · injection e with e1 _
      subst e1
      cases v <;> rfl
end L2
namespace L2
open PySem PySem.Spec PyProof.Rows
inductive V where
  | non | bl (b : Bool) | int (i : Int) | str (x : Str) | byt (b : Array UInt8) | flt (b : UInt64) | ref (a : Addr) | ty (n : String)
  deriving DecidableEq
def RelV : V → Value → Prop
  | .non, u => u = Value.none
  | .bl b, u => u = Value.bool b
  | .int i, u => ∃ t, u = Value.int i t
  | .str x, u => ∃ t, u = Value.str x t
  | .byt b, u => ∃ t, u = Value.bytes b t
  | .flt b, u => ∃ t, u = Value.float b t
  | .ref a, u => u = Value.ref a
  | .ty n, u => u = Value.type n
abbrev Vals : List V → List Value → Prop := Paired RelV
theorem Vals.length {xs : List V} {us : List Value} (r : Vals xs us) : xs.length = us.length := Paired.length r
theorem Vals.get : ∀ {xs : List V} {us : List Value} {i : Nat} {x : V}, Vals xs us → xs[i]? = some x → ∃ u, us[i]? = some u ∧ RelV x u
  | _, _, _, _, .nil, e => by simp at e
  | _, _, 0, _, .cons r _, e => by simp at e; subst e; exact ⟨_, rfl, r⟩
  | _, _, i + 1, x, .cons _ t, e => by
    obtain ⟨u, h1, h2⟩ := Vals.get (i := i) (x := x) t (by simpa using e)
    exact ⟨u, by simpa using h1, h2⟩
theorem Vals.set {x : V} {u : Value} (r : RelV x u) : ∀ {xs : List V} {us : List Value} (i : Nat), Vals xs us → Vals (xs.set i x) (us.set i u)
  | _, _, _, .nil => .nil
  | _, _, 0, .cons _ t => .cons r t
  | _, _, i + 1, .cons q t => .cons q (Vals.set r i t)
theorem Vals.append : ∀ {xs ys : List V} {us ws : List Value}, Vals xs us → Vals ys ws → Vals (xs ++ ys) (us ++ ws)
  | _, _, _, _, .nil, s => s
  | _, _, _, _, .cons r t, s => .cons r (Vals.append t s)
theorem Vals.take : ∀ {xs : List V} {us : List Value} (n : Nat), Vals xs us → Vals (xs.take n) (us.take n)
  | _, _, 0, _ => .nil
  | _, _, _ + 1, .nil => .nil
  | _, _, n + 1, .cons r t => .cons r (Vals.take n t)
theorem Vals.drop : ∀ {xs : List V} {us : List Value} (n : Nat), Vals xs us → Vals (xs.drop n) (us.drop n)
  | _, _, 0, r => r
  | _, _, _ + 1, .nil => .nil
  | _, _, n + 1, .cons _ t => Vals.drop n t
def RelO : Option V → Option Value → Prop
  | some v, some u => RelV v u
  | none, none => True
  | _, _ => False
def KV {κ : Type} : List (κ × V) → List (κ × Value) → Prop := Paired fun (p : κ × V) (q : κ × Value) => p.1 = q.1 ∧ RelV p.2 q.2
def kV : Key → V
  | .inl i => .int i
  | .inr x => .str x
inductive HO where
    | lst (xs : List V)
    | tup (xs : List V)
    | dK (kvs : List (Key × V)) | dT (kvs : List (List Key × V))
    | set (S : Int → Bool) (n : Nat)
    | ins (C dx : Addr) (fs : List (Str × V))
    | own (x : Addr)
    | xd (fs : List (Str × V))
    | met (f x : Addr)
    | rng (lo hi : Int)
    | frz (o : Obj) (u : HO)
    | tbl (ps : Array Value)
    | ext (φ : Heap → Prop)
abbrev Hp := Addr → Option HO
def upd (H : Hp) (a : Addr) (o : HO) : Hp := fun b => if b = a then some o else H b
theorem upd_same {H : Hp} {a : Addr} {o : HO} : upd H a o a = some o := by unfold upd; rw [if_pos rfl]
theorem upd_ne {H : Hp} {a b : Addr} {o : HO} (h : b ≠ a) : upd H a o b = H b := by unfold upd; rw [if_neg h]
theorem ne_of_none {H : Hp} {a b : Addr} {o : HO} (h : H a = some o) (h' : H b = none) : a ≠ b := by
  intro e; subst e; rw [h] at h'; cases h'
section
variable (P : Program) (w : World)
def ObjOk (H : Hp) (h : Heap) (a : Addr) : HO → Prop
  | .lst xs => xs.length ≤ sizeLine ∧ ∃ (its : List Value) (n : Nat), Vals xs its ∧ h.get? a = some { cls := .type "list", data := .seq its.toArray n }
  | .tup xs => xs.length ≤ sizeLine ∧ ∃ its : List Value, Vals xs its ∧ IsTup h a its.toArray
  | .dK kvs => kvs.length ≤ sizeLine ∧ (a == sysModules) = false ∧ ∃ vs, KV kvs vs ∧ h.DictOf (mixKind P w) a vs
  | .dT kvs => kvs.length ≤ sizeLine ∧ (a == sysModules) = false ∧ ∃ xs : List (List Key × Addr × Value),
      Paired (fun (p : List Key × V) (q : List Key × Addr × Value) => p.1 = q.1 ∧ H q.2.1 = some (.tup (p.1.map kV)) ∧ RelV p.2 q.2.2) kvs xs ∧
      ∃ o es ep, h.get? a = some o ∧ o.ExactDict ∧ o.data = .dict es ep ∧ es.toList = xs.map (entryOfKey (tupleKind (mixKind P w))) ∧ (xs.map (·.1)).Nodup
  | .set S n => h.SetOf (intKind P w) a S n
  | .ins C dx fs => H dx = some (.own a) ∧ fs.length ≤ 1000 ∧ dx ≠ a ∧ h.get? a = some (PySem.W.instObj C dx) ∧
      ∃ mA, h.Ns1 dx mA ∧ (∀ f, RelO (fs.lookup f) (mA f)) ∧ PySem.Within mA (fs.map (·.1))
  | .own _ => ∃ o, h.get? a = some o
  | .xd fs => ∃ mA, h.Ns1 a mA ∧ ∀ f, RelO (fs.lookup f) (mA f)
  | .rng lo hi => ∃ t u v, h.get? a = some { cls := .type "range", data := .fields #[.int lo t, .int hi u, .int 1 v] }
  | .frz o u => h.get? a = some o ∧ ObjOk H h a u
  | .tbl ps => h.get? a = some { cls := .none, data := .fields ps }
  | .met f x => h.get? a = some (PySem.W.methodObj (.ref f) (.ref x))
  | .ext φ => φ h ∧ (∃ o, h.get? a = some o) ∧ ∀ h1 h2 : Heap, φ h1 → (∀ o, h1.get? a = some o → h2.get? a = some o) → φ h2
def HOk (H : Hp) (h : Heap) : Prop := ∀ a o, H a = some o → ObjOk P w H h a o
end
section
variable {P : Program} {w : World} {H H' : Hp} {h h' : Heap} {a : Addr} {o : HO}
theorem ObjOk.lt (x : ObjOk P w H h a o) : a < h.objs.size := by
  cases o with
  | lst xs => obtain ⟨_, _, _, _, e⟩ := x; exact Heap.lt_size e
  | tup xs => obtain ⟨_, _, _, p⟩ := x; exact p.lt
  | dK kvs => obtain ⟨_, _, _, _, o, _, _, e, _⟩ := x; exact Heap.lt_size e
  | dT kvs => obtain ⟨_, _, _, _, o, _, _, e, _⟩ := x; exact Heap.lt_size e
  | set S n => obtain ⟨o, _, _, _, e, _⟩ := x; exact Heap.lt_size e
  | ins C dx fs => obtain ⟨_, _, _, e, _⟩ := x; exact Heap.lt_size e
  | own y => obtain ⟨_, e⟩ := x; exact Heap.lt_size e
  | xd fs => obtain ⟨_, ⟨_, _, _, e, _⟩, _⟩ := x; exact Heap.lt_size e
  | rng lo hi => obtain ⟨_, _, _, e⟩ := x; exact Heap.lt_size e
  | frz ob u => obtain ⟨e, _⟩ := x; exact Heap.lt_size e
  | tbl ps => exact Heap.lt_size (show h.get? a = some _ from x)
  | met f y => exact Heap.lt_size (show h.get? a = some _ from x)
  | ext φ => obtain ⟨_, ⟨_, e⟩, _⟩ := x; exact Heap.lt_size e
theorem Paired.mapP {α β : Type} {F G : α → β → Prop} : ∀ {l₁ : List α} {l₂ : List β}, Paired F l₁ l₂ → (∀ a b, F a b → G a b) → Paired G l₁ l₂
  | _, _, .nil, _ => .nil
  | _, _, .cons r t, f => .cons (f _ _ r) (Paired.mapP t f)
theorem ObjOk.stay (x : ObjOk P w H h a o) (k : ∀ b u, (b = a ∨ H b = some (.own a)) → h.get? b = some u → h'.get? b = some u)
    (ho : ∀ b, H b = some (.own a) → H' b = some (.own a)) (ht : ∀ b xs, H b = some (.tup xs) → H' b = some (.tup xs)) : ObjOk P w H' h' a o := by
  induction o with
  | lst xs => obtain ⟨z, its, n, r, e⟩ := x; exact ⟨z, its, n, r, k _ _ (.inl rfl) e⟩
  | tup xs => obtain ⟨z, its, r, ob, e, c⟩ := x; exact ⟨z, its, r, ob, k _ _ (.inl rfl) e, c⟩
  | dK kvs => obtain ⟨z, y, vs, r, ob, es, ep, e, c⟩ := x; exact ⟨z, y, vs, r, ob, es, ep, k _ _ (.inl rfl) e, c⟩
  | dT kvs =>
    obtain ⟨z, y, xs, r, ob, es, ep, e, c⟩ := x
    exact ⟨z, y, xs, Paired.mapP r fun p q z => ⟨z.1, ht _ _ z.2.1, z.2.2⟩, ob, es, ep, k _ _ (.inl rfl) e, c⟩
  | set S n => obtain ⟨ob, es, ep, t, e, c⟩ := x; exact ⟨ob, es, ep, t, k _ _ (.inl rfl) e, c⟩
  | ins C dx fs =>
    obtain ⟨d, z, ne, e, mA, ⟨od, es, ep, e2, c⟩, r⟩ := x
    exact ⟨ho _ d, z, ne, k _ _ (.inl rfl) e, mA, ⟨od, es, ep, k _ _ (.inr d) e2, c⟩, r⟩
  | own y => obtain ⟨ob, e⟩ := x; exact ⟨ob, k _ _ (.inl rfl) e⟩
  | xd fs => obtain ⟨mA, ⟨od, es, ep, e, c⟩, r⟩ := x; exact ⟨mA, ⟨od, es, ep, k _ _ (.inl rfl) e, c⟩, r⟩
  | rng lo hi => obtain ⟨t, u, v, e⟩ := x; exact ⟨t, u, v, k _ _ (.inl rfl) e⟩
  | frz ob u ih => obtain ⟨e, q⟩ := x; exact ⟨k _ _ (.inl rfl) e, ih q⟩
  | tbl ps =>
    have e : h.get? a = some { cls := .none, data := .fields ps } := x
    show h'.get? a = some { cls := .none, data := .fields ps }
    exact k a _ (.inl rfl) e
  | met f y =>
    have e : h.get? a = some (PySem.W.methodObj (.ref f) (.ref y)) := x
    show h'.get? a = some (PySem.W.methodObj (.ref f) (.ref y))
    exact k a _ (.inl rfl) e
  | ext φ => obtain ⟨p, ⟨o, e⟩, st⟩ := x; exact ⟨st _ _ p fun o q => k _ _ (.inl rfl) q, ⟨o, k _ _ (.inl rfl) e⟩, st⟩
theorem HOk.lt (x : HOk P w H h) (e : H a = some o) : a < h.objs.size := (x a o e).lt
theorem HOk.fresh (x : HOk P w H h) (e : h.objs.size ≤ a) : H a = none := by
  cases q : H a with
  | none => rfl
  | some u => exact absurd (Nat.lt_of_lt_of_le (x.lt q) e) (Nat.lt_irrefl _)
theorem HOk.kept (x : HOk P w H h) (k : ∀ b u, h.get? b = some u → h'.get? b = some u) : HOk P w H h' := fun a o e =>
  (x a o e).stay (fun b u _ q => k b u q) (fun _ q => q) fun _ _ q => q
theorem HOk.laid (x : HOk P w H h) (k : ∀ b u, h.get? b = some u → h'.get? b = some u) (hp : h.objs.size ≤ a) (new : ObjOk P w (upd H a o) h' a o) : HOk P w (upd H a o) h' := fun b u e => by
  have hn := x.fresh hp
  by_cases hb : b = a
  · subst hb; rw [upd_same] at e; cases e; exact new
  · rw [upd_ne hb] at e
    exact (x b u e).stay (fun c v _ q => k c v q) (fun c q => by rw [upd_ne (ne_of_none q hn)]; exact q) fun c xs q => by rw [upd_ne (ne_of_none q hn)]; exact q
end
def Rd (H : Hp) (a : Addr) (u : HO) : Prop := H a = some u ∨ ∃ o, H a = some (.frz o u)
theorem Rd.ok {P : Program} {w : World} {H : Hp} {h : Heap} {a : Addr} {u : HO} (r : Rd H a u) (x : HOk P w H h) : ObjOk P w H h a u := by
  rcases r with r | ⟨o, r⟩
  · exact x a u r
  · obtain ⟨_, q⟩ := x a _ r
    exact q
def Mut : Option HO → Prop
  | some (.lst _) => True
  | some (.dK _) => True
  | some (.dT _) => True
  | some (.set _ _) => True
  | some (.ins _ _ _) => True
  | some (.ext _) => True
  | _ => False
section
variable {P : Program} {w : World} {H : Hp} {h h' : Heap} {x e : Addr} {o' : HO}
theorem HOk.write (ok : HOk P w H h) (mu : Mut (H x)) (he : e = x ∨ H e = some (.own x)) (k : ∀ b u, b ≠ e → h.get? b = some u → h'.get? b = some u) (heo : ∃ u, h'.get? e = some u)
    (new : ObjOk P w (upd H x o') h' x o') : HOk P w (upd H x o') h' := fun b u q => by
  have nown : ∀ c y, H c = some (.own y) → c ≠ x := fun c y r z => by subst z; rw [r] at mu; exact mu
  have ntup : ∀ c xs, H c = some (.tup xs) → c ≠ x := fun c xs r z => by subst z; rw [r] at mu; exact mu
  by_cases hb : b = x
  · subst hb; rw [upd_same] at q; cases q; exact new
  · rw [upd_ne hb] at q
    by_cases hbe : b = e
    · have q' : H b = some (.own x) := by
        rcases he with z | z
        · exact absurd (hbe.trans z) hb
        · rw [hbe]; exact z
      rw [q] at q'; cases q'
      obtain ⟨v, hv⟩ := heo
      exact ⟨v, by rw [hbe]; exact hv⟩
    · refine (ok b u q).stay (fun c v hc r => k c v ?_ r) (fun c r => by rw [upd_ne (nown c b r)]; exact r) fun c xs r => by rw [upd_ne (ntup c xs r)]; exact r
      rcases hc with rfl | hc
      · exact hbe
      · rintro rfl
        rcases he with z | z
        · exact nown c b hc z
        · rw [hc] at z; cases z; exact hb rfl
end
structure Un (fs ex : List Addr) (H H' : Hp) (h h' : Heap) : Prop where
  keep : ∀ b o, h.get? b = some o → H b = none → b ∉ fs → b ∉ ex → h'.get? b = some o
  slot : ∀ b o, h.get? b = some o → H b = none → b ∈ fs → b ∉ ex → ∃ sl, h'.get? b = some { o with slots := sl }
  free : ∀ b o, h.get? b = some o → H b = none → b ∉ ex → H' b = none
  there : ∀ b o, h.get? b = some o → b ∉ ex → ∃ o', h'.get? b = some o'
  tups : ∀ b xs, H b = some (.tup xs) → H' b = some (.tup xs)
  frzs : ∀ b o u, H b = some (.frz o u) → H' b = some (.frz o u)
  tbls : ∀ b ps, H b = some (.tbl ps) → ∃ more, H' b = some (.tbl (ps ++ more))
section
variable {fs fs' ex ex' : List Addr} {H H1 H2 : Hp} {h h1 h2 h' : Heap} {a x e : Addr} {o : HO}
theorem Un.any (u : Un fs ex H H1 h h1) {b : Addr} {ob : Obj} (q : h.get? b = some ob) (n : H b = none) (hx : b ∉ ex) : ∃ sl, h1.get? b = some { ob with slots := sl } := by
  by_cases hb : b ∈ fs
  · exact u.slot b ob q n hb hx
  · exact ⟨ob.slots, u.keep b ob q n hb hx⟩
theorem Un.trans (a : Un fs ex H H1 h h1) (b : Un fs ex H1 H2 h1 h2) : Un fs ex H H2 h h2 where
  keep := fun c ob q n hc hx => b.keep c ob (a.keep c ob q n hc hx) (a.free c ob q n hx) hc hx
  slot := fun c ob q n hc hx => by
    obtain ⟨sl, e1⟩ := a.slot c ob q n hc hx
    obtain ⟨sl', e2⟩ := b.slot c _ e1 (a.free c ob q n hx) hc hx
    exact ⟨sl', e2⟩
  free := fun c ob q n hx => by
    obtain ⟨o', e1⟩ := a.there c ob q hx
    exact b.free c o' e1 (a.free c ob q n hx) hx
  there := fun c ob q hx => by
    obtain ⟨o', e1⟩ := a.there c ob q hx
    exact b.there c o' e1 hx
  tups := fun c xs q => b.tups c xs (a.tups c xs q)
  frzs := fun c ob xs q => b.frzs c ob xs (a.frzs c ob xs q)
  tbls := fun c ps q => by
    obtain ⟨m1, e1⟩ := a.tbls c ps q
    obtain ⟨m2, e2⟩ := b.tbls c _ e1
    exact ⟨m1 ++ m2, by rw [e2, Array.append_assoc]⟩
theorem Un.kept (k : ∀ b u, h.get? b = some u → h'.get? b = some u) : Un fs ex H H h h' :=
  ⟨fun b ob q _ _ _ => k b ob q, fun b ob q _ _ _ => ⟨ob.slots, k b ob q⟩, fun _ _ _ n _ => n, fun b ob q _ => ⟨ob, k b ob q⟩, fun _ _ q => q, fun _ _ _ q => q, fun _ ps q => ⟨#[], by rw [q]; simp⟩⟩
theorem Un.refl : Un fs ex H H h h := Un.kept fun _ _ q => q
theorem Un.laid (k : ∀ b u, h.get? b = some u → h'.get? b = some u) (hp : h.objs.size ≤ a) (hn : H a = none) : Un fs ex H (upd H a o) h h' where
  keep := fun b u q _ _ _ => k b u q
  slot := fun b u q _ _ _ => ⟨u.slots, k b u q⟩
  free := fun b u q n _ => by rw [upd_ne (Nat.ne_of_lt (Nat.lt_of_lt_of_le (Heap.lt_size q) hp))]; exact n
  there := fun b u q _ => ⟨u, k b u q⟩
  tups := fun b xs q => by rw [upd_ne (ne_of_none q hn)]; exact q
  frzs := fun b u xs q => by rw [upd_ne (ne_of_none q hn)]; exact q
  tbls := fun b ps q => ⟨#[], by rw [upd_ne (ne_of_none q hn), q]; simp⟩
theorem Un.write (mu : Mut (H x)) (he : e = x ∨ H e = some (.own x)) (k : ∀ b u, b ≠ e → h.get? b = some u → h'.get? b = some u) (heo : ∃ u, h'.get? e = some u) : Un fs ex H (upd H x o) h h' := by
  have hx : ∀ b, H b = none → b ≠ x := fun b n z => by subst z; rw [n] at mu; exact mu
  have hb : ∀ b, H b = none → b ≠ e := fun b n z => by
    subst z
    rcases he with r | r
    · exact hx b n r
    · rw [n] at r; cases r
  have hm : ∀ b u, H b = some u → ¬ Mut (some u) → b ≠ x := fun b u q nm z => by subst z; rw [q] at mu; exact nm mu
  refine ⟨fun b u q n _ _ => k b u (hb b n) q, fun b u q n _ _ => ⟨u.slots, k b u (hb b n) q⟩, fun b u q n _ => by rw [upd_ne (hx b n)]; exact n, fun b u q _ => ?_,
    fun b xs q => by rw [upd_ne (hm b _ q fun z => z)]; exact q, fun b u xs q => by rw [upd_ne (hm b _ q fun z => z)]; exact q, fun b ps q => ⟨#[], by rw [upd_ne (hm b _ q fun z => z), q]; simp⟩⟩
  by_cases hbe : b = e
  · subst hbe; exact heo
  · exact ⟨u, k b u hbe q⟩
end
def trk (h : Heap) (H : Hp) : List Addr := (List.range h.objs.size).filter fun a => (H a).isSome
def hidT (h : Heap) (H : Hp) : Heap := PySem.W.hideAll h (trk h H)
theorem hidT_size (h : Heap) (H : Hp) : (hidT h H).objs.size = h.objs.size := PySem.W.hideAll_size _ _
theorem hidT_get {h : Heap} {H : Hp} {b : Addr} {o : Obj} (e : h.get? b = some o) (n : H b = none) : (hidT h H).get? b = some o :=
  PySem.W.hideAll_get _ e fun hm => by
    have q : (H b).isSome = true := (List.mem_filter.mp hm).2
    rw [n] at q; simp at q
theorem of_hidT {h : Heap} {H : Hp} {b : Addr} {o : Obj} (e : (hidT h H).get? b = some o) : h.get? b = some o ∧ H b = none := by
  have e' : h.get? b = some o := PySem.W.of_hideAll (trk h H) e
  refine ⟨e', ?_⟩
  cases q : H b with
  | none => rfl
  | some x =>
    have hm : b ∈ trk h H := List.mem_filter.mpr ⟨List.mem_range.mpr (Heap.lt_size e'), by simp [q]⟩
    have z : (hidT h H).get? b = none := PySem.W.hideAll_none (trk h H) hm
    rw [z] at e; cases e
end L2
namespace L2
open PySem PySem.Spec PyProof.Rows
structure Mod (K : PySem.W.Frag) (mg : Str → Option Value) (base : Heap) : Prop where
  kin : K.In base
  glob : base.Ns mainGlobals mg
  blt : ∃ mb, base.Ns builtinsNs mb ∧ ∀ x : Str, x ≠ "__name__" → mb x = bootBuiltins x
  nolimit : base.NoLimit
structure Cx where
  prog : Program
  w : World
  K : PySem.W.Frag
  mg : Str → Option Value
  base : Heap
  A : Around
  N : List Str
  s₀ : Shared
  H₀ : Hp
  env : Env
  outer : List Env
  stack : List Env
  ex : List Addr
  fn : Str → Bool
  calm : Bool
  pn : List (Addr × Obj)
  xe : Value → Shared → Prop
def frs (l : List Env) : List Addr := l.filterMap (·.frame)
abbrev Cx.fs (X : Cx) : List Addr := frs X.outer
def Vis (sc : Scope) (x : Str) : Prop := sc.names.lookup x = some .local ∨ sc.names.lookup x = some .cell ∨ sc.names.lookup x = some .free
def Loc (sc : Scope) (x : Str) : Prop := sc.names.lookup x = some .local ∨ sc.names.lookup x = some .cell
def Look (env : Env) (h : Heap) (m : Str → Option Value) (x : Str) (u : Value) : Prop :=
  (env.kindOf x = some .local ∧ m x = some u) ∨ ((env.kindOf x = some .cell ∨ env.kindOf x = some .free) ∧ ∃ c, env.cells.lookup x = some c ∧ h.IsCell c (some u))
structure Cx.Ok (X : Cx) : Prop where
  mod : Mod X.K X.mg X.base
  kind : X.env.scope.kind = .function
  glob : X.env.globals = mainGlobals
  blt : X.env.builtins = builtinsNs
  above : X.s₀.heap.objs.size ≤ X.env.locals
  inj : ∀ x y c, X.env.cells.lookup x = some c → X.env.cells.lookup y = some c → x = y
  has : ∀ x, (X.env.kindOf x = some .cell ∨ X.env.kindOf x = some .free) → ∃ c, X.env.cells.lookup x = some c
  cab : ∀ x c, X.fn x = true → X.env.cells.lookup x = some c → X.s₀.heap.objs.size ≤ c
  hd : X.calm = true → X.A.handled = none
  frames : X.A.frames = some X.stack
  stk : X.stack = X.outer ∨ (X.stack = X.env :: X.outer ∧ X.env.frame = some X.env.locals)
  exf : ∀ b ∈ X.ex, b ≠ X.env.locals ∧ ∀ x c, X.env.cells.lookup x = some c → c ≠ b
  bs : ∀ b o, X.base.get? b = some o → X.s₀.heap.get? b = some o ∧ X.H₀ b = none
  bsz : X.base.objs.size ≤ X.s₀.heap.objs.size
  noex : ∀ b o, X.base.get? b = some o → b ∉ X.ex
  exfs : ∀ b ∈ X.ex, b ∉ X.fs
  funs : X.s₀.heap.FunFrames X.base X.outer
  frf : ∀ b ∈ X.fs, X.H₀ b = none
structure Inv (X : Cx) (pins : List (Addr × Obj)) (σ : List (Option V)) (H : Hp) (s : Shared) : Prop where
  ok : X.Ok
  os : s.os = X.s₀.os
  bare : AllBare s.gens
  base : Un X.fs X.ex X.H₀ H X.s₀.heap s.heap
  loc : ∃ m, s.heap.Ns X.env.locals m ∧ ∀ (i : Nat) (x : Str) (v : V), X.N[i]? = some x → σ[i]? = some (some v) → Vis X.env.scope x → ∃ u, RelV v u ∧ Look X.env s.heap m x u
  cell : ∀ x c, X.env.cells.lookup x = some c → ∃ v, s.heap.IsCell c v
  free : H X.env.locals = none
  freeC : ∀ x c, X.env.cells.lookup x = some c → H c = none
  pin : ∀ p ∈ X.pn ++ pins, s.heap.get? p.1 = some p.2 ∧ H p.1 = none ∧ p.1 ≠ X.env.locals ∧ p.1 ∉ X.fs ∧ ∀ v, p.2.data ≠ .cell v
  hok : HOk X.prog X.w H s.heap
  len : σ.length = X.N.length
section
variable {X : Cx} {pins : List (Addr × Obj)} {σ : List (Option V)} {H H' : Hp} {s : Shared} {h' : Heap}
theorem Cx.Ok.nofr (ok : X.Ok) {b : Addr} {o : Obj} (e : X.base.get? b = some o) : b ∉ X.fs := fun hb => by
  have := (ok.funs.mem hb).1
  rw [e] at this; cases this
theorem Inv.bs (I : Inv X pins σ H s) : ∀ b o, X.base.get? b = some o → s.heap.get? b = some o ∧ H b = none := fun b o e =>
  ⟨I.base.keep b o (I.ok.bs b o e).1 (I.ok.bs b o e).2 (I.ok.nofr e) (I.ok.noex b o e), I.base.free b o (I.ok.bs b o e).1 (I.ok.bs b o e).2 (I.ok.noex b o e)⟩
theorem Inv.bk (I : Inv X pins σ H s) : ∀ b o, X.base.get? b = some o → s.heap.get? b = some o := fun b o e => (I.bs b o e).1
theorem Inv.mod (I : Inv X pins σ H s) : Mod X.K X.mg X.base := I.ok.mod
theorem Inv.kIn (I : Inv X pins σ H s) : X.K.In s.heap := I.ok.mod.kin.keeps I.bk
theorem Inv.lt (I : Inv X pins σ H s) : X.env.locals < s.heap.objs.size := let ⟨_, hn, _⟩ := I.loc; hn.lt
theorem Inv.sz (I : Inv X pins σ H s) : X.s₀.heap.objs.size ≤ s.heap.objs.size := Nat.le_trans I.ok.above (Nat.le_of_lt I.lt)
theorem Inv.nofs (I : Inv X pins σ H s) {a : Addr} (h : s.heap.objs.size ≤ a) : a ∉ X.fs := fun hb => by
  obtain ⟨_, o, ho, _⟩ := I.ok.funs.mem hb
  exact absurd (Nat.lt_of_lt_of_le (Heap.lt_size ho) (Nat.le_trans I.sz h)) (Nat.lt_irrefl _)
theorem Inv.cne (I : Inv X pins σ H s) : ∀ x c, X.env.cells.lookup x = some c → c ≠ X.env.locals := fun x c e z => by
  obtain ⟨v, o, ho, hd⟩ := I.cell x c e
  obtain ⟨m, ⟨o', es, ep, ho', hd', _⟩, _⟩ := I.loc
  rw [z, ho'] at ho; cases ho; rw [hd'] at hd; cases hd
theorem Inv.funs (I : Inv X pins σ H s) : s.heap.FunFrames X.base X.outer := by
  have all : ∀ (l : List Env), (∀ b ∈ frs l, b ∈ X.fs) → X.s₀.heap.FunFrames X.base l → s.heap.FunFrames X.base l := by
    intro l
    induction l with
    | nil => intro _ _; trivial
    | cons env r ih =>
      intro hs hl
      obtain ⟨hk, ⟨L, o, hf, hn, ho, hd⟩, hr⟩ := hl
      have hL : L ∈ X.fs := hs L (by unfold frs; rw [List.filterMap_cons, hf]; exact List.mem_cons_self)
      obtain ⟨sl, e⟩ := I.base.slot L o ho (I.ok.frf L hL) hL fun z => I.ok.exfs L z hL
      exact ⟨hk, ⟨L, _, hf, hn, e, hd⟩, ih (fun b hb => hs b (by unfold frs; rw [List.filterMap_cons, hf]; exact List.mem_cons_of_mem _ hb)) hr⟩
  exact all X.outer (fun _ hb => hb) I.ok.funs
theorem Inv.stack (I : Inv X pins σ H s) : s.heap.FunFrames X.base X.stack := by
  rcases I.ok.stk with e | ⟨e, hf⟩
  · rw [e]; exact I.funs
  · rw [e]
    obtain ⟨m, hn, _⟩ := I.loc
    refine .cons (by rw [I.ok.kind]; decide) hf hn ?_ I.funs
    exact Heap.get?_none_of_le (Nat.le_trans I.ok.bsz I.ok.above)
theorem Inv.stkSub (I : Inv X pins σ H s) : ∀ b ∈ frs X.stack, b ∈ X.env.locals :: X.fs := fun b hb => by
  rcases I.ok.stk with e | ⟨e, hf⟩
  · rw [e] at hb; exact List.mem_cons_of_mem _ hb
  · rw [e] at hb
    unfold frs at hb
    rw [List.filterMap_cons, hf] at hb
    exact hb
theorem Inv.stkFree (I : Inv X pins σ H s) : ∀ b ∈ frs X.stack, H b = none := fun b hb => by
  rcases List.mem_cons.mp (I.stkSub b hb) with e | hb
  · rw [e]; exact I.free
  · obtain ⟨_, o, ho, _⟩ := I.ok.funs.mem hb
    exact I.base.free b o ho (I.ok.frf b hb) fun z => I.ok.exfs b z hb
theorem Inv.step {g' : Array GenState} {t' : Nat} {d' : Drawn} {ch : List Addr} (I : Inv X pins σ H s)
    (hch : ∀ b ∈ ch, (b ∈ X.ex ∨ X.s₀.heap.objs.size ≤ b) ∧ b ≠ X.env.locals ∧ (∀ x c, X.env.cells.lookup x = some c → c ≠ b) ∧ ∀ p ∈ X.pn ++ pins, p.1 ≠ b)
    (keep : ∀ b o, b ≠ X.env.locals → b ∉ X.fs → b ∉ ch → s.heap.get? b = some o → H b = none → h'.get? b = some o)
    (slot : ∀ b o, b ≠ X.env.locals → b ∈ X.fs → b ∉ ch → s.heap.get? b = some o → H b = none → ∃ sl, h'.get? b = some { o with slots := sl }) (free : ∀ b o, b ∉ ch → s.heap.get? b = some o → H b = none → H' b = none)
    (there : ∀ b o, b ∉ ch → s.heap.get? b = some o → ∃ o', h'.get? b = some o')
    (tups : ∀ b xs, H b = some (.tup xs) → H' b = some (.tup xs)) (frzs : ∀ b o u, H b = some (.frz o u) → H' b = some (.frz o u)) (tbls : ∀ b ps, H b = some (.tbl ps) → ∃ more, H' b = some (.tbl (ps ++ more)))
    (ns : ∀ m, s.heap.Ns X.env.locals m → h'.Ns X.env.locals m) (hok : HOk X.prog X.w H' h') (hg : AllBare g') :
    Inv X pins σ H' { s with heap := h', gens := g', drawn := d', toks := t' } := by
  have neL : ∀ b o, X.s₀.heap.get? b = some o → b ≠ X.env.locals := fun b o e => Nat.ne_of_lt (Nat.lt_of_lt_of_le (Heap.lt_size e) I.ok.above)
  have neC : ∀ b o, X.s₀.heap.get? b = some o → b ∉ X.ex → b ∉ ch := fun b o e hx hb => by
    rcases (hch b hb).1 with z | z
    · exact hx z
    · exact absurd (Nat.lt_of_lt_of_le (Heap.lt_size e) z) (Nat.lt_irrefl _)
  have cellK : ∀ x c, X.env.cells.lookup x = some c → ∀ v, s.heap.IsCell c v → h'.IsCell c v := fun x c e v ⟨o, ho, hd⟩ => by
    have nch : c ∉ ch := fun z => (hch c z).2.2.1 x c e rfl
    by_cases hc : c ∈ X.fs
    · obtain ⟨sl, q⟩ := slot c o (I.cne x c e) hc nch ho (I.freeC x c e)
      exact ⟨_, q, hd⟩
    · exact ⟨o, keep c o (I.cne x c e) hc nch ho (I.freeC x c e), hd⟩
  refine ⟨I.ok, I.os, hg, ⟨fun b o e n hb hx => ?_, fun b o e n hb hx => ?_, fun b o e n hx => ?_, fun b o e hx => ?_, fun b xs e => tups b xs (I.base.tups b xs e), fun b o xs e => frzs b o xs (I.base.frzs b o xs e), fun b ps e => ?_⟩, ?_, fun x c e => ?_, ?_, fun x c e => ?_, fun p hp => ?_, hok, I.len⟩
  · exact keep b o (neL b o e) hb (neC b o e hx) (I.base.keep b o e n hb hx) (I.base.free b o e n hx)
  · obtain ⟨sl, e1⟩ := I.base.slot b o e n hb hx
    obtain ⟨sl', e2⟩ := slot b _ (neL b o e) hb (neC b o e hx) e1 (I.base.free b o e n hx)
    exact ⟨sl', e2⟩
  · obtain ⟨o', e1⟩ := I.base.there b o e hx
    exact free b o' (neC b o e hx) e1 (I.base.free b o e n hx)
  · obtain ⟨o', e1⟩ := I.base.there b o e hx
    exact there b o' (neC b o e hx) e1
  · obtain ⟨m1, e1⟩ := I.base.tbls b ps e
    obtain ⟨m2, e2⟩ := tbls b _ e1
    exact ⟨m1 ++ m2, by rw [e2, Array.append_assoc]⟩
  · obtain ⟨m, hn, hl⟩ := I.loc
    refine ⟨m, ns m hn, fun i x v e1 e2 e3 => ?_⟩
    obtain ⟨u, r, l⟩ := hl i x v e1 e2 e3
    refine ⟨u, r, ?_⟩
    rcases l with l | ⟨k, c, e, z⟩
    · exact .inl l
    · exact .inr ⟨k, c, e, cellK x c e _ z⟩
  · obtain ⟨v, z⟩ := I.cell x c e
    exact ⟨v, cellK x c e v z⟩
  · obtain ⟨m, ⟨o, _, _, ho, _⟩, _⟩ := I.loc
    exact free _ o (fun z => (hch _ z).2.1 rfl) ho I.free
  · obtain ⟨v, o, ho, hd⟩ := I.cell x c e
    exact free c o (fun z => (hch c z).2.2.1 x c e rfl) ho (I.freeC x c e)
  · obtain ⟨e, n, ne, nf, d⟩ := I.pin p hp
    have nch : p.1 ∉ ch := fun z => (hch p.1 z).2.2.2 p hp rfl
    exact ⟨keep p.1 p.2 ne nf nch e n, free p.1 p.2 nch e n, ne, nf, d⟩
theorem Inv.un {t' : Nat} (I : Inv X pins σ H s) (u : Un X.fs [] H H' s.heap h') (hok : HOk X.prog X.w H' h') : Inv X pins σ H' { s with heap := h', toks := t' } := by
  obtain ⟨m, ⟨o, es, ep, ho, r⟩, _⟩ := id I.loc
  obtain ⟨sl, hL⟩ := u.any ho I.free (by simp)
  exact I.step (g' := s.gens) (d' := s.drawn) (ch := []) (fun _ z => nomatch z) (fun b o _ hb _ e n => u.keep b o e n hb (by simp)) (fun b o _ hb _ e n => u.slot b o e n hb (by simp)) (fun b o _ e n => u.free b o e n (by simp)) (fun b o _ e => u.there b o e (by simp)) u.tups u.frzs u.tbls (fun m' hm => by
    obtain ⟨o', es', ep', ho', r'⟩ := hm
    rw [ho] at ho'; cases ho'
    exact ⟨_, es', ep', hL, r'⟩) hok I.bare
theorem Inv.call {g' : Array GenState} {t' : Nat} {d' : Drawn} {ch : List Addr} (I : Inv X pins σ H s) (u : Un (frs X.stack) ch H H' s.heap h') (hok : HOk X.prog X.w H' h') (hg : AllBare g')
    (hch : ∀ b ∈ ch, (b ∈ X.ex ∨ X.s₀.heap.objs.size ≤ b) ∧ b ≠ X.env.locals ∧ (∀ x c, X.env.cells.lookup x = some c → c ≠ b) ∧ ∀ p ∈ X.pn ++ pins, p.1 ≠ b) :
    Inv X pins σ H' { s with heap := h', gens := g', drawn := d', toks := t' } := by
  obtain ⟨m, ⟨o, es, ep, ho, r⟩, _⟩ := id I.loc
  obtain ⟨sl, hL⟩ := u.any ho I.free fun z => (hch _ z).2.1 rfl
  exact I.step (ch := ch) hch (fun b o hL hb hc e n => u.keep b o e n (fun z => (List.mem_cons.mp (I.stkSub b z)).elim hL hb) hc) (fun b o _ _ hc e n => u.any e n hc) (fun b o hc e n => u.free b o e n hc) (fun b o hc e => u.there b o e hc) u.tups u.frzs u.tbls (fun m' hm => by
    obtain ⟨o', es', ep', ho', r'⟩ := hm
    rw [ho] at ho'; cases ho'
    exact ⟨_, es', ep', hL, r'⟩) hok hg
theorem Inv.turned {t' : Nat} {it : Addr} (I : Inv X pins σ H s) (k : ∀ b o, b ≠ it → s.heap.get? b = some o → h'.get? b = some o) (hn : H it = none) (hL : it ≠ X.env.locals)
    (h1 : it ∈ X.ex ∨ X.s₀.heap.objs.size ≤ it) (h2 : ∀ x c, X.env.cells.lookup x = some c → c ≠ it) (h3 : ∀ p ∈ X.pn ++ pins, p.1 ≠ it) : Inv X pins σ H { s with heap := h', toks := t' } := by
  have nit : ∀ b u, H b = some u → b ≠ it := fun b u e z => by rw [z, hn] at e; cases e
  refine I.step (g' := s.gens) (d' := s.drawn) (ch := [it]) (fun b hb => ?_) (fun b o _ _ hc e _ => k b o (fun z => hc (by simp [z])) e) (fun b o _ _ hc e _ => ⟨o.slots, k b o (fun z => hc (by simp [z])) e⟩) (fun _ _ _ _ n => n)
    (fun b o hc e => ⟨o, k b o (fun z => hc (by simp [z])) e⟩) (fun _ _ e => e) (fun _ _ _ e => e) (fun b ps e => ⟨#[], by rw [e]; simp⟩) (fun m hm => ?_) (fun b u e => ?_) I.bare
  · have e : b = it := by simpa using hb
    subst e
    exact ⟨h1, hL, h2, h3⟩
  · obtain ⟨o, es, ep, ho, r⟩ := hm
    exact ⟨o, es, ep, k _ o (Ne.symm hL) ho, r⟩
  · refine (I.hok b u e).stay (fun c v hc q => k c v ?_ q) (fun _ q => q) fun _ _ q => q
    rcases hc with z | z
    · rw [z]; exact nit b u e
    · exact nit c _ z
theorem Inv.tok (I : Inv X pins σ H s) (t : Nat) : Inv X pins σ H { s with toks := t } := I.un (h' := s.heap) (t' := t) Un.refl I.hok
theorem Inv.kept {t' : Nat} (I : Inv X pins σ H s) (k : ∀ b u, s.heap.get? b = some u → h'.get? b = some u) : Inv X pins σ H { s with heap := h', toks := t' } := I.un (Un.kept k) (I.hok.kept k)
theorem Inv.laid {a : Addr} {o : HO} {t' : Nat} (I : Inv X pins σ H s) (k : ∀ b u, s.heap.get? b = some u → h'.get? b = some u) (hp : s.heap.objs.size ≤ a) (new : ObjOk X.prog X.w (upd H a o) h' a o) :
    Inv X pins σ (upd H a o) { s with heap := h', toks := t' } := I.un (Un.laid k hp (I.hok.fresh hp)) (I.hok.laid k hp new)
theorem Inv.write {x e : Addr} {o : HO} {t' : Nat} (I : Inv X pins σ H s) (mu : Mut (H x)) (he : e = x ∨ H e = some (.own x)) (k : ∀ b u, b ≠ e → s.heap.get? b = some u → h'.get? b = some u) (heo : ∃ u, h'.get? e = some u)
    (new : ObjOk X.prog X.w (upd H x o) h' x o) : Inv X pins σ (upd H x o) { s with heap := h', toks := t' } := I.un (Un.write mu he k heo) (I.hok.write mu he k heo new)
theorem Inv.pins_of {pins' : List (Addr × Obj)} (I : Inv X pins σ H s) (h : ∀ p ∈ pins', s.heap.get? p.1 = some p.2 ∧ H p.1 = none ∧ p.1 ≠ X.env.locals ∧ p.1 ∉ X.fs ∧ ∀ v, p.2.data ≠ .cell v) : Inv X pins' σ H s :=
  ⟨I.ok, I.os, I.bare, I.base, I.loc, I.cell, I.free, I.freeC, fun p hp => (List.mem_append.mp hp).elim (fun z => I.pin p (List.mem_append_left _ z)) (h p), I.hok, I.len⟩
theorem nodup_ix {N : List Str} (hN : N.Nodup) {i j : Nat} {x : Str} (a : N[i]? = some x) (b : N[j]? = some x) : i = j := by
  obtain ⟨h1, e1⟩ := List.getElem?_eq_some_iff.mp a
  obtain ⟨h2, e2⟩ := List.getElem?_eq_some_iff.mp b
  exact (List.getElem_inj hN).mp (e1.trans e2.symm)
theorem store_ok2 {M : Model} {A : Around} {E : Value → Shared → Prop} {i : Nat} {x : Str} {v : V} {u : Value} {Q : Unit → Shared → Prop} (I : Inv X pins σ H s) (hN : X.N.Nodup) (hi : X.N[i]? = some x) (hx : Loc X.env.scope x) (r : RelV v u)
    (h : ∀ s', Inv X pins (σ.set i (some v)) H s' → (∃ a, Heap.SameBut a s.heap s'.heap ∧ (a = X.env.locals ∨ X.env.cells.lookup x = some a)) → Q () s') (hf : X.fn x = true ∨ X.env.scope.names.lookup x = some .local := by first | exact .inl rfl | exact .inr rfl | assumption) : wpAny M A (storeName X.env x u) Q E s := by
  obtain ⟨m, hn, hl⟩ := id I.loc
  have hcls : (X.env.scope.kind == .class || (X.env.scope.kind == .module && X.env.locals != X.env.globals)) = false := by rw [I.ok.kind]; rfl
  have hiσ : i < σ.length := by rw [I.len]; exact (List.getElem?_eq_some_iff.mp hi).1
  have cne := I.cne
  have tracked : ∀ {a : Addr} {h' : Heap}, (∃ o, s.heap.get? a = some o ∧ H a = none) → Heap.SameBut a s.heap h' → HOk X.prog X.w H h' := fun {a h'} ha hs b ob e => by
    obtain ⟨_, _, hfree⟩ := ha
    refine (I.hok b ob e).stay (fun c w' hc q => (hs.2 c ?_).trans q) (fun _ q => q) fun _ _ q => q
    rintro rfl
    rcases hc with rfl | hc
    · rw [hfree] at e; cases e
    · rw [hfree] at hc; cases hc
  rcases hx with hk | hk
  · refine wpAny_storeName_local hk hn (fun h' hn' hs => ?_) hcls
    obtain ⟨oL, _, _, hoL, _⟩ := id hn
    refine h _ ⟨I.ok, I.os, I.bare, ⟨fun b o e n hb hx => ?_, fun b o e n hb hx => ?_, I.base.free, fun b o e hx => ?_, I.base.tups, I.base.frzs, I.base.tbls⟩, ⟨_, hn', fun j y v' e1 e2 e3 => ?_⟩, fun y c e => ?_, I.free, I.freeC, fun p hp => ?_, tracked ⟨oL, hoL, I.free⟩ hs, by simpa using I.len⟩ ⟨_, hs, .inl rfl⟩
    · exact (hs.2 b (Nat.ne_of_lt (Nat.lt_of_lt_of_le (Heap.lt_size e) I.ok.above))).trans (I.base.keep b o e n hb hx)
    · obtain ⟨sl, e1⟩ := I.base.slot b o e n hb hx
      exact ⟨sl, (hs.2 b (Nat.ne_of_lt (Nat.lt_of_lt_of_le (Heap.lt_size e) I.ok.above))).trans e1⟩
    · obtain ⟨o', e1⟩ := I.base.there b o e hx
      exact ⟨o', (hs.2 b (Nat.ne_of_lt (Nat.lt_of_lt_of_le (Heap.lt_size e) I.ok.above))).trans e1⟩
    · by_cases hj : j = i
      · subst hj
        rw [hi] at e1; cases e1
        rw [List.getElem?_set_self hiσ] at e2
        cases e2
        exact ⟨u, r, .inl ⟨hk, by simp⟩⟩
      · rw [List.getElem?_set_ne (Ne.symm hj)] at e2
        obtain ⟨u', r', q⟩ := hl j y v' e1 e2 e3
        refine ⟨u', r', ?_⟩
        rcases q with ⟨k, e⟩ | ⟨k, c, e, z⟩
        · refine .inl ⟨k, ?_⟩
          have : y ≠ x := fun e => hj (nodup_ix hN e1 (e ▸ hi))
          simp [this, e]
        · exact .inr ⟨k, c, e, z.sameBut hs (cne y c e)⟩
    · obtain ⟨w', z⟩ := I.cell y c e
      exact ⟨w', z.sameBut hs (cne y c e)⟩
    · obtain ⟨e, n, ne, nf, d⟩ := I.pin p hp
      exact ⟨(hs.2 p.1 ne).trans e, n, ne, nf, d⟩
  · have hfn : X.fn x = true := by
      rcases hf with z | z
      · exact z
      · rw [z] at hk; cases hk
    obtain ⟨c, hc⟩ := I.ok.has x (.inl hk)
    obtain ⟨w', z⟩ := I.cell x c hc
    refine wpAny_storeName_cell I.ok.kind hk hc z (fun h' hc' hs => ?_)
    obtain ⟨oc, hoc, hocd⟩ := id z
    refine h { s with heap := h' } ⟨I.ok, I.os, I.bare, ⟨fun b o e n hb hx => ?_, fun b o e n hb hx => ?_, I.base.free, fun b o e hx => ?_, I.base.tups, I.base.frzs, I.base.tbls⟩, ⟨m, hn.sameBut hs (Ne.symm (cne x c hc)), fun j y v' e1 e2 e3 => ?_⟩, fun y c' e => ?_, I.free, I.freeC, fun p hp => ?_, tracked ⟨oc, hoc, I.freeC x c hc⟩ hs, by simpa using I.len⟩ ⟨c, hs, .inr hc⟩
    · exact (hs.2 b (Nat.ne_of_lt (Nat.lt_of_lt_of_le (Heap.lt_size e) (I.ok.cab x c hfn hc)))).trans (I.base.keep b o e n hb hx)
    · obtain ⟨sl, e1⟩ := I.base.slot b o e n hb hx
      exact ⟨sl, (hs.2 b (Nat.ne_of_lt (Nat.lt_of_lt_of_le (Heap.lt_size e) (I.ok.cab x c hfn hc)))).trans e1⟩
    · obtain ⟨o', e1⟩ := I.base.there b o e hx
      exact ⟨o', (hs.2 b (Nat.ne_of_lt (Nat.lt_of_lt_of_le (Heap.lt_size e) (I.ok.cab x c hfn hc)))).trans e1⟩
    · by_cases hj : j = i
      · subst hj
        rw [hi] at e1; cases e1
        rw [List.getElem?_set_self hiσ] at e2
        cases e2
        exact ⟨u, r, .inr ⟨.inl hk, c, hc, hc'⟩⟩
      · rw [List.getElem?_set_ne (Ne.symm hj)] at e2
        obtain ⟨u', r', q⟩ := hl j y v' e1 e2 e3
        refine ⟨u', r', ?_⟩
        rcases q with q | ⟨k, c', e, z'⟩
        · exact .inl q
        · refine .inr ⟨k, c', e, z'.sameBut hs ?_⟩
          rintro rfl
          exact hj (nodup_ix hN e1 (I.ok.inj _ _ _ e hc ▸ hi))
    · by_cases hcc : c' = c
      · subst hcc; exact ⟨_, hc'⟩
      · obtain ⟨w2, z2⟩ := I.cell y c' e
        exact ⟨w2, z2.sameBut hs hcc⟩
    · obtain ⟨e, n, ne, nf, d⟩ := I.pin p hp
      refine ⟨(hs.2 p.1 ?_).trans e, n, ne, nf, d⟩
      intro q
      rw [q, hoc] at e
      have q' : oc = p.2 := Option.some.inj e
      exact d w' (by rw [← q']; exact hocd)
theorem store_ok {M : Model} {A : Around} {E : Value → Shared → Prop} {i : Nat} {x : Str} {v : V} {u : Value} {Q : Unit → Shared → Prop} (I : Inv X pins σ H s) (hN : X.N.Nodup) (hi : X.N[i]? = some x) (hx : Loc X.env.scope x) (r : RelV v u)
    (h : ∀ s', Inv X pins (σ.set i (some v)) H s' → Q () s') (hf : X.fn x = true ∨ X.env.scope.names.lookup x = some .local := by first | exact .inl rfl | exact .inr rfl | assumption) : wpAny M A (storeName X.env x u) Q E s :=
  store_ok2 I hN hi hx r (fun s' I' _ => h s' I') hf
theorem Inv.call' {s' : Shared} {ch : List Addr} (I : Inv X pins σ H s) (ho : s'.os = s.os) (u : Un (frs X.stack) ch H H' s.heap s'.heap) (hok : HOk X.prog X.w H' s'.heap) (hg : AllBare s'.gens)
    (hch : ∀ b ∈ ch, (b ∈ X.ex ∨ X.s₀.heap.objs.size ≤ b) ∧ b ≠ X.env.locals ∧ (∀ x c, X.env.cells.lookup x = some c → c ≠ b) ∧ ∀ p ∈ X.pn ++ pins, p.1 ≠ b) : Inv X pins σ H' s' := by
  obtain ⟨h', g', d', t', o'⟩ := s'
  have e : o' = s.os := ho
  subst e
  exact I.call (g' := g') (t' := t') (d' := d') u hok hg hch
end
abbrev XK := Value → Option Addr → Hp → Prop
abbrev St := List (Option V)
abbrev VK := V → Hp → Prop
abbrev TE := St → Hp → VK → Prop
abbrev TT := St → Hp → (Bool → Hp → Prop) → Prop
abbrev TA := St → Hp → (List V → Hp → Prop) → Prop
structure Ends where
  nx : St → Hp → Prop
  rt : VK
  bk : St → Hp → Prop := fun _ _ => False
  ct : St → Hp → Prop := fun _ _ => False
abbrev TS := Ends → St → Hp → Prop
def EP (X : Cx) (pins : List (Addr × Obj)) (σ : St) (Q : VK) (u : Value) (s' : Shared) : Prop := ∃ v H', Inv X pins σ H' s' ∧ RelV v u ∧ Q v H'
def TP (X : Cx) (pins : List (Addr × Obj)) (σ : St) (Q : Bool → Hp → Prop) (b : Bool) (s' : Shared) : Prop := ∃ H', Inv X pins σ H' s' ∧ Q b H'
def AP (X : Cx) (pins : List (Addr × Obj)) (σ : St) (Q : List V → Hp → Prop) (us : List Value) (s' : Shared) : Prop := ∃ vs H', Inv X pins σ H' s' ∧ Vals vs us ∧ Q vs H'
def SP (X : Cx) (pins : List (Addr × Obj)) (D : Ends) (f : Flow) (s' : Shared) : Prop :=
  match f with
  | .next => ∃ σ' H', Inv X pins σ' H' s' ∧ D.nx σ' H'
  | .brk => ∃ σ' H', Inv X pins σ' H' s' ∧ D.bk σ' H'
  | .cont => ∃ σ' H', Inv X pins σ' H' s' ∧ D.ct σ' H'
  | .ret u => ∃ v σ' H', Inv X pins σ' H' s' ∧ RelV v u ∧ D.rt v H'
def PE (X : Cx) (e : Expr) (t : TE) : Prop :=
  ∀ (pins : List (Addr × Obj)) (s : Shared) (σ : St) (H : Hp) (Q : VK), Inv X pins σ H s → t σ H Q → wpAny (model X.prog X.w) X.A (eval e X.env) (EP X pins σ Q) X.xe s
def PT (X : Cx) (e : Expr) (t : TT) : Prop :=
  ∀ (pins : List (Addr × Obj)) (s : Shared) (σ : St) (H : Hp) (Q : Bool → Hp → Prop), Inv X pins σ H s → t σ H Q → wpAny (model X.prog X.w) X.A (isTrue e X.env (eval e X.env)) (TP X pins σ Q) X.xe s
def PW (X : Cx) (e : Expr) (t : TT) : Prop :=
  ∀ (whole : Sem Value) (pins : List (Addr × Obj)) (s : Shared) (σ : St) (H : Hp) (Q : Bool → Hp → Prop), Inv X pins σ H s → t σ H Q → wpAny (model X.prog X.w) X.A (isTrue e X.env whole) (TP X pins σ Q) X.xe s
theorem PW.pt {X : Cx} {e : Expr} {t : TT} (h : PW X e t) : PT X e t := h _
def PA (X : Cx) (es : List Expr) (t : TA) : Prop :=
  ∀ (pos : Pos) (pins : List (Addr × Obj)) (s : Shared) (σ : St) (H : Hp) (Q : List V → Hp → Prop), Inv X pins σ H s → t σ H Q → wpAny (model X.prog X.w) X.A (spliced (backTo pos (starEach es X.env))) (AP X pins σ Q) X.xe s
def PS (X : Cx) (st : Stmt) (t : TS) : Prop :=
  ∀ (pins : List (Addr × Obj)) (s : Shared) (σ : St) (H : Hp) (D : Ends), Inv X pins σ H s → t D σ H → wpAny (model X.prog X.w) X.A (exec st X.env) (SP X pins D) X.xe s
def PSs (X : Cx) (st : List Stmt) (t : TS) : Prop :=
  ∀ (pins : List (Addr × Obj)) (s : Shared) (σ : St) (H : Hp) (D : Ends), Inv X pins σ H s → t D σ H → wpAny (model X.prog X.w) X.A (execs st X.env) (SP X pins D) X.xe s
theorem thn {α : Type} {t : Sem α} {Q Q' : α → Shared → Prop} {M : Model} {A : Around} {E : Value → Shared → Prop} {s : Shared} (h : wpAny M A t Q E s) (hQ : ∀ a s, Q a s → Q' a s) : wpAny M A t Q' E s := wpAny_mono h hQ fun _ _ x => x
end L2
namespace L2
open PySem PySem.Spec PyProof.Rows
section
variable {X : Cx}
theorem bin {a b : Expr} {ta tb : TE} (ha : PE X a ta) (hb : PE X b tb) {pins : List (Addr × Obj)} {s : Shared} {σ : St} {H : Hp} {R : V → V → Hp → Prop} (I : Inv X pins σ H s) (h : ta σ H fun x H1 => tb σ H1 fun y H2 => R x y H2)
    {α : Type} {Q : α → Shared → Prop} {f : Value → Value → Sem α}
    (hf : ∀ v u s2 x y H2, Inv X pins σ H2 s2 → RelV x v → RelV y u → R x y H2 → wpAny (model X.prog X.w) X.A (f v u) Q X.xe s2) :
    wpAny (model X.prog X.w) X.A (eval a X.env) (fun v s₁ => wpAny (model X.prog X.w) X.A (eval b X.env) (fun u s₂ => wpAny (model X.prog X.w) X.A (f v u) Q X.xe s₂) X.xe s₁) X.xe s := by
  refine thn (ha pins s σ H _ I h) fun v s1 ⟨x, H1, I1, r1, q1⟩ => ?_
  refine thn (hb pins s1 σ H1 _ I1 q1) fun u s2 ⟨y, H2, I2, r2, q2⟩ => ?_
  exact hf v u s2 x y H2 I2 r1 r2 q2
def tVar (i : Nat) : TE := fun σ H Q => ∃ v, σ[i]? = some (some v) ∧ Q v H
def tC (v : V) : TE := fun _ H Q => Q v H
theorem pe_var {i : Nat} {x : Str} {pos : Pos} (hN : X.N[i]? = some x) (hv : Vis X.env.scope x) (hd : (x == ("__debug__" : Str)) = false := by decide) (hcd : (x == ("__classdict__" : Str)) = false := by decide) : PE X (.Name x pos) (tVar i) := by
  intro pins s σ H Q I h
  obtain ⟨v, e, h⟩ := h
  obtain ⟨m, hn, hl⟩ := I.loc
  obtain ⟨u, r, l⟩ := hl i x v hN e hv
  have fin : EP X pins σ Q u s := ⟨v, H, I, r, h⟩
  rcases l with ⟨hk, hm⟩ | ⟨hk, c, hc, hcell⟩
  · exact wpAny_Name (wpAny_loadName_local I.ok.kind hk hn hm fin) hd
  · rcases hk with hk | hk
    · exact wpAny_Name (wpAny_loadName_cell I.ok.kind hk hc hcell fin) hd
    · exact wpAny_Name (wpAny_loadName_free I.ok.kind hk hc hcell fin hcd) hd
theorem pe_int {i j pos} : PE X (.Constant (.int i) j pos) (tC (.int i)) := fun _ _ _ H _ I h => wpAny_Constant_int ⟨.int i, H, I.tok _, ⟨_, rfl⟩, h⟩
theorem pe_bl {b j pos} : PE X (.Constant (.bool b) j pos) (tC (.bl b)) := fun _ _ _ H _ I h => Constant_bool ⟨.bl b, H, I, rfl, h⟩
theorem pe_non {j pos} : PE X (.Constant .none j pos) (tC .non) := fun _ _ _ H _ I h => Constant_none ⟨.non, H, I, rfl, h⟩
theorem pe_str {x j pos} : PE X (.Constant (.str x) j pos) (tC (.str x)) := fun _ _ _ H _ I h => Calls.Constant_str ⟨.str x, H, I.tok _, ⟨_, rfl⟩, h⟩
def Gl (X : Cx) (x : Str) : Prop := X.env.kindOf x = some .globalImplicit
theorem ld_glob {E : Value → Shared → Prop} {pins : List (Addr × Obj)} {s : Shared} {σ : St} {H : Hp} {x : Str} {u : Value} {pos : Pos} {Q : Value → Shared → Prop} (I : Inv X pins σ H s) (hg : Gl X x) (hm : X.mg x = some u) (h : Q u s)
    (hd : (x == ("__debug__" : Str)) = false := by decide) : wpAny (model X.prog X.w) X.A (eval (.Name x pos) X.env) Q E s :=
  Calls.Name_function_global I.ok.kind hg (Calls.loadGlobal_global (by rw [I.ok.glob]; exact I.mod.glob.keeps I.bk) hm h) hd
theorem ld_blt {E : Value → Shared → Prop} {pins : List (Addr × Obj)} {s : Shared} {σ : St} {H : Hp} {x : Str} {u : Value} {pos : Pos} {Q : Value → Shared → Prop} (I : Inv X pins σ H s) (hg : Gl X x) (hm : X.mg x = none) (hv : bootBuiltins x = some u) (h : Q u s)
    (hn : x ≠ "__name__" := by decide) (hd : (x == ("__debug__" : Str)) = false := by decide) : wpAny (model X.prog X.w) X.A (eval (.Name x pos) X.env) Q E s := by
  obtain ⟨mb, h1, h2⟩ := I.mod.blt
  exact Calls.Name_function_global I.ok.kind hg (Calls.loadGlobal_builtin (by rw [I.ok.glob]; exact I.mod.glob.keeps I.bk) hm (by rw [I.ok.blt]; exact h1.keeps I.bk) ((h2 x hn).trans hv) h) hd
theorem pe_bltn {x : Str} {v : V} {u : Value} {pos : Pos} (hg : Gl X x) (hm : X.mg x = none) (hv : bootBuiltins x = some u) (r : RelV v u) (hn : x ≠ "__name__" := by decide) (hd : (x == ("__debug__" : Str)) = false := by decide) : PE X (.Name x pos) (tC v) :=
  fun _ _ _ H _ I h => ld_blt I hg hm hv ⟨v, H, I, r, h⟩ hn hd
def t2I (ta tb : TE) (k : Int → Int → Hp → Prop) : St → Hp → Prop := fun σ H => ta σ H fun x H1 => tb σ H1 fun y H2 => ∃ i j, x = .int i ∧ y = .int j ∧ k i j H2
variable {a b : Expr} {ta tb : TE} {pos : Pos}
def tCmp (p : Int → Int → Bool) (ta tb : TE) : TE := fun σ H Q => t2I ta tb (fun i j H2 => Q (.bl (p i j)) H2) σ H
abbrev tLt : TE → TE → TE := tCmp fun i j => decide (i < j)
abbrev tLe : TE → TE → TE := tCmp fun i j => decide (i ≤ j)
abbrev tGt : TE → TE → TE := tCmp fun i j => decide (j < i)
abbrev tGe : TE → TE → TE := tCmp fun i j => decide (j ≤ i)
abbrev tEqI : TE → TE → TE := tCmp fun i j => decide (i = j)
abbrev tNeI : TE → TE → TE := tCmp fun i j => !decide (i = j)
variable {tA tB' : TT} {rest : List Expr}
def tNot (t : TT) : TT := fun σ H Q => t σ H fun c H1 => Q (!c) H1
theorem pw_and1 (ha : PT X a tA) : PW X (.BoolOp .And [a] pos) tA := by
  intro wh pins s σ H Q I h
  refine isTrue_and (thn (ha pins s σ H Q I h) fun c s1 e => ?_)
  cases c with
  | true => exact isTrue_and_nil e
  | false => exact e
theorem pw_or1 (ha : PT X a tA) : PW X (.BoolOp .Or [a] pos) tA := by
  intro wh pins s σ H Q I h
  refine isTrue_or (thn (ha pins s σ H Q I h) fun c s1 e => ?_)
  cases c with
  | false => exact isTrue_or_nil e
  | true => exact e
theorem pt_not (ha : PT X a tA) : PT X (.UnaryOp .Not a pos) (tNot tA) := by
  intro pins s σ H Q I h
  exact isTrue_not (ha pins s σ H (fun c H1 => Q (!c) H1) I h)
theorem pe_one {op} {t : TE} (h : PE X a t) : PE X (.BoolOp op [a] pos) t := fun pins s σ H Q I hw => BoolOp_one (h pins s σ H Q I hw)
end
end L2
namespace L2
open PySem PySem.Spec PyProof.Rows
def SqL (K : PySem.W.Frag) (H : Hp) (a : Addr) (xs : List V) : Prop :=
  Rd H a (.lst xs) ∨
    ∃ (o : Obj) (its : Array Value) (n : Nat), K.lookup a = some o ∧ o.cls = .type "list" ∧ o.dict = none ∧ o.data = .seq its n ∧ its.size ≤ sizeLine ∧ Vals xs its.toList
def SqT (K : PySem.W.Frag) (H : Hp) (a : Addr) (xs : List V) : Prop :=
  Rd H a (.tup xs) ∨
    ∃ (o : Obj) (its : Array Value) (n : Nat), K.lookup a = some o ∧ o.cls = .type "tuple" ∧ o.data = .seq its n ∧ its.size ≤ sizeLine ∧ Vals xs its.toList
def absV : Value → Option V
  | .none => some .non
  | .bool b => some (.bl b)
  | .int i _ => some (.int i)
  | .str x _ => some (.str x)
  | .bytes b _ => some (.byt b)
  | .float b _ => some (.flt b)
  | .ref a => some (.ref a)
  | .type n => some (.ty n)
  | _ => none
theorem RelV.abs {x : V} {u : Value} (r : RelV x u) : absV u = some x := by
  cases x with
  | non => cases r; rfl
  | bl _ => cases r; rfl
  | int _ => obtain ⟨t, rfl⟩ := r; rfl
  | str _ => obtain ⟨t, rfl⟩ := r; rfl
  | byt _ => obtain ⟨t, rfl⟩ := r; rfl
  | flt _ => obtain ⟨t, rfl⟩ := r; rfl
  | ref _ => cases r; rfl
  | ty _ => cases r; rfl
theorem RelV.inj {x y : V} {u : Value} (r : RelV x u) (q : RelV y u) : x = y := Option.some.inj (r.abs.symm.trans q.abs)
theorem Vals.inj : ∀ {xs ys : List V} {us : List Value}, Vals xs us → Vals ys us → xs = ys
  | _, _, _, .nil, .nil => rfl
  | _, _, _, .cons r t, .cons r' t' => by rw [r.inj r', Vals.inj t t']
section
variable {X : Cx} {pins : List (Addr × Obj)} {σ : St} {H : Hp} {s : Shared} {a : Addr} {xs ys : List V}
theorem SqL.of {K : PySem.W.Frag} (h : H a = some (.lst xs)) : SqL K H a xs := .inl (.inl h)
theorem SqT.of {K : PySem.W.Frag} (h : H a = some (.tup xs)) : SqT K H a xs := .inl (.inl h)
theorem Inv.list (I : Inv X pins σ H s) (h : SqL X.K H a xs) : ∃ its : List Value, Vals xs its ∧ PlainL s.heap a its.toArray ∧ xs.length ≤ sizeLine := by
  rcases h with h | ⟨o, its, n, hk, hc, hd, hs, hz, r⟩
  · obtain ⟨z, its, n, r, e⟩ := h.ok I.hok
    exact ⟨its, r, ⟨_, n, e, rfl, rfl, rfl⟩, z⟩
  · refine ⟨its.toList, r, ⟨o, n, I.kIn a o hk, hc, hd, by simpa using hs⟩, ?_⟩
    have e := r.length
    simp only [Array.length_toList] at e
    omega
theorem Inv.tuple (I : Inv X pins σ H s) (h : SqT X.K H a xs) : ∃ its : List Value, Vals xs its ∧ IsTup s.heap a its.toArray ∧ xs.length ≤ sizeLine := by
  rcases h with h | ⟨o, its, n, hk, hc, hs, hz, r⟩
  · obtain ⟨z, its, r, p⟩ := h.ok I.hok
    exact ⟨its, r, p, z⟩
  · refine ⟨its.toList, r, ⟨o, I.kIn a o hk, hc, n, by simpa using hs⟩, ?_⟩
    have e := r.length
    simp only [Array.length_toList] at e
    omega
theorem Inv.list_inj (I : Inv X pins σ H s) (h : SqL X.K H a xs) (h' : SqL X.K H a ys) : xs = ys := by
  obtain ⟨its, r, ⟨o, n, e, _, _, d⟩, _⟩ := I.list h
  obtain ⟨its', r', ⟨o', n', e', _, _, d'⟩, _⟩ := I.list h'
  rw [e] at e'; cases e'
  rw [d] at d'
  injection d' with d1 _
  have : its = its' := by simpa using congrArg Array.toList d1
  subst this
  exact r.inj r'
theorem Inv.tuple_inj (I : Inv X pins σ H s) (h : SqT X.K H a xs) (h' : SqT X.K H a ys) : xs = ys := by
  obtain ⟨its, r, ⟨o, e, _, n, d⟩, _⟩ := I.tuple h
  obtain ⟨its', r', ⟨o', e', _, n', d'⟩, _⟩ := I.tuple h'
  rw [e] at e'; cases e'
  rw [d] at d'
  injection d' with d1 _
  have : its = its' := by simpa using congrArg Array.toList d1
  subst this
  exact r.inj r'
end
abbrev Cx.wish (X : Cx) (E : Value → Shared → Prop) : Cx := { X with xe := E }
abbrev Cx.nox (X : Cx) : Cx := X.wish fun _ _ => False
theorem Cx.Ok.wish {X : Cx} (ok : X.Ok) (E : Value → Shared → Prop) : (X.wish E).Ok :=
  ⟨ok.mod, ok.kind, ok.glob, ok.blt, ok.above, ok.inj, ok.has, ok.cab, ok.hd, ok.frames, ok.stk, ok.exf, ok.bs, ok.bsz, ok.noex, ok.exfs, ok.funs, ok.frf⟩
theorem Cx.Ok.unwish {X : Cx} {E : Value → Shared → Prop} (ok : (X.wish E).Ok) : X.Ok :=
  ⟨ok.mod, ok.kind, ok.glob, ok.blt, ok.above, ok.inj, ok.has, ok.cab, ok.hd, ok.frames, ok.stk, ok.exf, ok.bs, ok.bsz, ok.noex, ok.exfs, ok.funs, ok.frf⟩
section
variable {X : Cx} {pins : List (Addr × Obj)} {σ : St} {H : Hp} {s : Shared} {E : Value → Shared → Prop}
theorem Inv.wish (I : Inv X pins σ H s) (E : Value → Shared → Prop) : Inv (X.wish E) pins σ H s := ⟨I.ok.wish E, I.os, I.bare, I.base, I.loc, I.cell, I.free, I.freeC, I.pin, I.hok, I.len⟩
theorem Inv.unwish (I : Inv (X.wish E) pins σ H s) : Inv X pins σ H s := ⟨I.ok.unwish, I.os, I.bare, I.base, I.loc, I.cell, I.free, I.freeC, I.pin, I.hok, I.len⟩
theorem SP.unwish {D : Ends} {f : Flow} {s' : Shared} (h : SP (X.wish E) pins D f s') : SP X pins D f s' := by
  cases f with
  | next => obtain ⟨σ', H', I, q⟩ := h; exact ⟨σ', H', I.unwish, q⟩
  | brk => obtain ⟨σ', H', I, q⟩ := h; exact ⟨σ', H', I.unwish, q⟩
  | cont => obtain ⟨σ', H', I, q⟩ := h; exact ⟨σ', H', I.unwish, q⟩
  | ret u => obtain ⟨v, σ', H', I, r, q⟩ := h; exact ⟨v, σ', H', I.unwish, r, q⟩
theorem PSs.nox {st : List Stmt} {t : TS} (h : PSs X.nox st t) : PSs X st t := fun pins s σ H D I hw =>
  wpAny_mono (h pins s σ H D (I.wish _) hw) (fun _ _ q => q.unwish) fun _ _ z => False.elim z
end
section
variable {X : Cx} {st : Stmt} {rest : List Stmt} {t u : TS} {e : Expr} {te : TE} {pos : Pos}
def tNext : TS := fun D σ H => D.nx σ H
def tSeq (t u : TS) : TS := fun D σ H => t { D with nx := u D } σ H
theorem pss_nil : PSs X [] tNext := fun _ _ σ H _ I h => wpAny_execs_nil ⟨σ, H, I, h⟩
theorem pss_cons (h1 : PS X st t) (h2 : PSs X rest u) : PSs X (st :: rest) (tSeq t u) := by
  intro pins s σ H D I h
  refine wpAny_execs_cons (thn (h1 pins s σ H { D with nx := u D } I h) fun f s1 q => ?_)
  cases f with
  | next =>
    obtain ⟨σ', H', I', q⟩ := q
    exact h2 pins s1 σ' H' D I' q
  | ret v => exact q
  | brk => exact q
  | cont => exact q
theorem pss_one (h1 : PS X st t) : PSs X [st] t := by
  intro pins s σ H D I h
  refine wpAny_execs_cons (thn (h1 pins s σ H D I h) fun f s1 q => ?_)
  cases f with
  | next => exact wpAny_execs_nil q
  | ret v => exact q
  | brk => exact q
  | cont => exact q
theorem Inv.quiet {pins : List (Addr × Obj)} {σ : St} {H : Hp} {s : Shared} (I : Inv X pins σ H s) : interactive X.env = false := by simp [interactive, I.ok.kind]
def tDrop (te : TE) : TS := fun D σ H => te σ H fun _ H1 => D.nx σ H1
theorem ps_expr (he : PE X e te) (hs : swapsWith e none pos.line X.env = pure false := by rfl) : PS X (.Expr e pos) (tDrop te) := by
  intro pins s σ H D I h
  exact wpAny_Expr_any (thn (he pins s σ H _ I h) fun v s1 ⟨x, H1, I1, r1, q1⟩ => ⟨σ, H1, I1, q1⟩) I.quiet hs
def tRet (te : TE) : TS := fun D σ H => te σ H D.rt
theorem ps_ret (he : PE X e te) : PS X (.Return (some e) pos) (tRet te) := by
  intro pins s σ H D I h
  exact wpAny_Return_some (thn (he pins s σ H _ I h) fun v s1 ⟨x, H1, I1, r1, q1⟩ => ⟨x, σ, H1, I1, r1, q1⟩)
def tNever : TS := fun _ _ _ => False
theorem ps_never : PS X st tNever := fun _ _ _ _ _ _ h => h.elim
end
abbrev TG := V → St → Hp → (St → Hp → Prop) → Prop
abbrev TGs := List V → St → Hp → (St → Hp → Prop) → Prop
def PG (X : Cx) (target : Expr) (t : TG) : Prop :=
  ∀ (pins : List (Addr × Obj)) (s : Shared) (σ : St) (H : Hp) (v : V) (u : Value) (Q : St → Hp → Prop), Inv X pins σ H s → RelV v u → t v σ H Q →
    wpAny (model X.prog X.w) X.A (assign target X.env u) (fun _ s' => ∃ σ' H', Inv X pins σ' H' s' ∧ Q σ' H') X.xe s
def PGs (X : Cx) (ts : List Expr) (t : TGs) : Prop :=
  ∀ (pins : List (Addr × Obj)) (s : Shared) (σ : St) (H : Hp) (vs : List V) (us : List Value) (Q : St → Hp → Prop), Inv X pins σ H s → Vals vs us → t vs σ H Q →
    wpAny (model X.prog X.w) X.A (assignInOrder ((assignEach ts X.env).map (·.2)) us) (fun _ s' => ∃ σ' H', Inv X pins σ' H' s' ∧ Q σ' H') X.xe s
abbrev TSet := V → V → V → Hp → (Hp → Prop) → Prop
abbrev TIp := V → V → Hp → VK → Prop
def PIp (X : Cx) (op : Operator) (t : TIp) : Prop :=
  ∀ (pins : List (Addr × Obj)) (s : Shared) (σ : St) (H : Hp) (x y : V) (v u : Value) (Q : VK), Inv X pins σ H s → RelV x v → RelV y u → t x y H Q →
    wpAny (model X.prog X.w) X.A (inplaceOp op v u) (EP X pins σ Q) X.xe s
section
variable {X : Cx} {pos : Pos}
def gName (i : Nat) : TG := fun v σ H Q => Q (σ.set i (some v)) H
theorem pg_name {i : Nat} {x : Str} (hN : X.N.Nodup) (hi : X.N[i]? = some x) (hx : Loc X.env.scope x) (hf : X.fn x = true ∨ X.env.scope.names.lookup x = some .local := by first | exact .inl rfl | exact .inr rfl | assumption) : PG X (.Name x pos) (gName i) := by
  intro pins s σ H v u Q I r h
  exact wpAny_assign_Name (store_ok I hN hi hx r (fun s' I' => ⟨_, H, I', h⟩) hf)
def gNil : TGs := fun vs σ H Q => vs = [] ∧ Q σ H
def gCons (t : TG) (u : TGs) : TGs := fun vs σ H Q => ∃ v r, vs = v :: r ∧ t v σ H fun σ' H' => u r σ' H' Q
theorem pgs_nil : PGs X [] gNil := by
  intro pins s σ H vs us Q I r h
  obtain ⟨e, h⟩ := h
  subst e
  cases r
  exact assignInOrder_nil ⟨σ, H, I, h⟩
theorem pgs_cons {e : Expr} {es : List Expr} {t : TG} {u : TGs} (h1 : PG X e t) (h2 : PGs X es u)
    (hs : (assignEach (e :: es) X.env).map (·.2) = assign e X.env :: (assignEach es X.env).map (·.2) := by rfl) : PGs X (e :: es) (gCons t u) := by
  intro pins s σ H vs us Q I r h
  obtain ⟨v, vr, e1, h⟩ := h
  subst e1
  cases r with
  | cons r rr =>
    rw [hs]
    refine assignInOrder_cons (thn (h1 pins s σ H _ _ _ I r h) fun _ s1 ⟨σ1, H1, I1, q1⟩ => ?_)
    exact h2 pins s1 σ1 H1 _ _ Q I1 rr q1
def gTup (K : PySem.W.Frag) (n : Nat) (t : TGs) : TG := fun v σ H Q => ∃ a xs, v = .ref a ∧ SqT K H a xs ∧ xs.length = n ∧ t xs σ H Q
theorem pg_tup {es : List Expr} {k : Nat} {t : TGs} {n : Nat} (hc : X.calm = true) (h : PGs X es t)
    (hn : (assignEach es X.env).length = n := by rfl) (hst : (assignEach es X.env).findIdx? (·.1) = none := by rfl) : PG X (.Tuple es k pos) (gTup X.K n t) := by
  intro pins s σ H v u Q I r hw
  obtain ⟨a, xs, e1, hq, hl, hw⟩ := hw
  subst e1
  cases r
  obtain ⟨its, rv, ht, hz⟩ := I.tuple hq
  refine assign_Tuple_tuple (I.ok.hd hc) ht (by simp [hn, ← hl, rv.length]) hst fun h' hx => ?_
  have I1 : Inv X pins σ H { s with heap := h' } := I.kept (t' := s.toks) fun b o e => hx b o (Nat.ne_of_lt (Heap.lt_size e)) e
  exact h pins _ σ H xs _ Q I1 (by simpa using rv) hw
def tAsg (te : TE) (g : TG) : TS := fun D σ H => te σ H fun x H1 => g x σ H1 D.nx
theorem ps_asg {tg e : Expr} {te : TE} {g : TG} (he : PE X e te) (hg : PG X tg g) (hs : swapsWithSole [tg] e pos.line X.env = pure false := by rfl) (hw : swappedStores [tg] e X.env = pure none := by rfl)
    (h1 : (assignEach [tg] X.env).map (·.2) = [assign tg X.env] := by rfl) : PS X (.Assign [tg] e pos) (tAsg te g) := by
  intro pins s σ H D I h
  refine wpAny_Assign_stores (thn (he pins s σ H _ I h) fun v s1 ⟨x, H1, I1, r1, q1⟩ => ?_) hs hw
  rw [h1]
  exact thn (hg pins s1 σ H1 x v _ I1 r1 q1) fun _ s2 q => q
theorem ps_set {i : Nat} {x : Str} {e : Expr} {te : TE} {pos' : Pos} (hN : X.N.Nodup) (hi : X.N[i]? = some x) (hx : Loc X.env.scope x) (he : PE X e te) (hs : swapsWith e (some (.Name x pos')) pos.line X.env = pure false := by rfl) (hf : X.fn x = true ∨ X.env.scope.names.lookup x = some .local := by first | exact .inl rfl | exact .inr rfl | assumption) :
    PS X (.Assign [.Name x pos'] e pos) (tAsg te (gName i)) := by
  intro pins s σ H D I h
  refine wpAny_Assign_Name (thn (he pins s σ H _ I h) fun v s1 ⟨y, H1, I1, r1, q1⟩ => ?_) hs
  exact store_ok I1 hN hi hx r1 (fun s2 I2 => ⟨_, H1, I2, q1⟩) hf
def tAug (i : Nat) (te : TE) (ti : TIp) : TS := fun D σ H => ∃ x, σ[i]? = some (some x) ∧ te σ H fun y H1 => ti x y H1 fun z H2 => D.nx (σ.set i (some z)) H2
theorem ps_aug {i : Nat} {x : Str} {e : Expr} {te : TE} {op : Operator} {ti : TIp} {pos' : Pos} (hN : X.N.Nodup) (hi : X.N[i]? = some x) (hx : Loc X.env.scope x) (he : PE X e te) (ho : PIp X op ti) (hf : X.fn x = true ∨ X.env.scope.names.lookup x = some .local := by first | exact .inl rfl | exact .inr rfl | assumption) :
    PS X (.AugAssign (.Name x pos') op e pos) (tAug i te ti) := by
  intro pins s σ H D I h
  obtain ⟨v, e1, h⟩ := h
  obtain ⟨m, hn, hl⟩ := I.loc
  have vis : Vis X.env.scope x := by rcases hx with k | k; exact .inl k; exact .inr (.inl k)
  obtain ⟨u, r, l⟩ := hl i x v hi e1 vis
  refine wpAny_AugAssign_Name ?_
  have go : wpAny (model X.prog X.w) X.A (eval e X.env) (fun w s₂ => wpAny (model X.prog X.w) X.A (inplaceOp op u w) (fun r s₃ => wpAny (model X.prog X.w) X.A (storeName X.env x r) (fun _ => SP X pins D .next) X.xe s₃) X.xe s₂) X.xe s := by
    refine thn (he pins s σ H _ I h) fun w s1 ⟨y, H1, I1, r1, q1⟩ => ?_
    refine thn (ho pins s1 σ H1 v y u w _ I1 r r1 q1) fun z s2 ⟨zv, H2, I2, r2, q2⟩ => ?_
    exact store_ok I2 hN hi hx r2 (fun s3 I3 => ⟨_, H2, I3, q2⟩) hf
  rcases l with ⟨hk, hm⟩ | ⟨hk, c, hc, hcell⟩
  · exact wpAny_loadName_local I.ok.kind hk hn hm go
  · rcases hk with hk | hk
    · exact wpAny_loadName_cell I.ok.kind hk hc hcell go
    · rcases hx with k | k
      · have : X.env.scope.names.lookup x = some .free := hk
        rw [k] at this; cases this
      · have : X.env.scope.names.lookup x = some .free := hk
        rw [k] at this; cases this
def ipI (f : Int → Int → Int) : TIp := fun x y H Q => ∃ i j, x = .int i ∧ y = .int j ∧ Q (.int (f i j)) H
theorem ip_add : PIp X .Add (ipI fun i j => i + j) := by
  intro pins s σ H x y v u Q I r1 r2 h
  obtain ⟨i, j, e1, e2, q⟩ := h
  subst e1; subst e2
  obtain ⟨t, rfl⟩ := r1
  obtain ⟨t', rfl⟩ := r2
  exact iadd_int ⟨.int _, H, I.tok _, ⟨_, rfl⟩, q⟩
theorem ip_sub : PIp X .Sub (ipI fun i j => i - j) := by
  intro pins s σ H x y v u Q I r1 r2 h
  obtain ⟨i, j, e1, e2, q⟩ := h
  subst e1; subst e2
  obtain ⟨t, rfl⟩ := r1
  obtain ⟨t', rfl⟩ := r2
  exact isub_int ⟨.int _, H, I.tok _, ⟨_, rfl⟩, q⟩
end
section
variable {X : Cx} {pos : Pos}
end
structure It where
  go : Nat → Hp → Prop
  yld : Nat → Hp → V → Hp → Prop
  stop : Nat → Hp → Prop
def FpOk (X : Cx) (pins : List (Addr × Obj)) (H : Hp) (b : Addr) : Prop :=
  H b = none ∧ b ≠ X.env.locals ∧ b ∉ X.fs ∧ (b ∈ X.ex ∨ X.s₀.heap.objs.size ≤ b) ∧ (∀ x c, X.env.cells.lookup x = some c → c ≠ b) ∧ ∀ p ∈ X.pn ++ pins, p.1 ≠ b
theorem Inv.fpOk {X : Cx} {pins : List (Addr × Obj)} {σ : St} {H H' : Hp} {s : Shared} {b : Addr} (I : Inv X pins σ H s) (hb : s.heap.objs.size ≤ b) (hn : H' b = none) : FpOk X pins H' b := by
  refine ⟨hn, Nat.ne_of_gt (Nat.lt_of_lt_of_le I.lt hb), I.nofs hb, .inr (Nat.le_trans I.sz hb), fun x c e z => ?_, fun p hp z => ?_⟩
  · obtain ⟨v, q⟩ := I.cell x c e
    exact absurd (Nat.lt_of_lt_of_le q.lt (by rw [z]; exact hb)) (Nat.lt_irrefl _)
  · exact absurd (Nat.lt_of_lt_of_le (Heap.lt_size (I.pin p hp).1) (by rw [z]; exact hb)) (Nat.lt_irrefl _)
structure Turn (P : Program) (w : World) (K : PySem.W.Frag) (tg : Expr) (J : It) (fp : List Addr) (it : Addr) (tn : Nat → Heap → Prop) : Prop where
  mem : it ∈ fp
  obj : ∀ i h, tn i h → ∀ b ∈ fp, ∃ o, h.get? b = some o ∧ ∀ v, o.data ≠ .cell v
  keep : ∀ i h h', tn i h → (∀ b ∈ fp, ∀ o, h.get? b = some o → h'.get? b = some o) → tn i h'
  item : ∀ (X : Cx), X.prog = P → X.w = w → X.K = K → X.calm = true → ∀ (i : Nat) (pins : List (Addr × Obj)) (s : Shared) (σ : St) (H : Hp) (E : Value → Shared → Prop), Inv X pins σ H s → (∀ b ∈ fp, FpOk X pins H b) → tn i s.heap → J.go i H →
    wpAny (model P w) X.A (pyNext (.ref it)) (fun r s1 => ∃ u, r = some u ∧
      wpAny (model P w) X.A (letOwnedTupleGo tg (.ref it) u) (fun _ s2 => ∃ x H', Inv X pins σ H' s2 ∧ RelV x u ∧ J.yld i H x H' ∧ tn (i + 1) s2.heap ∧ ∀ b ∈ fp, H' b = none) E s1) E s
  done : ∀ (X : Cx), X.prog = P → X.w = w → X.K = K → X.calm = true → ∀ (i : Nat) (pins : List (Addr × Obj)) (s : Shared) (σ : St) (H : Hp) (E : Value → Shared → Prop), Inv X pins σ H s → (∀ b ∈ fp, FpOk X pins H b) → tn i s.heap → J.stop i H →
    wpAny (model P w) X.A (pyNext (.ref it)) (fun r s1 => r = none ∧ Inv X pins σ H s1) E s
  self : ∀ (A : Around) (i : Nat) (s : Shared) (Q : Value → Shared → Prop) (E : Value → Shared → Prop), tn i s.heap → Q (.ref it) s → wpAny (model P w) A (pyIter (.ref it)) Q E s
abbrev TI := St → Hp → (It → Hp → Prop) → Prop
def PIE (X : Cx) (pins : List (Addr × Obj)) (σ : St) (tg : Expr) (R : It → Hp → Prop) (itv : Value) (s2 : Shared) : Prop :=
  ∃ (it : Addr) (fp : List Addr) (tn : Nat → Heap → Prop) (J : It) (H' : Hp), itv = .ref it ∧ Inv X pins σ H' s2 ∧ Turn X.prog X.w X.K tg J fp it tn ∧ tn 0 s2.heap ∧ (∀ b ∈ fp, FpOk X pins H' b) ∧ R J H'
def PI (X : Cx) (tg iter : Expr) (wi : TI) : Prop :=
  ∀ (pins : List (Addr × Obj)) (s : Shared) (σ : St) (H : Hp) (R : It → Hp → Prop), Inv X pins σ H s → wi σ H R →
    wpAny (model X.prog X.w) X.A (eval iter X.env) (fun v s1 => wpAny (model X.prog X.w) X.A (pyIter v) (PIE X pins σ tg R) X.xe s1) X.xe s
theorem go_of {M : Model} {A : Around} {E : Value → Shared → Prop} {s : Shared} {tg : Expr} {it : Addr} {u : Value} {o : Obj} {n : String} {vs : Array Value} {Q : Unit → Shared → Prop} (ho : s.heap.get? it = some o) (hc : o.cls = .type n) (hd : o.data = .fields vs)
    (hn : ["enumerate", "zip", "dict_itemiterator", "dict_reverseitemiterator", "odict_iterator", "itertools.zip_longest", "itertools.pairwise"].contains n = false) (hQ : Q () s) : wpAny M A (letOwnedTupleGo tg (.ref it) u) Q E s := by
  unfold letOwnedTupleGo
  cases tg <;> first
    | exact wpAny_pure hQ
    | (cases u <;> first
        | exact wpAny_pure hQ
        | (refine wpAny_bind (wpAny_load ho ?_)
           rw [hc, hd]
           show wpAny M A (if (["enumerate", "zip", "dict_itemiterator", "dict_reverseitemiterator", "odict_iterator", "itertools.zip_longest", "itertools.pairwise"].contains n && vs[0]? == some (rawInt _)) = true then _ else _) Q E s
           rw [if_neg (by intro h; rw [hn, Bool.false_and] at h; cases h)]
           exact wpAny_pure hQ))
def Itl (K : PySem.W.Frag) (a : Addr) : It :=
  ⟨fun i H => ∃ xs x, SqL K H a xs ∧ xs[i]? = some x, fun i H x H' => H' = H ∧ ∀ xs, SqL K H a xs → xs[i]? = some x, fun i H => ∃ xs, SqL K H a xs ∧ xs.length ≤ i⟩
def Itt (K : PySem.W.Frag) (a : Addr) : It :=
  ⟨fun i H => ∃ xs x, SqT K H a xs ∧ xs[i]? = some x, fun i H x H' => H' = H ∧ ∀ xs, SqT K H a xs → xs[i]? = some x, fun i H => ∃ xs, SqT K H a xs ∧ xs.length ≤ i⟩
def Itr (lo : Int) (n : Nat) : It := ⟨fun i _ => i < n, fun i H x H' => H' = H ∧ x = .int (lo + i), fun i _ => n ≤ i⟩
theorem turn_list {P : Program} {w : World} {K : PySem.W.Frag} {tg : Expr} (a it : Addr) : Turn P w K tg (Itl K a) [it] it (fun i h => h.IsListIter it a i) where
  mem := by simp
  obj := fun i h st b hb => by
    have e : b = it := by simpa using hb
    subst e
    obtain ⟨o, e, c, d⟩ := st
    exact ⟨o, e, fun v z => by rw [d] at z; cases z⟩
  keep := fun i h h' st k => st.at fun o e => k it (by simp) o e
  item := by
    intro X hP hw hK hc i pins s σ H E I hf st hg
    subst hP hw hK
    obtain ⟨xs, x, hq, hx⟩ := hg
    obtain ⟨its, rv, p, hz⟩ := I.list hq
    obtain ⟨u, hu, ru⟩ := rv.get hx
    obtain ⟨f0, f1, f2, f3, f4, f5⟩ := hf it (by simp)
    refine wpAny_pyNext_list_item st p.isList (x := u) (by simpa using hu) fun h' st' sb => ?_
    have I1 : Inv X pins σ H { s with heap := h' } := I.turned (t' := s.toks) (fun b o hb e => (sb.2 b hb).trans e) f0 f1 f3 f4 f5
    obtain ⟨o, e, c, d⟩ := id st'
    exact ⟨u, rfl, go_of (s := { s with heap := h' }) e c d (by decide) ⟨x, H, I1, ru, ⟨rfl, fun ys hy => by rw [I.list_inj hy hq]; exact hx⟩, st', fun b hb => (hf b hb).1⟩⟩
  done := by
    intro X hP hw hK hc i pins s σ H E I hf st hg
    subst hP hw hK
    obtain ⟨xs, hq, hx⟩ := hg
    obtain ⟨its, rv, p, hz⟩ := I.list hq
    obtain ⟨f0, f1, f2, f3, f4, f5⟩ := hf it (by simp)
    have hl := rv.length
    exact wpAny_pyNext_list_end (I.ok.hd hc) st p.isList (by simp; omega) fun h' eb => ⟨rfl, I.turned (t' := s.toks) (fun b o hb e => eb b o hb e) f0 f1 f3 f4 f5⟩
  self := fun _ _ _ _ _ st h => wpAny_pyIter_listiter st h
theorem turn_tuple {P : Program} {w : World} {K : PySem.W.Frag} {tg : Expr} (a it : Addr) : Turn P w K tg (Itt K a) [it] it (fun i h => h.IsTupleIter it a i) where
  mem := by simp
  obj := fun i h st b hb => by
    have e : b = it := by simpa using hb
    subst e
    obtain ⟨o, e, c, d⟩ := st
    exact ⟨o, e, fun v z => by rw [d] at z; cases z⟩
  keep := fun i h h' st k => st.at fun o e => k it (by simp) o e
  item := by
    intro X hP hw hK hc i pins s σ H E I hf st hg
    subst hP hw hK
    obtain ⟨xs, x, hq, hx⟩ := hg
    obtain ⟨its, rv, p, hz⟩ := I.tuple hq
    obtain ⟨u, hu, ru⟩ := rv.get hx
    obtain ⟨f0, f1, f2, f3, f4, f5⟩ := hf it (by simp)
    refine wpAny_pyNext_tuple_item st (show s.heap.IsTuple a its.toArray from p) (x := u) (by simpa using hu) fun h' st' sb => ?_
    have I1 : Inv X pins σ H { s with heap := h' } := I.turned (t' := s.toks) (fun b o hb e => (sb.2 b hb).trans e) f0 f1 f3 f4 f5
    obtain ⟨o, e, c, d⟩ := id st'
    exact ⟨u, rfl, go_of (s := { s with heap := h' }) e c d (by decide) ⟨x, H, I1, ru, ⟨rfl, fun ys hy => by rw [I.tuple_inj hy hq]; exact hx⟩, st', fun b hb => (hf b hb).1⟩⟩
  done := by
    intro X hP hw hK hc i pins s σ H E I hf st hg
    subst hP hw hK
    obtain ⟨xs, hq, hx⟩ := hg
    obtain ⟨its, rv, p, hz⟩ := I.tuple hq
    obtain ⟨f0, f1, f2, f3, f4, f5⟩ := hf it (by simp)
    have hl := rv.length
    exact wpAny_pyNext_tuple_end (I.ok.hd hc) st (show s.heap.IsTuple a its.toArray from p) (by simp; omega) fun h' eb => ⟨rfl, I.turned (t' := s.toks) (fun b o hb e => eb b o hb e) f0 f1 f3 f4 f5⟩
  self := fun _ _ _ _ _ st h => wpAny_pyIter_tupleiter st h
theorem turn_range {P : Program} {w : World} {K : PySem.W.Frag} {tg : Expr} (it : Addr) (lo : Int) (n : Nat) : Turn P w K tg (Itr lo n) [it] it (fun i h => IsRangeIter h it (lo + (i : Nat) * 1) ((n : Int) - (i : Nat)) 1) where
  mem := by simp
  obj := fun i h st b hb => by
    have e : b = it := by simpa using hb
    subst e
    exact ⟨_, st, fun v z => by
      have z' : Data.fields _ = Data.cell v := z
      cases z'⟩
  keep := fun i h h' st k => k it (by simp) _ st
  item := by
    intro X hP hw hK hc i pins s σ H E I hf st hg
    subst hP hw hK
    obtain ⟨f0, f1, f2, f3, f4, f5⟩ := hf it (by simp)
    have W := Walks.range (prog := X.prog) (w := X.w) (I.ok.hd hc) it lo 1 n
    refine W.item i s _ _ hg st fun v h' tk hv st' kk => ?_
    obtain ⟨t, rfl⟩ := hv
    have I1 : Inv X pins σ H { s with heap := h', toks := tk } := I.turned (fun b o hb e => kk b o (by simpa using hb) e) f0 f1 f3 f4 f5
    refine ⟨_, rfl, go_of (s := { s with heap := h', toks := tk }) (n := "range_iterator") st' rfl rfl (by decide) ⟨.int (lo + i), H, I1, ⟨t, ?_⟩, ⟨rfl, rfl⟩, st', fun b hb => (hf b hb).1⟩⟩
    rw [Int.mul_one]
  done := by
    intro X hP hw hK hc i pins s σ H E I hf st hg
    subst hP hw hK
    obtain ⟨f0, f1, f2, f3, f4, f5⟩ := hf it (by simp)
    exact wpAny_pyNext_range_end (I.ok.hd hc) st (by have : n ≤ i := hg; omega) fun h' eb => ⟨rfl, I.turned (t' := s.toks) (fun b o hb e => eb b o hb e) f0 f1 f3 f4 f5⟩
  self := fun _ _ _ _ _ st h => wpAny_pyIter_rangeiter st h
end L2
namespace L2
open PySem PySem.Spec PyProof.Rows
section
variable {X : Cx} {tg : Expr}
theorem range_it {pins : List (Addr × Obj)} {σ : St} {H : Hp} {s : Shared} {R : It → Hp → Prop} {E : Value → Shared → Prop} {lo hi : Int} {t u v : Tok} {tk : Nat} (I : Inv X pins σ H s) (h1 : -(2 ^ 62) ≤ lo) (h2 : lo < 2 ^ 62) (h3 : -(2 ^ 62) ≤ hi) (h4 : hi < 2 ^ 62)
    (q : R (Itr lo (hi - lo).toNat) H) : wpAny (model X.prog X.w) X.A (pyIter (.ref s.heap.objs.size)) (PIE X pins σ tg R) E { s with heap := s.heap.push { cls := .type "range", data := .fields #[.int lo t, .int hi u, .int 1 v] }, toks := tk } := by
  refine wpAny_pyIter_range (IsRange.new ..) (small_one h1 h2 h3 h4) ?_
  have I1 : Inv X pins σ H { s with heap := s.heap.push { cls := .type "range", data := .fields #[.int lo t, .int hi u, .int 1 v] }, toks := tk } := I.kept fun b o e => Heap.get?_push_of_some _ e
  refine ⟨(s.heap.push { cls := .type "range", data := .fields #[.int lo t, .int hi u, .int 1 v] }).objs.size, [(s.heap.push { cls := .type "range", data := .fields #[.int lo t, .int hi u, .int 1 v] }).objs.size], _, _, H, rfl,
    I1.kept (t' := tk) fun b o e => Heap.get?_push_of_some _ e, turn_range _ lo (hi - lo).toNat, ?_, fun b hb => ?_, q⟩
  · have e1 : lo + ((0 : Nat) : Int) * 1 = lo := by simp
    have e2 : (((hi - lo).toNat : Nat) : Int) - ((0 : Nat) : Int) = Builtin.Range.rangeSize lo hi 1 := by rw [rangeSize_one]; split <;> omega
    show IsRangeIter _ _ (lo + ((0 : Nat) : Int) * 1) ((((hi - lo).toNat : Nat) : Int) - ((0 : Nat) : Int)) 1
    rw [e1, e2]
    exact Heap.get?_push_size _ rfl
  · have e : b = (s.heap.push { cls := .type "range", data := .fields #[.int lo t, .int hi u, .int 1 v] }).objs.size := by simpa using hb
    subst e
    exact I1.fpOk (Nat.le_refl _) (I1.hok.fresh (Nat.le_refl _))
def iRng1 (ta : TA) : TI := fun σ H R => ta σ H fun vs H1 => ∃ j : Int, vs = [.int j] ∧ -(2 ^ 62) ≤ j ∧ j < 2 ^ 62 ∧ R (Itr 0 j.toNat) H1
theorem pi_range1 {a : Expr} {ta : TA} {p pos : Pos} (hg : Gl X "range") (hm : X.mg "range" = none) (ha : PA X [a] ta) (hs : starEach [a] X.env = [(false, eval a X.env)] := by rfl) : PI X tg (.Call (.Name "range" p) [a] [] pos) (iRng1 ta) := by
  intro pins s σ H R I h
  refine Call_ (ld_blt I hg hm boot_range (PyProof.Rows.callWith_type1 (thn (ha pos pins s σ H _ I h) fun us s1 ⟨vs, H1, I1, r1, q1⟩ => ?_) hs rfl))
  obtain ⟨j, e, q1, q2, q⟩ := q1
  subst e
  cases r1 with
  | cons r rr =>
    cases rr
    obtain ⟨t, rfl⟩ := r
    exact call_range_1 (range_it I1 (by omega) (by omega) q1 q2 (by simpa using q))
def tFor (wi : TI) (g : TG) (tb : TS) : TS := fun D σ H => wi σ H fun J H1 => ∃ W : Nat → Nat → St → Hp → Prop, (∃ m, W 0 m σ H1) ∧ ∀ i m σ H, W i m σ H →
  (J.stop i H ∧ D.nx σ H) ∨ (J.go i H ∧ ∃ N : St → Hp → Prop, (∀ σ' H', N σ' H' → ∃ m', m' < m ∧ W (i + 1) m' σ' H') ∧ ∀ x H', J.yld i H x H' → g x σ H' fun σ2 H2 => tb { D with nx := N, ct := N, bk := D.nx } σ2 H2)
def pinsAt (fp : List Addr) (h : Heap) : List (Addr × Obj) := fp.filterMap fun b => (h.get? b).map fun o => (b, o)
theorem mem_pinsAt {fp : List Addr} {h : Heap} {b : Addr} {o : Obj} (hb : b ∈ fp) (e : h.get? b = some o) : (b, o) ∈ pinsAt fp h := List.mem_filterMap.mpr ⟨b, hb, by rw [e]; rfl⟩
theorem of_pinsAt {fp : List Addr} {h : Heap} {p : Addr × Obj} (hp : p ∈ pinsAt fp h) : p.1 ∈ fp ∧ h.get? p.1 = some p.2 := by
  obtain ⟨b, hb, e⟩ := List.mem_filterMap.mp hp
  cases q : h.get? b with
  | none => rw [q] at e; cases e
  | some o =>
    rw [q] at e
    have e' : (b, o) = p := Option.some.inj e
    subst e'
    exact ⟨hb, q⟩
theorem Inv.pinned {pins : List (Addr × Obj)} {σ : St} {H : Hp} {s : Shared} {fp : List Addr} (I : Inv X pins σ H s) (hf : ∀ b ∈ fp, FpOk X pins H b) (ho : ∀ b ∈ fp, ∃ o, s.heap.get? b = some o ∧ ∀ v, o.data ≠ .cell v) : Inv X (pins ++ pinsAt fp s.heap) σ H s :=
  I.pins_of fun p hp => (List.mem_append.mp hp).elim (fun z => I.pin p (List.mem_append_right _ z)) fun z => by
    obtain ⟨hb, e⟩ := of_pinsAt z
    obtain ⟨f0, f1, f2, _⟩ := hf p.1 hb
    obtain ⟨o, e', d⟩ := ho p.1 hb
    rw [e] at e'; cases e'
    exact ⟨e, f0, f1, f2, d⟩
theorem Inv.unpinned {pins pl : List (Addr × Obj)} {σ : St} {H : Hp} {s : Shared} (I : Inv X (pins ++ pl) σ H s) : Inv X pins σ H s := I.pins_of fun p hp => I.pin p (List.mem_append_right _ (List.mem_append_left _ hp))
theorem ps_for {iter : Expr} {body : List Stmt} {wi : TI} {g : TG} {tb : TS} {pos : Pos} (hp : PassesOwn (model X.prog X.w) X.A X.env X.xe) (hc : X.calm = true) (hi : PI X tg iter wi) (hg : PG X tg g) (hb : PSs X body tb)
    (hs : ∀ x, foldedSetIterable iter X.env x = pure x := by intro _; rfl) : PS X (.For tg iter body [] pos) (tFor wi g tb) := by
  intro pins s σ H D I h
  refine wpAny_For (thn (hi pins s σ H _ I h) fun v s1 h1 => thn h1 fun itv s2 h2 => ?_) hs
  obtain ⟨it, fp, tn, J, H2, e, I2, T, st2, f2, W, ⟨m0, w0⟩, turn⟩ := h2
  subst e
  have stat : ∀ {H' : Hp}, (∀ b ∈ fp, H' b = none) → ∀ b ∈ fp, FpOk X pins H' b := fun hn b hb => ⟨hn b hb, (f2 b hb).2⟩
  refine codeAny_forLoop_any (fun n s' => ∃ i σ' H', Inv X pins σ' H' s' ∧ tn i s'.heap ∧ (∀ b ∈ fp, H' b = none) ∧ W i n σ' H') ?_ m0 ⟨0, σ, H2, I2, st2, fun b hb => (f2 b hb).1, w0⟩
  rintro n s3 ⟨i, σ3, H3, I3, st3, fr3, w3⟩
  rcases turn i n σ3 H3 w3 with ⟨stop, qn⟩ | ⟨go, N, hN, step⟩
  · refine wpAny_passesOwn hp (thn (T.done X rfl rfl rfl hc i pins s3 σ3 H3 X.xe I3 (stat fr3) st3 stop) fun r s4 ⟨hr, I4⟩ => ?_)
    subst hr
    exact wpAny_execs_nil ⟨σ3, H3, I4, qn⟩
  · refine wpAny_passesOwn hp (thn (T.item X rfl rfl rfl hc i pins s3 σ3 H3 X.xe I3 (stat fr3) st3 go) fun r s4 ⟨u, hr, h4⟩ => ?_)
    subst hr
    refine wpAny_passesOwn hp (thn h4 fun _ s5 ⟨x, H5, I5, r5, y5, st5, fr5⟩ => ?_)
    have I5' := I5.pinned (stat fr5) (T.obj _ _ st5)
    refine wpAny_passesOwn hp (thn (hg _ s5 σ3 H5 x u _ I5' r5 (step x H5 y5)) fun _ s6 ⟨σ6, H6, I6, q6⟩ => ?_)
    refine wpAny_passesOwn hp (thn (hb _ s6 σ6 H6 _ I6 q6) fun f s7 q7 => ?_)
    have again : ∀ {σ7 : St} {H7 : Hp}, Inv X (pins ++ pinsAt fp s5.heap) σ7 H7 s7 → N σ7 H7 → ∃ m, m < n ∧ ∃ i σ' H', Inv X pins σ' H' s7 ∧ tn i s7.heap ∧ (∀ b ∈ fp, H' b = none) ∧ W i m σ' H' := fun {σ7 H7} I7 n7 => by
      obtain ⟨m', hm, w7⟩ := hN σ7 H7 n7
      refine ⟨m', hm, i + 1, σ7, H7, I7.unpinned, T.keep _ _ _ st5 fun b hb o e => (I7.pin (b, o) (List.mem_append_right _ (List.mem_append_right _ (mem_pinsAt hb e)))).1, fun b hb => ?_, w7⟩
      obtain ⟨o, e, d⟩ := T.obj _ _ st5 b hb
      exact (I7.pin (b, o) (List.mem_append_right _ (List.mem_append_right _ (mem_pinsAt hb e)))).2.1
    cases f with
    | next => obtain ⟨σ7, H7, I7, n7⟩ := q7; exact again I7 n7
    | cont => obtain ⟨σ7, H7, I7, n7⟩ := q7; exact again I7 n7
    | brk => obtain ⟨σ7, H7, I7, q7⟩ := q7; exact ⟨σ7, H7, I7.unpinned, q7⟩
    | ret v => obtain ⟨x7, σ7, H7, I7, r7, q7⟩ := q7; exact ⟨x7, σ7, H7, I7.unpinned, r7, q7⟩
end
theorem for_list {K : PySem.W.Frag} {a : Addr} {xs : List V} {g : TG} {tb : TS} {D : Ends} {σ : St} {H : Hp} (Pv : Nat → St → Hp → Prop) (h0 : Pv 0 σ H) (hl : ∀ i σ H, i ≤ xs.length → Pv i σ H → SqL K H a xs)
    (hs : ∀ i x σ H, xs[i]? = some x → Pv i σ H → g x σ H fun σ2 H2 => tb { D with nx := Pv (i + 1), ct := Pv (i + 1), bk := D.nx } σ2 H2) (hd : ∀ σ H, Pv xs.length σ H → D.nx σ H) :
    ∃ W : Nat → Nat → St → Hp → Prop, (∃ m, W 0 m σ H) ∧ ∀ i m σ H, W i m σ H →
      ((Itl K a).stop i H ∧ D.nx σ H) ∨ ((Itl K a).go i H ∧ ∃ N : St → Hp → Prop, (∀ σ' H', N σ' H' → ∃ m', m' < m ∧ W (i + 1) m' σ' H') ∧ ∀ x H', (Itl K a).yld i H x H' → g x σ H' fun σ2 H2 => tb { D with nx := N, ct := N, bk := D.nx } σ2 H2) := by
  refine ⟨fun i m σ H => m = xs.length - i ∧ i ≤ xs.length ∧ Pv i σ H, ⟨xs.length, by simp, Nat.zero_le _, h0⟩, ?_⟩
  rintro i m σ H ⟨rfl, hi, p⟩
  have q := hl i σ H hi p
  by_cases hlt : i < xs.length
  · refine .inr ⟨⟨xs, xs[i], q, by simp [hlt]⟩, Pv (i + 1), fun σ' H' p' => ⟨xs.length - (i + 1), by omega, rfl, hlt, p'⟩, fun x H' y => ?_⟩
    obtain ⟨e, y⟩ := y
    subst e
    exact hs i x σ _ (y xs q) p
  · have e : i = xs.length := by omega
    subst e
    exact .inl ⟨⟨xs, q, Nat.le_refl _⟩, hd σ H p⟩
theorem for_tup {K : PySem.W.Frag} {a : Addr} {xs : List V} {g : TG} {tb : TS} {D : Ends} {σ : St} {H : Hp} (Pv : Nat → St → Hp → Prop) (h0 : Pv 0 σ H) (hl : ∀ i σ H, i ≤ xs.length → Pv i σ H → SqT K H a xs)
    (hs : ∀ i x σ H, xs[i]? = some x → Pv i σ H → g x σ H fun σ2 H2 => tb { D with nx := Pv (i + 1), ct := Pv (i + 1), bk := D.nx } σ2 H2) (hd : ∀ σ H, Pv xs.length σ H → D.nx σ H) :
    ∃ W : Nat → Nat → St → Hp → Prop, (∃ m, W 0 m σ H) ∧ ∀ i m σ H, W i m σ H →
      ((Itt K a).stop i H ∧ D.nx σ H) ∨ ((Itt K a).go i H ∧ ∃ N : St → Hp → Prop, (∀ σ' H', N σ' H' → ∃ m', m' < m ∧ W (i + 1) m' σ' H') ∧ ∀ x H', (Itt K a).yld i H x H' → g x σ H' fun σ2 H2 => tb { D with nx := N, ct := N, bk := D.nx } σ2 H2) := by
  refine ⟨fun i m σ H => m = xs.length - i ∧ i ≤ xs.length ∧ Pv i σ H, ⟨xs.length, by simp, Nat.zero_le _, h0⟩, ?_⟩
  rintro i m σ H ⟨rfl, hi, p⟩
  have q := hl i σ H hi p
  by_cases hlt : i < xs.length
  · refine .inr ⟨⟨xs, xs[i], q, by simp [hlt]⟩, Pv (i + 1), fun σ' H' p' => ⟨xs.length - (i + 1), by omega, rfl, hlt, p'⟩, fun x H' y => ?_⟩
    obtain ⟨e, y⟩ := y
    subst e
    exact hs i x σ _ (y xs q) p
  · have e : i = xs.length := by omega
    subst e
    exact .inl ⟨⟨xs, q, Nat.le_refl _⟩, hd σ H p⟩
theorem for_range {lo : Int} {n : Nat} {g : TG} {tb : TS} {D : Ends} {σ : St} {H : Hp} (Pv : Nat → St → Hp → Prop) (h0 : Pv 0 σ H)
    (hs : ∀ i σ H, i < n → Pv i σ H → g (.int (lo + i)) σ H fun σ2 H2 => tb { D with nx := Pv (i + 1), ct := Pv (i + 1), bk := D.nx } σ2 H2) (hd : ∀ σ H, Pv n σ H → D.nx σ H) :
    ∃ W : Nat → Nat → St → Hp → Prop, (∃ m, W 0 m σ H) ∧ ∀ i m σ H, W i m σ H →
      ((Itr lo n).stop i H ∧ D.nx σ H) ∨ ((Itr lo n).go i H ∧ ∃ N : St → Hp → Prop, (∀ σ' H', N σ' H' → ∃ m', m' < m ∧ W (i + 1) m' σ' H') ∧ ∀ x H', (Itr lo n).yld i H x H' → g x σ H' fun σ2 H2 => tb { D with nx := N, ct := N, bk := D.nx } σ2 H2) := by
  refine ⟨fun i m σ H => m = n - i ∧ i ≤ n ∧ Pv i σ H, ⟨n, by simp, Nat.zero_le _, h0⟩, ?_⟩
  rintro i m σ H ⟨rfl, hi, p⟩
  by_cases hlt : i < n
  · refine .inr ⟨hlt, Pv (i + 1), fun σ' H' p' => ⟨n - (i + 1), by omega, rfl, hlt, p'⟩, fun x H' y => ?_⟩
    obtain ⟨e, y⟩ := y
    subst e y
    exact hs i σ _ hlt p
  · have e : i = n := by omega
    subst e
    exact .inl ⟨Nat.le_refl _, hd σ H p⟩
end L2
namespace L2
open PySem PySem.Spec PyProof.Rows
abbrev R2 := V → V → Hp → VK → Prop
def OpR (X : Cx) (f : Value → Value → Sem Value) (r : R2) : Prop :=
  ∀ (pins : List (Addr × Obj)) (s : Shared) (σ : St) (H : Hp) (x y : V) (v u : Value) (Q : VK), Inv X pins σ H s → RelV x v → RelV y u → r x y H Q →
    wpAny (model X.prog X.w) X.A (f v u) (EP X pins σ Q) X.xe s
def UnR (X : Cx) (f : Value → Sem Value) (r : V → Hp → VK → Prop) : Prop :=
  ∀ (pins : List (Addr × Obj)) (s : Shared) (σ : St) (H : Hp) (x : V) (v : Value) (Q : VK), Inv X pins σ H s → RelV x v → r x H Q →
    wpAny (model X.prog X.w) X.A (f v) (EP X pins σ Q) X.xe s
def CallR (X : Cx) (f : Value) (r : List V → Hp → VK → Prop) : Prop :=
  ∀ (pins : List (Addr × Obj)) (s : Shared) (σ : St) (H : Hp) (xs : List V) (us : List Value) (Q : VK), Inv X pins σ H s → Vals xs us → r xs H Q →
    wpAny (model X.prog X.w) X.A (call f us) (EP X pins σ Q) X.xe s
def TruR (X : Cx) (r : V → Hp → (Bool → Hp → Prop) → Prop) : Prop :=
  ∀ (pins : List (Addr × Obj)) (s : Shared) (σ : St) (H : Hp) (x : V) (v : Value) (Q : Bool → Hp → Prop), Inv X pins σ H s → RelV x v → r x H Q →
    wpAny (model X.prog X.w) X.A (truthy v) (TP X pins σ Q) X.xe s
def tOp (r : R2) (ta tb : TE) : TE := fun σ H Q => ta σ H fun x H1 => tb σ H1 fun y H2 => r x y H2 Q
def tUn (r : V → Hp → VK → Prop) (ta : TE) : TE := fun σ H Q => ta σ H fun x H1 => r x H1 Q
def rI (C : Int → Int → Prop) (g : Int → Int → V) : R2 := fun x y H Q => ∃ i j, x = .int i ∧ y = .int j ∧ C i j ∧ Q (g i j) H
def rI0 (g : Int → Int → V) : R2 := fun x y H Q => ∃ i j, x = .int i ∧ y = .int j ∧ Q (g i j) H
def rU (g : Int → V) : V → Hp → VK → Prop := fun x H Q => ∃ i, x = .int i ∧ Q (g i) H
section
variable {X : Cx} {a b c : Expr} {ta tb tc : TE} {pos : Pos}
theorem binT (ha : PE X a ta) (hb : PE X b tb) {pins : List (Addr × Obj)} {s : Shared} {σ : St} {H : Hp} {R : V → V → Hp → Prop} (I : Inv X pins σ H s)
    (h : ta σ H fun x H1 => tb σ H1 fun y H2 => R x y H2) {Q : Value → Shared → Prop} {f : Value → Value → Sem Value}
    (hf : ∀ v u s2 x y H2, Inv X pins σ H2 s2 → RelV x v → RelV y u → R x y H2 → wpAny (model X.prog X.w) X.A (f v u) Q X.xe s2) :
    wpAny (model X.prog X.w) X.A (eval a X.env) (fun v s₁ => wpAny (model X.prog X.w) X.A (eval b X.env) (fun u s₂ => wpAny (model X.prog X.w) X.A (f v u) Q X.xe s₂) X.xe s₁) X.xe s := by
  refine thn (ha pins s σ H _ I h) fun v s1 ⟨x, H1, I1, r1, q1⟩ => ?_
  refine thn (hb pins s1 σ H1 _ I1 q1) fun u s2 ⟨y, H2, I2, r2, q2⟩ => ?_
  exact hf v u s2 x y H2 I2 r1 r2 q2
theorem pe_op {op : Operator} {r : R2} (ho : OpR X (binaryOp op) r) (ha : PE X a ta) (hb : PE X b tb) : PE X (.BinOp a op b pos) (tOp r ta tb) := by
  intro pins s σ H Q I h
  exact wpAny_BinOp (binT ha hb I h fun v u s2 x y H2 I2 rx ry q => ho pins s2 σ H2 x y v u Q I2 rx ry q)
theorem pe_un {op : UnaryOp} {r : V → Hp → VK → Prop} (ho : UnR X (unaryOp op) r) (ha : PE X a ta) : PE X (.UnaryOp op a pos) (tUn r ta) := by
  intro pins s σ H Q I h
  exact UnaryOp_ (thn (ha pins s σ H _ I h) fun v s1 ⟨x, H1, I1, r1, q1⟩ => ho pins s1 σ H1 x v Q I1 r1 q1)
theorem opI {f : Value → Value → Sem Value} {C : Int → Int → Prop} {g : Int → Int → Int}
    (rule : ∀ (i j : Int) (t u : Tok) (s : Shared) (Q : Value → Shared → Prop) (E : Value → Shared → Prop), C i j → Q (.int (g i j) s.toks) { s with toks := s.toks + 1 } → wpAny (model X.prog X.w) X.A (f (.int i t) (.int j u)) Q E s) :
    OpR X f (rI C fun i j => .int (g i j)) := by
  intro pins s σ H x y v u Q I rx ry h
  obtain ⟨i, j, rfl, rfl, hc, q⟩ := h
  obtain ⟨t, rfl⟩ := rx
  obtain ⟨t', rfl⟩ := ry
  exact rule i j t t' s _ _ hc ⟨.int (g i j), H, I.tok _, ⟨_, rfl⟩, q⟩
theorem opI0 {f : Value → Value → Sem Value} {g : Int → Int → Int}
    (rule : ∀ (i j : Int) (t u : Tok) (s : Shared) (Q : Value → Shared → Prop) (E : Value → Shared → Prop), Q (.int (g i j) s.toks) { s with toks := s.toks + 1 } → wpAny (model X.prog X.w) X.A (f (.int i t) (.int j u)) Q E s) :
    OpR X f (rI0 fun i j => .int (g i j)) := by
  intro pins s σ H x y v u Q I rx ry h
  obtain ⟨i, j, rfl, rfl, q⟩ := h
  obtain ⟨t, rfl⟩ := rx
  obtain ⟨t', rfl⟩ := ry
  exact rule i j t t' s _ _ ⟨.int (g i j), H, I.tok _, ⟨_, rfl⟩, q⟩
theorem opB0 {f : Value → Value → Sem Value} {g : Int → Int → Bool}
    (rule : ∀ (i j : Int) (t u : Tok) (s : Shared) (Q : Value → Shared → Prop) (E : Value → Shared → Prop), Q (.bool (g i j)) s → wpAny (model X.prog X.w) X.A (f (.int i t) (.int j u)) Q E s) :
    OpR X f (rI0 fun i j => .bl (g i j)) := by
  intro pins s σ H x y v u Q I rx ry h
  obtain ⟨i, j, rfl, rfl, q⟩ := h
  obtain ⟨t, rfl⟩ := rx
  obtain ⟨t', rfl⟩ := ry
  exact rule i j t t' s _ _ ⟨.bl (g i j), H, I, rfl, q⟩
def CPow (i j : Int) : Prop := 0 ≤ j ∧ j ≤ 1000000 ∧ i.natAbs < 2 ^ 64
def CMul (i j : Int) : Prop := (-(2 ^ 64) < i ∧ i < 2 ^ 64) ∨ (-(2 ^ 64) < j ∧ j < 2 ^ 64)
theorem CMul.ok {i j : Int} (h : CMul i j) : IntMulOk i j := by
  rcases h with ⟨h1, h2⟩ | ⟨h1, h2⟩
  · exact .of_left (intBits_le_64 h1 h2)
  · exact .of_right (intBits_le_64 h1 h2)
theorem op_add : OpR X (binaryOp .Add) (rI0 fun i j => .int (i + j)) := opI0 fun _ _ _ _ _ _ _ q => add_int q
theorem op_sub : OpR X (binaryOp .Sub) (rI0 fun i j => .int (i - j)) := opI0 fun _ _ _ _ _ _ _ q => sub_int q
theorem op_mul : OpR X (binaryOp .Mult) (rI CMul fun i j => .int (i * j)) := opI fun _ _ _ _ _ _ _ hc q => mul_int q hc.ok
theorem op_mod : OpR X (binaryOp .Mod) (rI (fun _ j => 0 < j) fun i j => .int (i % j)) := opI fun i j _ _ _ _ _ hc q => by
  have h1 : (0 : Int) < j := hc
  exact mod_int' (by omega) (by rw [Int.fmod_eq_emod_of_nonneg i (by omega)]; exact q)
theorem op_pow : OpR X (binaryOp .Pow) (rI CPow fun i j => .int (i ^ j.toNat)) := opI fun _ _ _ _ _ _ _ hc q => pow_int_small hc.1 hc.2.1 hc.2.2 q
theorem unI {f : Value → Sem Value} {g : Int → Int}
    (rule : ∀ (i : Int) (t : Tok) (s : Shared) (Q : Value → Shared → Prop) (E : Value → Shared → Prop), Q (.int (g i) s.toks) { s with toks := s.toks + 1 } → wpAny (model X.prog X.w) X.A (f (.int i t)) Q E s) :
    UnR X f (rU fun i => .int (g i)) := by
  intro pins s σ H x v Q I rx h
  obtain ⟨i, rfl, q⟩ := h
  obtain ⟨t, rfl⟩ := rx
  exact rule i t s _ _ ⟨.int (g i), H, I.tok _, ⟨_, rfl⟩, q⟩
theorem un_neg : UnR X (unaryOp .USub) (rU fun i => .int (-i)) := unI fun _ _ _ _ _ q => neg_int q
end
def scal : V → V → Bool
  | .non, .non => true | .non, .int _ => true | .int _, .non => true | .non, .bl _ => true | .bl _, .non => true | .non, .str _ => true | .str _, .non => true
  | .int _, .int _ => true | .bl _, .bl _ => true | .str _, .str _ => true | .byt _, .byt _ => true
  | .int _, .str _ => true | .str _, .int _ => true | .bl _, .str _ => true | .str _, .bl _ => true
  | _, _ => false
def rEq : R2 := fun x y H Q => scal x y = true ∧ Q (.bl (decide (x = y))) H
def rNe : R2 := fun x y H Q => scal x y = true ∧ Q (.bl (!decide (x = y))) H
theorem dec_int {i j : Int} : decide (V.int i = V.int j) = (i == j) := by
  rw [Bool.eq_iff_iff]
  simp
theorem dec_bl {i j : Bool} : decide (V.bl i = V.bl j) = (i == j) := by
  rw [Bool.eq_iff_iff]
  simp
theorem dec_str {i j : Str} : decide (V.str i = V.str j) = (i == j) := by
  rw [Bool.eq_iff_iff]
  simp
theorem dec_byt {i j : Array UInt8} : decide (V.byt i = V.byt j) = (i.toList == j.toList) := by
  rw [Bool.eq_iff_iff]
  cases i
  cases j
  simp
section
variable {X : Cx} {a b c : Expr} {ta tb tc : TE} {pos : Pos}
theorem fin_bl {pins : List (Addr × Obj)} {σ : St} {H : Hp} {s : Shared} {Q : VK} {k k' : Bool} (I : Inv X pins σ H s) (q : Q (.bl k) H) (e : k = k') : EP X pins σ Q (.bool k') s := by
  subst e
  exact ⟨.bl k, H, I, rfl, q⟩
theorem op_eq : OpR X (compareOp .Eq) rEq := by
  intro pins s σ H x y v u Q I rx ry h
  obtain ⟨hs, q⟩ := h
  cases x with
  | non =>
    cases rx
    cases y with
    | non => cases ry; exact PySem.EqNone.eq_none_none (fin_bl I q (by simp))
    | bl j => cases ry; exact PySem.EqNone.eq_none_bool (fin_bl I q (by simp))
    | int j => obtain ⟨t', rfl⟩ := ry; exact PySem.EqNone.eq_none_int (fin_bl I q (by simp))
    | str j => obtain ⟨t', rfl⟩ := ry; exact PySem.EqNone.eq_none_str (fin_bl I q (by simp))
    | _ => exact absurd (show false = true from hs) Bool.false_ne_true
  | bl i =>
    cases rx
    cases y with
    | non => cases ry; exact PySem.EqNone.eq_bool_none (fin_bl I q (by simp))
    | bl j => cases ry; exact eq_bool (fin_bl I q dec_bl)
    | str j => obtain ⟨t', rfl⟩ := ry; exact PySem.EqMixed.eq_bool_str (fin_bl I q (by simp))
    | _ => exact absurd (show false = true from hs) Bool.false_ne_true
  | int i =>
    obtain ⟨t, rfl⟩ := rx
    cases y with
    | non => cases ry; exact PySem.EqNone.eq_int_none (fin_bl I q (by simp))
    | int j => obtain ⟨t', rfl⟩ := ry; exact eq_int (fin_bl I q dec_int)
    | str j => obtain ⟨t', rfl⟩ := ry; exact PySem.EqMixed.eq_int_str (fin_bl I q (by simp))
    | _ => exact absurd (show false = true from hs) Bool.false_ne_true
  | str i =>
    obtain ⟨t, rfl⟩ := rx
    cases y with
    | non => cases ry; exact PySem.EqNone.eq_str_none (fin_bl I q (by simp))
    | bl j => cases ry; exact PySem.EqMixed.eq_str_bool (fin_bl I q (by simp))
    | int j => obtain ⟨t', rfl⟩ := ry; exact PySem.EqMixed.eq_str_int (fin_bl I q (by simp))
    | str j => obtain ⟨t', rfl⟩ := ry; exact eq_str (fin_bl I q dec_str)
    | _ => exact absurd (show false = true from hs) Bool.false_ne_true
  | byt i =>
    obtain ⟨t, rfl⟩ := rx
    cases y with
    | byt j => obtain ⟨t', rfl⟩ := ry; exact PySem.W.eq_bytes (fin_bl I q dec_byt)
    | _ => exact absurd (show false = true from hs) Bool.false_ne_true
  | _ => cases y <;> exact absurd (show false = true from hs) Bool.false_ne_true
theorem op_ne : OpR X (compareOp .NotEq) rNe := by
  intro pins s σ H x y v u Q I rx ry h
  obtain ⟨hs, q⟩ := h
  cases x with
  | non =>
    cases rx
    cases y with
    | non => cases ry; exact PySem.EqNone.ne_none_none (fin_bl I q (by simp))
    | bl j => cases ry; exact PySem.EqNone.ne_none_bool (fin_bl I q (by simp))
    | int j => obtain ⟨t', rfl⟩ := ry; exact PySem.EqNone.ne_none_int (fin_bl I q (by simp))
    | str j => obtain ⟨t', rfl⟩ := ry; exact PySem.EqNone.ne_none_str (fin_bl I q (by simp))
    | _ => exact absurd (show false = true from hs) Bool.false_ne_true
  | bl i =>
    cases rx
    cases y with
    | non => cases ry; exact PySem.EqNone.ne_bool_none (fin_bl I q (by simp))
    | bl j => cases ry; exact ne_bool (fin_bl I q (congrArg not dec_bl))
    | str j => obtain ⟨t', rfl⟩ := ry; exact PySem.EqMixed.ne_bool_str (fin_bl I q (by simp))
    | _ => exact absurd (show false = true from hs) Bool.false_ne_true
  | int i =>
    obtain ⟨t, rfl⟩ := rx
    cases y with
    | non => cases ry; exact PySem.EqNone.ne_int_none (fin_bl I q (by simp))
    | int j => obtain ⟨t', rfl⟩ := ry; exact ne_int (fin_bl I q (congrArg not dec_int))
    | str j => obtain ⟨t', rfl⟩ := ry; exact PySem.EqMixed.ne_int_str (fin_bl I q (by simp))
    | _ => exact absurd (show false = true from hs) Bool.false_ne_true
  | str i =>
    obtain ⟨t, rfl⟩ := rx
    cases y with
    | non => cases ry; exact PySem.EqNone.ne_str_none (fin_bl I q (by simp))
    | bl j => cases ry; exact PySem.EqMixed.ne_str_bool (fin_bl I q (by simp))
    | int j => obtain ⟨t', rfl⟩ := ry; exact PySem.EqMixed.ne_str_int (fin_bl I q (by simp))
    | str j => obtain ⟨t', rfl⟩ := ry; exact ne_str (fin_bl I q (congrArg not dec_str))
    | _ => exact absurd (show false = true from hs) Bool.false_ne_true
  | byt i =>
    obtain ⟨t, rfl⟩ := rx
    cases y with
    | byt j => obtain ⟨t', rfl⟩ := ry; exact PySem.W.ne_bytes (fin_bl I q (congrArg not dec_byt))
    | _ => exact absurd (show false = true from hs) Bool.false_ne_true
  | _ => cases y <;> exact absurd (show false = true from hs) Bool.false_ne_true
theorem op_lt : OpR X (compareOp .Lt) (rI0 fun i j => .bl (decide (i < j))) := opB0 fun _ _ _ _ _ _ _ q => lt_int q
theorem op_le : OpR X (compareOp .LtE) (rI0 fun i j => .bl (decide (i ≤ j))) := opB0 fun _ _ _ _ _ _ _ q => le_int q
theorem op_gt : OpR X (compareOp .Gt) (rI0 fun i j => .bl (decide (j < i))) := opB0 fun _ _ _ _ _ _ _ q => gt_int q
theorem op_ge : OpR X (compareOp .GtE) (rI0 fun i j => .bl (decide (j ≤ i))) := opB0 fun _ _ _ _ _ _ _ q => ge_int q
theorem op_isN : OpR X (compareOp .Is) (fun x y H Q => y = .non ∧ Q (.bl (decide (x = .non))) H) := by
  intro pins s σ H x y v u Q I rx ry h
  obtain ⟨rfl, q⟩ := h
  cases ry
  refine is_none_gen (fin_bl I q ?_)
  cases x <;> first
    | (cases rx; rfl)
    | (obtain ⟨t, rfl⟩ := rx; rfl)
theorem op_notN : OpR X (compareOp .IsNot) (fun x y H Q => y = .non ∧ Q (.bl (!decide (x = .non))) H) := by
  intro pins s σ H x y v u Q I rx ry h
  obtain ⟨rfl, q⟩ := h
  cases ry
  refine isnot_none_gen (fin_bl I q ?_)
  cases x <;> first
    | (cases rx; rfl)
    | (obtain ⟨t, rfl⟩ := rx; rfl)
theorem nomark (b : Expr) {op : CmpOp} (h : op ≠ .In := by decide) (h2 : op ≠ .NotIn := by decide) : behindInMarks op b = false := by
  have e1 : (op == CmpOp.In) = false := by cases op <;> first | rfl | exact absurd rfl h
  have e2 : (op == CmpOp.NotIn) = false := by cases op <;> first | rfl | exact absurd rfl h2
  cases b <;> simp [behindInMarks, e1, e2]
theorem pe_cmpR {op : CmpOp} {r : R2} (ho : OpR X (compareOp op) r) (ha : PE X a ta) (hb : PE X b tb) (hm : behindInMarks op b = false) : PE X (.Compare a [op] [b] pos) (tOp r ta tb) := by
  intro pins s σ H Q I h
  exact wpAny_Compare1 (binT ha hb I h fun v u s2 x y H2 I2 rx ry q => ho pins s2 σ H2 x y v u Q I2 rx ry q) hm
def TruV (K : PySem.W.Frag) (x : V) (H : Hp) (k : Bool) : Prop :=
  match x with
  | .non => k = false
  | .bl b => k = b
  | .int i => k = (i != 0)
  | .str y => y.length ≤ sizeLine ∧ k = ((y.length : Int) != 0)
  | .byt y => y.size ≤ sizeLine ∧ k = ((y.size : Int) != 0)
  | .ref p => (∃ xs, SqL K H p xs ∧ k = !xs.isEmpty) ∨ (∃ xs, SqT K H p xs ∧ k = !xs.isEmpty) ∨ ∃ kvs, H p = some (.dK kvs) ∧ k = !kvs.isEmpty
  | _ => False
theorem isEmpty_kv {κ : Type} {kvs : List (κ × V)} {vs : List (κ × Value)} (r : KV kvs vs) : (!vs.isEmpty) = !kvs.isEmpty := by
  cases r <;> rfl
theorem isEmpty_of {xs : List V} {its : List Value} (r : Vals xs its) : (!its.toArray.isEmpty) = !xs.isEmpty := by
  cases r <;> simp
theorem line63 : (sizeLine : Nat) < 2 ^ 63 := by rw [sizeLine_eq]; decide
theorem tru_ok : TruR X (fun x H Q => ∃ k, TruV X.K x H k ∧ Q k H) := by
  intro pins s σ H x v Q I rx h
  obtain ⟨k, e, q⟩ := h
  have hl := line63
  have hs : sizeLine = 16777216 := sizeLine_eq
  cases x with
  | non =>
    cases rx
    have e' : k = false := e
    subst e'
    exact truthy_none ⟨H, I, q⟩
  | bl b =>
    cases rx
    have e' : k = b := e
    subst e'
    exact wpAny_truthy_bool ⟨H, I, q⟩
  | int i =>
    obtain ⟨t, rfl⟩ := rx
    have e' : k = (i != 0) := e
    subst e'
    exact PySem.P.truthy_int ⟨H, I, q⟩
  | str y =>
    obtain ⟨t, rfl⟩ := rx
    obtain ⟨hy, e'⟩ : y.length ≤ sizeLine ∧ k = ((y.length : Int) != 0) := e
    subst e'
    exact PySem.P.truthy_str (by omega) ⟨H, I.tok _, q⟩
  | byt y =>
    obtain ⟨t, rfl⟩ := rx
    obtain ⟨hy, e'⟩ : y.size ≤ sizeLine ∧ k = ((y.size : Int) != 0) := e
    subst e'
    exact PySem.W.truthy_bytes (by omega) ⟨H, I.tok _, q⟩
  | ref p =>
    cases rx
    have e' : (∃ xs, SqL X.K H p xs ∧ k = !xs.isEmpty) ∨ (∃ xs, SqT X.K H p xs ∧ k = !xs.isEmpty) ∨ ∃ kvs, H p = some (.dK kvs) ∧ k = !kvs.isEmpty := e
    rcases e' with ⟨xs, hx, e'⟩ | ⟨xs, hx, e'⟩ | ⟨kvs, hx, e'⟩
    · subst e'
      obtain ⟨its, r, pl, hz⟩ := I.list hx
      have hlen := r.length
      exact wpAny_truthy_list pl.isList (by simp only [List.size_toArray]; omega) ⟨H, I.tok _, by rw [isEmpty_of r]; exact q⟩
    · subst e'
      obtain ⟨its, r, pl, hz⟩ := I.tuple hx
      have hlen := r.length
      exact truthy_tuple pl (by simp only [List.size_toArray]; omega) ⟨H, I.tok _, by rw [isEmpty_of r]; exact q⟩
    · subst e'
      obtain ⟨hz, hS, vs, r, m⟩ : kvs.length ≤ sizeLine ∧ (p == sysModules) = false ∧ ∃ vs, KV kvs vs ∧ s.heap.DictOf (mixKind X.prog X.w) p vs := I.hok p _ hx
      have hlen : kvs.length = vs.length := Paired.length r
      exact wpAny_truthy_dict hS m (by omega) ⟨H, I.tok _, by rw [isEmpty_kv r]; exact q⟩
  | _ => exact (show False from e).elim
theorem op_add_str : OpR X (binaryOp .Add) (fun x y H Q => ∃ i j, x = .str i ∧ y = .str j ∧ i.length + j.length ≤ sizeLine ∧ Q (.str (i ++ j)) H) := by
  intro pins s σ H x y v u Q I rx ry h
  obtain ⟨i, j, rfl, rfl, hz, q⟩ := h
  obtain ⟨t, rfl⟩ := rx
  obtain ⟨t', rfl⟩ := ry
  exact add_str (fun t' tk => ⟨.str (i ++ j), H, I.tok _, ⟨_, rfl⟩, q⟩) hz
theorem vals1 {x : V} {us : List Value} (r : Vals [x] us) : ∃ u, us = [u] ∧ RelV x u := by
  cases r with
  | cons r1 r2 => cases r2; exact ⟨_, rfl, r1⟩
theorem vals2 {x y : V} {us : List Value} (r : Vals [x, y] us) : ∃ u w', us = [u, w'] ∧ RelV x u ∧ RelV y w' := by
  cases r with
  | cons r1 r2 =>
    cases r2 with
    | cons r3 r4 => cases r4; exact ⟨_, _, rfl, r1, r3⟩
theorem call_abs : CallR X (.builtin "abs") (fun xs H Q => ∃ i, xs = [.int i] ∧ Q (.int (if i < 0 then -i else i)) H) := by
  intro pins s σ H xs us Q I r h
  obtain ⟨i, rfl, q⟩ := h
  obtain ⟨u, rfl, t, rfl⟩ := vals1 r
  exact call_abs_int fun u tk => ⟨.int (if i < 0 then -i else i), H, I.tok _, ⟨_, rfl⟩, q⟩
theorem call_max2 (hc : X.calm = true) : CallR X (.builtin "max") (fun xs H Q => ∃ i j, xs = [.int i, .int j] ∧ Q (.int (if j > i then j else i)) H) := by
  intro pins s σ H xs us Q I r h
  obtain ⟨i, j, rfl, q⟩ := h
  obtain ⟨u, w', rfl, ⟨t, rfl⟩, ⟨t', rfl⟩⟩ := vals2 r
  refine max_two_ints (I.ok.hd hc) fun h' tk k => ⟨_, H, I.kept k, ?_, q⟩
  by_cases hj : j > i
  · rw [if_pos hj, if_pos hj]; exact ⟨_, rfl⟩
  · rw [if_neg hj, if_neg hj]; exact ⟨_, rfl⟩
theorem call_min2 (hc : X.calm = true) : CallR X (.builtin "min") (fun xs H Q => ∃ i j, xs = [.int i, .int j] ∧ Q (.int (if j < i then j else i)) H) := by
  intro pins s σ H xs us Q I r h
  obtain ⟨i, j, rfl, q⟩ := h
  obtain ⟨u, w', rfl, ⟨t, rfl⟩, ⟨t', rfl⟩⟩ := vals2 r
  refine min_two_ints (I.ok.hd hc) fun h' tk k => ⟨_, H, I.kept k, ?_, q⟩
  by_cases hj : j < i
  · rw [if_pos hj, if_pos hj]; exact ⟨_, rfl⟩
  · rw [if_neg hj, if_neg hj]; exact ⟨_, rfl⟩
theorem call_int1 : CallR X (.type "int") (fun xs H Q => (∃ i, xs = [.int i] ∧ Q (.int i) H) ∨ ∃ k, xs = [.bl k] ∧ Q (.int (if k then 1 else 0)) H) := by
  intro pins s σ H xs us Q I r h
  rcases h with ⟨i, rfl, q⟩ | ⟨k, rfl, q⟩
  · obtain ⟨u, rfl, t, rfl⟩ := vals1 r
    exact call_int_int ⟨.int i, H, I, ⟨_, rfl⟩, q⟩
  · obtain ⟨u, rfl, r1⟩ := vals1 r
    cases r1
    exact call_int_bool ⟨.int (if k then 1 else 0), H, I.tok _, ⟨_, rfl⟩, q⟩
end
end L2
namespace L2
open PySem PySem.Spec PyProof.Rows
structure ObjM (h : Heap) (x dx C : Addr) (mA : Str → Option Value) : Prop where
  obj : h.get? x = some (PySem.W.instObj C dx)
  ns : h.Ns1 dx mA
  ne : dx ≠ x
theorem lookIn_ns {h : Heap} {dx : Addr} {mA : Str → Option Value} (n : h.Ns1 dx mA) : ∃ od, h.get? dx = some od ∧ ∀ name, PySem.W.lookIn name od = some (mA name) := by
  obtain ⟨o, es, ep, ho, hd, hk, _, hm⟩ := n
  refine ⟨o, ho, fun name => ?_⟩
  have e := hm name
  unfold nsFind findBy at e
  rw [← Array.find?_toList] at e
  unfold PySem.W.lookIn
  rw [hd]
  dsimp only
  split
  · rename_i y q
    rw [q] at e
    exact congrArg some e
  · rename_i q
    rw [q] at e
    have a : es.toList.any (·.refKey) = false := by
      rw [List.any_eq_false]
      intro y hy
      obtain ⟨z, t, hkey⟩ := hk y (Array.mem_toList_iff.mp hy)
      simp [DictEntry.refKey, hkey]
    have a' : ¬ es.toList.any (·.refKey) = true := by rw [a]; exact Bool.false_ne_true
    rw [if_neg a']
    exact congrArg some e
theorem ObjM.look {h : Heap} {x dx C : Addr} {mA : Str → Option Value} (I : ObjM h x dx C mA) : ∃ od, PySem.W.InstAt h x (PySem.W.instObj C dx) C (some od) ∧ ∀ name, PySem.W.lookIn name od = some (mA name) :=
  let ⟨od, ho, hl⟩ := lookIn_ns I.ns
  ⟨od, ⟨I.obj, rfl, rfl, ho⟩, hl⟩
section
variable {prog : Program} {w : World} {A : Around} {E : Value → Shared → Prop} {s : Shared} {K : PySem.W.Frag} {x dx C f : Addr} {mA : Str → Option Value} {name : Str} {v : Value}
end
section
variable {P : Program} {w : World} {H H' : Hp} {h h' : Heap} {a C dx : Addr} {fs fs' : List (Str × V)}
theorem ins_get (hok : HOk P w H h) (e : H a = some (.ins C dx fs)) : ∃ mA, ObjM h a dx C mA ∧ (∀ f, RelO (fs.lookup f) (mA f)) ∧ PySem.Within mA (fs.map (·.1)) ∧ fs.length ≤ 1000 ∧ H dx = some (.own a) := by
  obtain ⟨d, z, ne, ob, mA, n, r, q⟩ := (show ObjOk P w H h a (.ins C dx fs) from hok a _ e)
  exact ⟨mA, ⟨ob, n, ne⟩, r, q, z, d⟩
end
structure Cls (K : PySem.W.Frag) (C : Addr) : Prop where
  pg : PySem.W.plainGet K C Str.empty = true
  hd : PySem.W.hasDictIn K C = true
  po : PySem.W.plainOver K C = true
  sa : PySem.W.findIn K (.ref C) "__setattr__" = some (some (.builtin "object.__setattr__"))
theorem Cls.get {K : PySem.W.Frag} {C : Addr} (c : Cls K C) (f : Str) : PySem.W.plainGet K C f = true := c.pg
structure Con (K : PySem.W.Frag) (C : Addr) (f : Str) (v : V) (u : Value) : Prop where
  at_ : PySem.W.findIn K (.ref C) f = some (some u)
  rel : RelV v u
  get : PySem.W.specialIn K u "__get__" = some none
  cp : PySem.W.copiedNames.contains f = false
structure Meth (K : PySem.W.Frag) (C : Addr) (m : Str) (f : Addr) : Prop where
  at_ : PySem.W.findIn K (.ref C) m = some (some (.ref f))
  fn : PySem.W.isFn K (.ref f) = true
  kp : PySem.W.keepIn K (.ref f) = true
section
variable {X : Cx} {pins : List (Addr × Obj)} {σ : St} {H : Hp} {s : Shared} {a C dx : Addr} {fs : List (Str × V)} {f : Str} {v : V} {A : Around} {E : Value → Shared → Prop}
end
section
variable {X : Cx} {o e value : Expr} {f : Str} {pos pos' tpos : Pos} {ta tv : TE}
end
section
variable {X : Cx} {pins : List (Addr × Obj)} {σ : St} {H : Hp} {s : Shared} {A : Around} {E : Value → Shared → Prop} {Q : Value → Shared → Prop} {c : Value} {b : Bool}
inductive TyOf (K : PySem.W.Frag) (H : Hp) : V → Value → Prop where
  | non : TyOf K H .non (.type "NoneType")
  | bl (x : Bool) : TyOf K H (.bl x) (.type "bool")
  | int (i : Int) : TyOf K H (.int i) (.type "int")
  | str (x : Str) : TyOf K H (.str x) (.type "str")
  | flt (x : UInt64) : TyOf K H (.flt x) (.type "float")
  | lst {a : Addr} {xs : List V} (e : H a = some (.lst xs)) : TyOf K H (.ref a) (.type "list")
  | frz {a : Addr} {o : Obj} {xs : List V} (e : H a = some (.frz o (.lst xs))) : TyOf K H (.ref a) (.type "list")
  | tup {a : Addr} {xs : List V} (e : H a = some (.tup xs)) : TyOf K H (.ref a) (.type "tuple")
  | dK {a : Addr} {kvs : List (Key × V)} (e : H a = some (.dK kvs)) : TyOf K H (.ref a) (.type "dict")
  | dT {a : Addr} {kvs : List (List Key × V)} (e : H a = some (.dT kvs)) : TyOf K H (.ref a) (.type "dict")
  | ins {a C dx : Addr} {fs : List (Str × V)} (e : H a = some (.ins C dx fs)) (cl : Cls K C) (ha : PySem.W.findIn K (.ref C) "__class__" = some (some (.builtin "object.__class__")))
      (hn : PySem.W.specialIn K (.builtin "object.__class__") "__get__" = some (some (.builtin "getset_descriptor.__get__"))) (htk : PySem.W.takesIn K (.builtin "object.__class__") = some true)
      (hm : PySem.W.mroIn K C (.type "object") = some true) : TyOf K H (.ref a) (.ref C)
theorem isinst_ok {x : V} {u t : Value} (I : Inv X pins σ H s) (rx : RelV x u) (ty : TyOf X.K H x t) (e : PySem.W.kitOne X.K t c = some b) (h : ∀ tk, Q (.bool b) { s with toks := tk }) :
    wpAny (model X.prog X.w) A (call (.builtin "isinstance") [u, c]) Q E s := by
  cases ty with
  | non => cases (show u = Value.none from rx); exact PySem.W.kia_one PySem.W.kitx_none I.kIn True.intro e (fun z => nomatch z) h
  | bl y => cases (show u = Value.bool y from rx); exact PySem.W.kia_one PySem.W.kitx_bool I.kIn True.intro e (fun z => nomatch z) h
  | int i => obtain ⟨t, q⟩ := (show ∃ t, u = Value.int i t from rx); cases q; exact PySem.W.kia_one PySem.W.kitx_int I.kIn True.intro e (fun z => nomatch z) h
  | str y => obtain ⟨t, q⟩ := (show ∃ t, u = Value.str y t from rx); cases q; exact PySem.W.kia_one PySem.W.kitx_str I.kIn True.intro e (fun z => nomatch z) h
  | flt y => obtain ⟨t, q⟩ := (show ∃ t, u = Value.float y t from rx); cases q; exact PySem.W.kia_one PySem.W.kitx_float I.kIn True.intro e (fun z => nomatch z) h
  | @lst a xs ea =>
    cases (show u = Value.ref a from rx)
    obtain ⟨_, _, n, _, h1⟩ := (show ObjOk X.prog X.w H s.heap a (.lst xs) from I.hok a _ ea)
    exact PySem.W.kia_one PySem.W.kitx_list I.kIn ⟨_, h1, rfl⟩ e (fun z => nomatch z) h
  | @frz a ob xs ea =>
    cases (show u = Value.ref a from rx)
    obtain ⟨_, _, _, n, _, h1⟩ := (show ObjOk X.prog X.w H s.heap a (.frz ob (.lst xs)) from I.hok a _ ea)
    exact PySem.W.kia_one PySem.W.kitx_list I.kIn ⟨_, h1, rfl⟩ e (fun z => nomatch z) h
  | @tup a xs ea =>
    cases (show u = Value.ref a from rx)
    obtain ⟨_, _, _, p⟩ := (show ObjOk X.prog X.w H s.heap a (.tup xs) from I.hok a _ ea)
    obtain ⟨o, h1, h2, _⟩ := p
    exact PySem.W.kia_one PySem.W.kitx_tuple I.kIn ⟨o, h1, h2⟩ e (fun z => nomatch z) h
  | @dK a kvs ea =>
    cases (show u = Value.ref a from rx)
    obtain ⟨_, _, vs, _, p⟩ := (show ObjOk X.prog X.w H s.heap a (.dK kvs) from I.hok a _ ea)
    obtain ⟨o, es, ep, h1, h2, _⟩ := p
    exact PySem.W.kia_one PySem.W.kitx_dict I.kIn ⟨o, h1, h2.1⟩ e (fun z => nomatch z) h
  | @dT a kvs ea =>
    cases (show u = Value.ref a from rx)
    obtain ⟨_, _, xs, _, o, es, ep, h1, h2, _⟩ := (show ObjOk X.prog X.w H s.heap a (.dT kvs) from I.hok a _ ea)
    exact PySem.W.kia_one PySem.W.kitx_dict I.kIn ⟨o, h1, h2.1⟩ e (fun z => nomatch z) h
  | @ins a C dx fs ea cl ha hn htk hm =>
    cases (show u = Value.ref a from rx)
    obtain ⟨mA, O, _⟩ := ins_get I.hok ea
    obtain ⟨od, J, _⟩ := O.look
    exact PySem.W.kia_one (PySem.W.kitx_own (cl.get _) cl.hd ha hn htk hm) I.kIn J e (fun z => nomatch z) h
end
end L2
namespace L2
open PySem PySem.Spec PyProof.Rows
structure Room (k : Nat) (A : Around) : Prop where
  hd : A.handled = none
  dp : A.depth + 3 * k + 5 < recursionLimit
  un : A.units + 16 * k + 200 < cLine
  gd : A.guards = some []
theorem Room.mono {j k : Nat} {A : Around} (r : Room k A) (h : j ≤ k) : Room j A := ⟨r.hd, by have := r.dp; omega, by have := r.un; omega, r.gd⟩
theorem Room.deeper {k : Nat} {A : Around} (r : Room (k + 1) A) (env : Env) : Room k (A.deeper env) :=
  ⟨r.hd, by have := r.dp; show A.depth + 1 + 3 * k + 5 < _; omega, by have := r.un; show A.units + 3 + 16 * k + 200 < _; omega, r.gd⟩
theorem Room.depth {k : Nat} {A : Around} (r : Room k A) : A.depth < recursionLimit := by have := r.dp; omega
theorem Room.units {k : Nat} {A : Around} (r : Room k A) : A.units + 64 < cLine := by have := r.un; omega
theorem Room.units0 {k : Nat} {A : Around} (r : Room k A) : A.units < cLine := by have := r.un; omega
def tNil : TA := fun _ H Q => Q [] H
def tCons (ta : TE) (tr : TA) : TA := fun σ H Q => ta σ H fun x H1 => tr σ H1 fun xs H2 => Q (x :: xs) H2
section
variable {X : Cx} {e : Expr} {es : List Expr} {te : TE} {t : TA} {pos : Pos}
theorem pa_nil : PA X [] tNil := fun _ _ _ _ H Q I h => Calls.spliced_nil ⟨[], H, I, .nil, h⟩
theorem pa_cons (ha : PE X e te) (hr : PA X es t) (hs : starEach (e :: es) X.env = (false, eval e X.env) :: starEach es X.env := by rfl) : PA X (e :: es) (tCons te t) := by
  intro pos pins s σ H Q I h
  rw [hs]
  show wpAny _ _ (spliced ((false, eval e X.env) :: backTo pos (starEach es X.env))) _ _ s
  refine Calls.spliced_cons (thn (ha pins s σ H _ I h) fun u s1 ⟨x, H1, I1, r1, q1⟩ => ?_)
  exact thn (hr pos pins s1 σ H1 _ I1 q1) fun us s2 ⟨xs, H2, I2, r2, q2⟩ => ⟨x :: xs, H2, I2, .cons r1 r2, q2⟩
def tTup (t : TA) : TE := fun σ H Q => t σ H fun xs H1 => xs.length ≤ sizeLine ∧ ∀ p, H1 p = none → Q (.ref p) (upd H1 p (.tup xs))
def tLst (t : TA) : TE := fun σ H Q => t σ H fun xs H1 => xs.length ≤ sizeLine ∧ ∀ p, H1 p = none → Q (.ref p) (upd H1 p (.lst xs))
theorem pe_tup {x1} (h : PA X es t) : PE X (.Tuple es x1 pos) (tTup t) := by
  intro pins s σ H Q I hq
  refine wpAny_Tuple_spliced (thn (h pos pins s σ H _ I hq) fun us s1 ⟨xs, H1, I1, r, z, q⟩ => ⟨by rw [← r.length]; exact z, ?_⟩)
  have hf : H1 s1.heap.objs.size = none := I1.hok.fresh (Nat.le_refl _)
  refine ⟨.ref s1.heap.objs.size, upd H1 s1.heap.objs.size (.tup xs), I1.laid (t' := s1.toks) (fun b u e => Heap.get?_push_of_some _ e) (Nat.le_refl _) ?_, rfl, q _ hf⟩
  exact ⟨z, us, r, ⟨_, Heap.get?_push_size _ rfl, rfl, _, rfl⟩⟩
theorem pe_lst (h : PA X es t) : PE X (.List es pos) (tLst t) := by
  intro pins s σ H Q I hq
  refine wpAny_List_spliced (thn (h pos pins s σ H _ I hq) fun us s1 ⟨xs, H1, I1, r, z, q⟩ => ⟨by rw [← r.length]; exact z, ?_⟩)
  have hf : H1 s1.heap.objs.size = none := I1.hok.fresh (Nat.le_refl _)
  refine ⟨.ref s1.heap.objs.size, upd H1 s1.heap.objs.size (.lst xs), I1.laid (t' := s1.toks) (fun b u e => Heap.get?_push_of_some _ e) (Nat.le_refl _) ?_, rfl, q _ hf⟩
  exact ⟨z, us, 0, r, Heap.get?_push_size _ rfl⟩
end
abbrev Sp := List V → Hp → VK → XK → Prop
abbrev CXT := List Env → Hp → Shared → XK → Value → Shared → Prop
structure Env0 (P : Program) (w : World) (K : PySem.W.Frag) (mg : Str → Option Value) (base : Heap) (A : Around) (outer : List Env) (s : Shared) (H : Hp) : Prop where
  frames : A.frames = some outer
  mod : Mod K mg base
  bs : ∀ b o, base.get? b = some o → s.heap.get? b = some o ∧ H b = none
  bsz : base.objs.size ≤ s.heap.objs.size
  funs : s.heap.FunFrames base outer
  frf : ∀ b ∈ frs outer, H b = none
  hok : HOk P w H s.heap
  bare : AllBare s.gens
def CE (outer : List Env) (P : Program) (w : World) (H : Hp) (s : Shared) (Q : VK) (u : Value) (s' : Shared) : Prop :=
  ∃ v H', s'.os = s.os ∧ AllBare s'.gens ∧ Un (frs outer) [] H H' s.heap s'.heap ∧ HOk P w H' s'.heap ∧ RelV v u ∧ Q v H'
def CR (CX : CXT) (outer : List Env) (P : Program) (w : World) (H : Hp) (s : Shared) (Q : VK) (E : XK) (r : Result) (s' : Shared) : Prop :=
  match r with
  | .ok (.ret u) => CE outer P w H s Q u s'
  | .ok _ => False
  | .error e => CX outer H s E e s'
structure FnOk (P : Program) (w : World) (K : PySem.W.Frag) (mg : Str → Option Value) (base : Heap) (CX : CXT) (k : Nat) (f : Addr) (fd : FuncData) (ps : List Str) (sp : Sp) : Prop where
  len : ∀ vs H Q E, sp vs H Q E → vs.length = ps.length
  run : ∀ (A : Around) (outer : List Env) (s : Shared) (H : Hp) (args : Args) (us : List Value) (vs : List V) (Q : VK) (E : XK), Room k A → Env0 P w K mg base A outer s H → BindsTo s fd args (ps.zip us) → Vals vs us → sp vs H Q E →
    codeAny (model P w) A (.call (.ref f) args) (CR CX outer P w H s Q E) s
section
variable {X : Cx} {pins : List (Addr × Obj)} {σ : St} {H : Hp} {s s' : Shared}
theorem Inv.env0 (I : Inv X pins σ H s) : Env0 X.prog X.w X.K X.mg X.base X.A X.stack s H :=
  ⟨I.ok.frames, I.ok.mod, I.bs, Nat.le_trans I.ok.bsz I.sz, I.stack, I.stkFree, I.hok, I.bare⟩
theorem Inv.after {Q : VK} {u : Value} (I : Inv X pins σ H s) (h : CE X.stack X.prog X.w H s Q u s') : EP X pins σ Q u s' := by
  obtain ⟨v, H', os, bare, un, hok, r, q⟩ := h
  obtain ⟨hh, g, d, t, os'⟩ := s'
  obtain rfl : os' = s.os := os
  exact ⟨v, H', I.call (h' := hh) (g' := g) (d' := d) (t' := t) (ch := []) un hok bare (fun b z => absurd z (by simp)), r, q⟩
end
def tCall (sp : Sp) (dvs : List V) (E : XK) (t : TA) : TE := fun σ H Q => t σ H fun vs H1 => sp (vs ++ dvs) H1 Q E
def Binds (K : PySem.W.Frag) (fd : FuncData) (ps : List Str) (ds : List Value) : Prop :=
  ∀ (s : Shared) (us : List Value), K.In s.heap → (us ++ ds).length = ps.length → BindsTo s fd ⟨us, []⟩ (ps.zip (us ++ ds))
theorem Binds.all {K : PySem.W.Frag} {fd : FuncData} {ps : List Str} (h : ∀ us : List Value, us.length = ps.length → bindArgs fd ⟨us, []⟩ = pure (ps.zip us)) : Binds K fd ps [] := fun s us _ hl => by
  rw [List.append_nil] at hl ⊢
  exact .of_eq (h us hl)
def Passes (CX : CXT) (X : Cx) (E : XK) : Prop := ∀ (pins : List (Addr × Obj)) (σ : St) (H : Hp) (s : Shared) (e : Value) (s' : Shared), Inv X pins σ H s → CX X.stack H s E e s' → X.xe e s'
section
variable {X : Cx} {CX : CXT} {k : Nat} {f C : Addr} {fd : FuncData} {ps : List Str} {sp : Sp} {dvs : List V} {ds : List Value} {E : XK} {x m : Str} {p pos apos : Pos} {e o : Expr} {es : List Expr} {ta : TE} {t : TA}
theorem run_fn {pins : List (Addr × Obj)} {σ : St} {H : Hp} {s : Shared} {Q : VK} {us : List Value} {vs : List V} (F : FnOk X.prog X.w X.K X.mg X.base CX k f fd ps sp) (hr : Room k X.A) (hb : Binds X.K fd ps ds) (hd : Vals dvs ds) (hx : Passes CX X E)
    (I : Inv X pins σ H s) (r : Vals vs us) (h : sp (vs ++ dvs) H Q E) : wpAny (model X.prog X.w) X.A (call (.ref f) us) (EP X pins σ Q) X.xe s := by
  have r2 : Vals (vs ++ dvs) (us ++ ds) := r.append hd
  have hl : (us ++ ds).length = ps.length := by rw [← r2.length]; exact F.len _ _ _ _ h
  refine wpAny_call (codeAny_mono (F.run X.A X.stack s H ⟨us, []⟩ (us ++ ds) (vs ++ dvs) Q E hr I.env0 (hb s us I.kIn hl) r2 h) fun r s' hq => ?_)
  cases r with
  | error e => exact hx pins σ H s e s' I hq
  | ok fl =>
    cases fl with
    | ret u => exact I.after hq
    | next => exact False.elim hq
    | brk => exact False.elim hq
    | cont => exact False.elim hq
theorem pe_call (F : FnOk X.prog X.w X.K X.mg X.base CX k f fd ps sp) (hr : Room k X.A) (hg : Gl X x) (hm : X.mg x = some (.ref f)) (hk : PySem.W.keepIn X.K (.ref f) = true) (hb : Binds X.K fd ps ds) (hd : Vals dvs ds) (hx : Passes CX X E)
    (ha : PA X (e :: es) t) (hdb : (x == ("__debug__" : Str)) = false := by decide) (he : starEach (e :: es) X.env = (false, eval e X.env) :: starEach es X.env := by rfl) (hpl : (backTo pos (starEach es X.env)).any (·.1) = false := by rfl) :
    PE X (.Call (.Name x p) (e :: es) [] pos) (tCall sp dvs E t) := by
  intro pins s σ H Q I h
  refine wpAny_Call_Name_kw (ld_glob I hg hm ?_ hdb)
  refine PySem.W.callWith_K (h₀ := X.base) I.ok.mod.kin hk (thn (ha pos pins s σ H _ I h) fun us s1 ⟨vs, H1, I1, r, q⟩ => ⟨I1.kIn, ?_⟩) he hpl
  exact run_fn F hr hb hd hx I1 r q
structure Mk (K : PySem.W.Frag) (C f : Addr) : Prop where
  makes : PySem.W.makesIn K C = true
  init : PySem.W.findIn K (.ref C) "__init__" = some (some (.ref f))
  fn : PySem.W.isFn K (.ref f) = true
  kp : PySem.W.keepIn K (.ref C) = true
end
section
variable {X : Cx} {CX : CXT} {k : Nat} {f C : Addr} {fd : FuncData} {ps ks : List Str} {sp : Sp} {E : XK} {x m : Str} {p pos apos kpos : Pos} {e o : Expr} {es : List Expr} {kws : List Keyword} {te ta : TE} {t tk : TA} {nm : Option Str}
structure KBinds (K : PySem.W.Frag) (fd : FuncData) (ps ks : List Str) (g : List Value → List Value → List Value) (gV : List V → List V → List V) : Prop where
  to : ∀ (s : Shared) (us ws : List Value), K.In s.heap → (g us ws).length = ps.length → BindsTo s fd ⟨us, ks.zip ws⟩ (ps.zip (g us ws))
  rel : ∀ {vs : List V} {us : List Value} {zs : List V} {ws : List Value}, Vals vs us → Vals zs ws → Vals (gV vs zs) (g us ws)
variable {g : List Value → List Value → List Value} {gV : List V → List V → List V}
end
structure FnScope (N P : List Str) (sc : Scope) : Prop where
  kind : sc.kind = .function
  co : sc.isCoroutine = false
  gen : sc.isGenerator = false
  nd : N.Nodup
  pre : N.take P.length = P
  par : ∀ x ∈ P, sc.names.lookup x = some .local ∨ sc.names.lookup x = some .cell
  nofree : ∀ y ∈ sc.names, y.2 ≠ .free
theorem bindL_out {kindOf : Str → Option NameKind} {x : Str} : ∀ {binds : List (Str × Value)} {m : Str → Option Value}, (∀ v, (x, v) ∉ binds) → bindL kindOf binds m x = m x
  | [], _, _ => rfl
  | (n, v) :: r, m, h => by
    unfold bindL
    rw [bindL_out fun w hw => h w (List.mem_cons_of_mem _ hw)]
    split
    · have : x ≠ n := by rintro rfl; exact h v List.mem_cons_self
      simp [this]
    · rfl
theorem bindC_out {kindOf : Str → Option NameKind} {x : Str} : ∀ {binds : List (Str × Value)} {m : Str → Option Value}, (∀ v, (x, v) ∉ binds) → bindC kindOf binds m x = m x
  | [], _, _ => rfl
  | (n, v) :: r, m, h => by
    unfold bindC
    rw [bindC_out fun w hw => h w (List.mem_cons_of_mem _ hw)]
    split
    · rfl
    · have : x ≠ n := by rintro rfl; exact h v List.mem_cons_self
      simp [this]
theorem bindL_get {kindOf : Str → Option NameKind} {x : Str} {v : Value} : ∀ {P : List Str} {vs : List Value} {i : Nat} {m : Str → Option Value}, P.Nodup → P[i]? = some x → vs[i]? = some v → kindOf x = some .local →
    bindL kindOf (P.zip vs) m x = some v
  | [], _, _, _, _, h, _, _ => by simp at h
  | _ :: _, [], _, _, _, _, h, _ => by simp at h
  | p :: P, w :: vs, 0, m, nd, h1, h2, hk => by
    simp at h1 h2; subst h1; subst h2
    show bindL kindOf ((p, w) :: P.zip vs) m p = _
    unfold bindL
    rw [bindL_out fun v hv => (List.nodup_cons.mp nd).1 (List.of_mem_zip hv).1, if_pos hk]
    simp
  | p :: P, w :: vs, i + 1, m, nd, h1, h2, hk => by
    show bindL kindOf ((p, w) :: P.zip vs) m x = _
    unfold bindL
    exact bindL_get (i := i) (List.nodup_cons.mp nd).2 (by simpa using h1) (by simpa using h2) hk
theorem bindC_get {kindOf : Str → Option NameKind} {x : Str} {v : Value} : ∀ {P : List Str} {vs : List Value} {i : Nat} {m : Str → Option Value}, P.Nodup → P[i]? = some x → vs[i]? = some v → kindOf x ≠ some .local →
    bindC kindOf (P.zip vs) m x = some v
  | [], _, _, _, _, h, _, _ => by simp at h
  | _ :: _, [], _, _, _, _, h, _ => by simp at h
  | p :: P, w :: vs, 0, m, nd, h1, h2, hk => by
    simp at h1 h2; subst h1; subst h2
    show bindC kindOf ((p, w) :: P.zip vs) m p = _
    unfold bindC
    rw [bindC_out fun v hv => (List.nodup_cons.mp nd).1 (List.of_mem_zip hv).1, if_neg hk]
    simp
  | p :: P, w :: vs, i + 1, m, nd, h1, h2, hk => by
    show bindC kindOf ((p, w) :: P.zip vs) m x = _
    unfold bindC
    exact bindC_get (i := i) (List.nodup_cons.mp nd).2 (by simpa using h1) (by simpa using h2) hk
def start (N : List Str) (vs : List V) : St := vs.map some ++ List.replicate (N.length - vs.length) none
def cxOf (CX : CXT) (P : Program) (w : World) (K : PySem.W.Frag) (mg : Str → Option Value) (base : Heap) (N : List Str) (qual : Str) (scope : Scope) (f : Addr) (cd : Value) (A : Around) (outer : List Env) (s : Shared) (H : Hp) (E : XK) : Cx where
  prog := P
  w := w
  K := K
  mg := mg
  base := base
  A := A.deeper (envOfC qual scope s.heap.objs.size f cd)
  N := N
  s₀ := s
  H₀ := H
  env := envOfC qual scope s.heap.objs.size f cd
  outer := outer
  stack := envOfC qual scope s.heap.objs.size f cd :: outer
  ex := []
  calm := true
  fn := fun _ => true
  pn := []
  xe := fun e s' => wpAny (model P w) (A.deeper (envOfC qual scope s.heap.objs.size f cd)) (leaving (envOfC qual scope s.heap.objs.size f cd) e) (fun _ s'' => CX outer H s E e s'') (fun e' s'' => CX outer H s E e' s'') s'
theorem cell_has {sc : Scope} {n : Nat} {x : Str} (h : sc.names.lookup x = some .cell) : ∃ c, (cellsFrom n sc.names []).lookup x = some c := by
  have q := PySem.W.cellsFrom_some sc.names n [] (.inl h)
  exact Option.isSome_iff_exists.mp q
theorem inv_start {CX : CXT} {P : Program} {w : World} {K : PySem.W.Frag} {mg : Str → Option Value} {base : Heap} {N ps : List Str} {qual : Str} {scope : Scope} {f : Addr} {cd : Value} {A : Around} {outer : List Env} {s s1 : Shared} {H : Hp} {E : XK} {us : List Value} {vs : List V}
    (S : FnScope N ps scope) (hd : A.handled = none) (e0 : Env0 P w K mg base A outer s H) (hl : vs.length = ps.length) (r : Vals vs us)
    (x : InCallC s s.heap.objs.size (bindL (envOfC qual scope s.heap.objs.size f cd).kindOf (ps.zip us) fun _ => none) (cellsFrom (s.heap.objs.size + 1) scope.names []) (bindC (envOfC qual scope s.heap.objs.size f cd).kindOf (ps.zip us) fun _ => none) s1) :
    Inv (cxOf CX P w K mg base N qual scope f cd A outer s H E) [] (start N vs) H s1 := by
  have hpl : ps.length ≤ N.length := by have := congrArg List.length S.pre; rw [List.length_take] at this; omega
  obtain ⟨h1, tk, rfl, hk⟩ := x.done
  have noA : ∀ b : Addr, b ∉ (cxOf CX P w K mg base N qual scope f cd A outer s H E).ex := fun b z => absurd (show b ∈ ([] : List Addr) from z) (by simp)
  refine ⟨⟨e0.mod, S.kind, rfl, rfl, Nat.le_refl _, fun y z c h1 h2 => ?_, fun y hy => ?_, fun y c _ h => ?_, fun _ => hd, Around.frames_deeper e0.frames, .inr ⟨rfl, rfl⟩, fun b z => absurd z (noA b), e0.bs, e0.bsz, fun b _ _ => noA b, fun b z => absurd z (noA b), e0.funs, e0.frf⟩,
    rfl, e0.bare, Un.kept hk, ⟨_, x.toInCall.ns, fun i y v h1 h2 h3 => ?_⟩, fun y c h => ⟨_, x.cell y c h⟩, e0.hok.fresh (Nat.le_refl _), fun y c h => ?_, fun p hp => absurd (show p ∈ ([] : List (Addr × Obj)) from hp) (by simp), e0.hok.kept hk, ?_⟩
  · exact name_of_addr x.apart (PySem.mem_of_lookup h1) (PySem.mem_of_lookup h2)
  · have hy : scope.names.lookup y = some .cell ∨ scope.names.lookup y = some .free := hy
    rcases hy with hy | hy
    · exact cell_has hy
    · exact absurd rfl (S.nofree _ (PySem.mem_of_lookup hy))
  · exact Nat.le_of_lt (x.above y c (PySem.mem_of_lookup h))
  · have hi : i < vs.length := by
      unfold start at h2
      by_cases hi : i < vs.length
      · exact hi
      · rw [List.getElem?_append_right (by simpa using hi)] at h2
        rw [List.getElem?_replicate] at h2
        split at h2 <;> cases h2
    have ha : vs[i]? = some v := by
      unfold start at h2
      rw [List.getElem?_append_left (by simpa using hi), List.getElem?_map] at h2
      cases e : vs[i]? with
      | none => rw [e] at h2; cases h2
      | some a => rw [e] at h2; cases h2; rfl
    obtain ⟨u, hu, rv⟩ := r.get ha
    have hp : ps[i]? = some y := by
      rw [← S.pre, List.getElem?_take_of_lt (by omega)]; exact h1
    have ndP : ps.Nodup := by rw [← S.pre]; exact S.nd.sublist (List.take_sublist _ _)
    refine ⟨u, rv, ?_⟩
    rcases S.par y (List.mem_of_getElem? hp) with k | k
    · exact .inl ⟨k, bindL_get ndP hp hu k⟩
    · obtain ⟨c, e⟩ := cell_has (n := s.heap.objs.size + 1) k
      refine .inr ⟨.inl k, c, e, ?_⟩
      have q := x.cell y c e
      rw [bindC_get ndP hp hu (by show scope.names.lookup y ≠ _; rw [k]; decide)] at q
      exact q
  · exact e0.hok.fresh (Nat.le_of_lt (x.above y c (PySem.mem_of_lookup h)))
  · unfold start
    show _ = N.length
    rw [List.length_append, List.length_map, List.length_replicate]
    omega
theorem fn_of {CX : CXT} {P : Program} {w : World} {K : PySem.W.Frag} {mg : Str → Option Value} {base : Heap} {k : Nat} {f : Addr} {name qual : Str} {params : Arguments} {body : List Stmt} {scope : Scope} {dV kV doc pm cdv ct oc : Value} {an od : Option Addr}
    {osl : Array (Option Value)} {N ps : List Str} {sp : Sp} (lk : K.lookup f = some ⟨oc, od, .func (PySem.W.fnOf name qual params body scope dV kV doc pm an cdv ct), osl⟩) (hcd : PySem.W.codeIn K cdv qual = true) (S : FnScope N ps scope)
    (len : ∀ vs H Q E, sp vs H Q E → vs.length = ps.length)
    (hbody : ∀ (A : Around) (outer : List Env) (s : Shared) (H : Hp) (vs : List V) (Q : VK) (E : XK), Room k (A.deeper (envOfC qual scope s.heap.objs.size f cdv)) → sp vs H Q E →
      ∃ t, PSs (cxOf CX P w K mg base N qual scope f cdv A outer s H E) body t ∧ t { nx := fun _ H' => Q .non H', rt := Q } (start N vs) H) :
    FnOk P w K mg base CX (k + 1) f (PySem.W.fnOf name qual params body scope dV kV doc pm an cdv ct) ps sp := by
  refine ⟨len, fun A outer s H args us vs Q E hr e0 hb r hsp => ?_⟩
  have hl := len _ _ _ _ hsp
  have KX : K.In s.heap := e0.mod.kin.keeps fun b o e => (e0.bs b o e).1
  have lim : s.heap.NoLimit := e0.mod.nolimit.keeps fun b o e => (e0.bs b o e).1
  have hkind : ∀ y ∈ ps.zip us, scope.names.lookup y.1 = some .local ∨ (scope.names.lookup y.1 = some .cell ∧ ((cellsFrom (s.heap.objs.size + 1) scope.names []).lookup y.1).isSome = true) := fun ⟨n, v⟩ hy => by
    rcases S.par n (List.of_mem_zip hy).1 with q | q
    · exact .inl q
    · exact .inr ⟨q, PySem.W.cellsFrom_some _ _ _ (.inl q)⟩
  refine codeAny_call_function hr.depth (KX _ _ lk) rfl S.co S.gen rfl (PySem.W.codeRec_of KX hcd) (hb _ _ _ _ ?_)
  refine wpAny_newFunctionEnv_cells S.kind hkind fun env he s1 x => ?_
  subst he
  refine ⟨lim.keeps x.toInCall.keep, codeAny_func ?_⟩
  obtain ⟨t, ht, hq⟩ := hbody A outer s H vs Q E (hr.deeper _) hsp
  have I : Inv (cxOf CX P w K mg base N qual scope f cdv A outer s H E) [] (start N vs) H s1 := inv_start S hr.hd e0 hl r x
  refine wpAny_mono (ht [] s1 (start N vs) H _ I hq) (fun fl s' hs => ?_) fun e s' hs => hs
  have fin : ∀ {σ' : St} {H' : Hp} {v : V} {u : Value}, Inv (cxOf CX P w K mg base N qual scope f cdv A outer s H E) [] σ' H' s' → RelV v u → Q v H' → CE outer P w H s Q u s' :=
    fun {σ' H' v u} J rv q => ⟨v, H', J.os, J.bare, J.base, J.hok, rv, q⟩
  cases fl with
  | ret u =>
    obtain ⟨v, σ', H', J, rv, q⟩ := hs
    exact fin J rv q
  | next =>
    obtain ⟨σ', H', J, q⟩ := hs
    exact fin (v := V.non) (u := Value.none) J rfl q
  | brk =>
    obtain ⟨_, _, _, q⟩ := hs
    exact False.elim q
  | cont =>
    obtain ⟨_, _, _, q⟩ := hs
    exact False.elim q
end L2
namespace L2
open PySem PySem.Spec PyProof.Rows
section
variable {X : Cx} {x : Str} {p pos : Pos} {e : Expr} {es : List Expr} {t : TA} {id T : String} {r : List V → Hp → VK → Prop}
def tCB (r : List V → Hp → VK → Prop) (t : TA) : TE := fun σ H Q => t σ H fun vs H1 => r vs H1 Q
theorem pe_callB (hc : CallR X (.builtin id) r) (hg : Gl X x) (hm : X.mg x = none) (hv : bootBuiltins x = some (.builtin id)) (ha : PA X (e :: es) t) (hn : x ≠ "__name__" := by decide) (hdb : (x == ("__debug__" : Str)) = false := by decide)
    (he : starEach (e :: es) X.env = (false, eval e X.env) :: starEach es X.env := by rfl) (hpl : (backTo pos (starEach es X.env)).any (·.1) = false := by rfl) : PE X (.Call (.Name x p) (e :: es) [] pos) (tCB r t) := by
  intro pins s σ H Q I h
  refine wpAny_Call_Name_kw (ld_blt I hg hm hv ?_ hn hdb)
  exact PyProof.Rows.callWith_builtin1 (thn (ha pos pins s σ H _ I h) fun us s1 ⟨vs, H1, I1, r1, q1⟩ => hc pins s1 σ H1 vs us Q I1 r1 q1) he hpl
theorem pe_callTy (hc : CallR X (.type T) r) (hg : Gl X x) (hm : X.mg x = none) (hv : bootBuiltins x = some (.type T)) (ha : PA X (e :: es) t) (hn : x ≠ "__name__" := by decide) (hdb : (x == ("__debug__" : Str)) = false := by decide)
    (he : starEach (e :: es) X.env = (false, eval e X.env) :: starEach es X.env := by rfl) (hpl : (backTo pos (starEach es X.env)).any (·.1) = false := by rfl) : PE X (.Call (.Name x p) (e :: es) [] pos) (tCB r t) := by
  intro pins s σ H Q I h
  refine wpAny_Call_Name_kw (ld_blt I hg hm hv ?_ hn hdb)
  exact PyProof.Rows.callWith_type1 (thn (ha pos pins s σ H _ I h) fun us s1 ⟨vs, H1, I1, r1, q1⟩ => hc pins s1 σ H1 vs us Q I1 r1 q1) he hpl
end
end L2
namespace HT
open PySem PyProof.Rows
section
open PySem.SeqAt
open PySem.AutoSeq1 (wpAny_loadPart')
open PySem.MeetsSeq PySem.MeetsSeq2 PySem.MeetsSeq3
end
section
variable {prog : Program} {w : World} {A : Around} {E : Value → Shared → Prop} {s : Shared}
def sIx (n d : Nat) : Option Int → Nat
  | none => d
  | some v => if v < 0 then (v + (n : Int)).toNat else min v.toNat n
theorem sIx_nat (n d k : Nat) : sIx n d (some (k : Int)) = min k n := by
  show (if (k : Int) < 0 then ((k : Int) + (n : Int)).toNat else min (k : Int).toNat n) = min k n
  rw [if_neg (by omega), Int.toNat_natCast]
end
end HT
namespace L2
open PySem PySem.Spec PyProof.Rows
abbrev TO := St → Hp → (Option Int → Hp → Prop) → Prop
def PO (X : Cx) (e : Option Expr) (t : TO) : Prop :=
  ∀ (pins : List (Addr × Obj)) (s : Shared) (σ : St) (H : Hp) (Q : Option Int → Hp → Prop), Inv X pins σ H s → t σ H Q →
    wpAny (model X.prog X.w) X.A (evalPart e X.env) (fun u s' => ∃ o H', Inv X pins σ H' s' ∧ IsPart u o ∧ Q o H') X.xe s
def tNoPart : TO := fun _ H Q => Q none H
theorem intsAre_of {ns : List Int} : ∀ {us : List Value}, Vals (ns.map V.int) us → IntsAre us ns := by
  induction ns with
  | nil => intro us r; rw [List.map_nil] at r; cases r; exact .nil
  | cons n ns ih =>
    intro us r
    rw [List.map_cons] at r
    cases r with
    | cons r1 r2 =>
      obtain ⟨t, e⟩ := r1
      subst e
      exact .cons n t (ih r2)
section
variable {X : Cx} {e : Expr} {te : TE} {lo hi : Option Expr} {tl th : TO} {pos p2 : Pos}
theorem po_none : PO X none tNoPart := by
  intro pins s σ H Q I h
  rw [evalPart_none]
  exact wpAny_pure ⟨none, H, I, .none, h⟩
def SlR (X : Cx) (r : V → Option Int → Option Int → Hp → VK → Prop) : Prop :=
  ∀ (pins : List (Addr × Obj)) (s : Shared) (σ : St) (H : Hp) (x : V) (v vl vu : Value) (lo hi : Option Int) (sl : Addr) (Q : VK), Inv X pins σ H s → RelV x v → s.heap.IsSliceOf sl vl vu .none → IsPart vl lo → IsPart vu hi → r x lo hi H Q →
    ∃ T id, typeLookup (.type T) "__getitem__" = pure (some (.builtin id)) ∧ s.TypeIs v T ∧ wpAny (model X.prog X.w) X.A (getItem v (.ref sl)) (EP X pins σ Q) X.xe s
def tSl (r : V → Option Int → Option Int → Hp → VK → Prop) (te : TE) (tl th : TO) : TE := fun σ H Q => te σ H fun x H1 => tl σ H1 fun l H2 => th σ H2 fun u H3 => r x l u H3 Q
theorem pe_slice {r : V → Option Int → Option Int → Hp → VK → Prop} (hr : SlR X r) (he : PE X e te) (hl : PO X lo tl) (hu : PO X hi th) : PE X (.Subscript e (.Slice lo hi none p2) pos) (tSl r te tl th) := by
  intro pins s σ H Q I h
  refine Subscript_ (thn (he pins s σ H _ I h) fun v s1 ⟨x, H1, I1, r1, q1⟩ => ?_)
  refine wpAny_Slice (thn (hl pins s1 σ H1 _ I1 q1) fun vl s2 ⟨l, H2, I2, pl, q2⟩ => thn (hu pins s2 σ H2 _ I2 q2) fun vu s3 ⟨u, H3, I3, pu, q3⟩ => ?_)
  rw [evalPart_none]
  refine wpAny_pure ?_
  have I4 : Inv X pins σ H3 { s3 with heap := s3.heap.push { cls := .type "slice", data := .fields #[vl, vu, .none] } } := I3.kept (t' := s3.toks) fun b ob q => Heap.get?_push_of_some _ q
  obtain ⟨T, id, hT, ht, hg⟩ := hr pins { s3 with heap := s3.heap.push { cls := .type "slice", data := .fields #[vl, vu, .none] } } σ H3 x v vl vu l u s3.heap.objs.size Q I4 r1 (Heap.IsSliceOf.new ..) pl pu q3
  show wpAny (model X.prog X.w) X.A (subscriptTail e (.Slice lo hi none p2) v (.ref s3.heap.objs.size)) (EP X pins σ Q) X.xe { s3 with heap := s3.heap.push { cls := .type "slice", data := .fields #[vl, vu, .none] } }
  exact tail_any (ops := [.ref s3.heap.objs.size, v]) ht hT hg (by with_unfolding_all rfl)
def cutV (xs : List V) (lo hi : Option Int) : List V := (xs.drop (HT.sIx xs.length 0 lo)).take (HT.sIx xs.length xs.length hi - HT.sIx xs.length 0 lo)
theorem cutV_length (xs : List V) (lo hi : Option Int) : (cutV xs lo hi).length ≤ xs.length := by
  unfold cutV
  rw [List.length_take, List.length_drop]
  omega
end
end L2
namespace L2
open PySem PySem.Spec PyProof.Rows
def ixN (n : Nat) (i : Int) : Option Nat := if 0 ≤ i then (if i < n then some i.toNat else none) else if -(n : Int) ≤ i then some (i + n).toNat else none
def atI {α : Type} (xs : List α) (i : Int) : Option α := (ixN xs.length i).bind fun j => xs[j]?
theorem ixN_seq {n : Nat} {i : Int} {j : Nat} (h : ixN n i = some j) : seqIndex? i n = some j ∧ j < n ∧ -(n : Int) ≤ i ∧ i < n := by
  unfold ixN at h
  by_cases h0 : 0 ≤ i
  · rw [if_pos h0] at h
    by_cases h1 : i < n
    · rw [if_pos h1] at h
      have e : i.toNat = j := Option.some.inj h
      exact ⟨by rw [seqIndex_of h0 h1, e], by omega, by omega, h1⟩
    · rw [if_neg h1] at h; cases h
  · rw [if_neg h0] at h
    by_cases h1 : -(n : Int) ≤ i
    · rw [if_pos h1] at h
      have e : (i + n).toNat = j := Option.some.inj h
      exact ⟨by rw [seqIndex_neg (by omega) h1, e], by omega, h1, by omega⟩
    · rw [if_neg h1] at h; cases h
theorem atI_get {α : Type} {xs : List α} {i : Int} {v : α} (h : atI xs i = some v) : ∃ j, seqIndex? i xs.length = some j ∧ xs[j]? = some v ∧ j < xs.length ∧ -(xs.length : Int) ≤ i ∧ i < xs.length := by
  unfold atI at h
  cases e : ixN xs.length i with
  | none => rw [e] at h; cases h
  | some j =>
    rw [e] at h
    obtain ⟨h1, h2, h3, h4⟩ := ixN_seq e
    exact ⟨j, h1, h, h2, h3, h4⟩
theorem atI_nat {α : Type} {xs : List α} {j : Nat} {v : α} (h : xs[j]? = some v) : atI xs (j : Int) = some v := by
  have hj : j < xs.length := (List.getElem?_eq_some_iff.mp h).1
  have e : ixN xs.length (j : Int) = some j := by
    unfold ixN
    rw [if_pos (by omega), if_pos (by omega)]; simp
  unfold atI; rw [e]; exact h
def PlainIx (b : Expr) : Prop := ∀ o i, subscripted b false o i = operate [o, i] (getItem o i)
def IxR (X : Cx) (r : R2) : Prop :=
  ∀ (value slice : Expr) (pins : List (Addr × Obj)) (s : Shared) (σ : St) (H : Hp) (x y : V) (v u : Value) (Q : VK), Inv X pins σ H s → RelV x v → RelV y u → r x y H Q →
    subscripted slice false v u = operate [v, u] (getItem v u) → wpAny (model X.prog X.w) X.A (subscriptTail value slice v u) (EP X pins σ Q) X.xe s
def MtR (X : Cx) (id : String) (r : V → List V → Hp → VK → Prop) : Prop :=
  ∀ (pins : List (Addr × Obj)) (s : Shared) (σ : St) (H : Hp) (x : V) (xs : List V) (v : Value) (us : List Value) (Q : VK), Inv X pins σ H s → RelV x v → Vals xs us → r x xs H Q →
    wpAny (model X.prog X.w) X.A (call (.builtin id) (v :: us)) (EP X pins σ Q) X.xe s
section
variable {X : Cx} {a b : Expr} {ta tb : TE} {pos : Pos}
theorem pe_ix {r : R2} (hr : IxR X r) (ha : PE X a ta) (hb : PE X b tb) (hs : PlainIx b) : PE X (.Subscript a b pos) (tOp r ta tb) := by
  intro pins s σ H Q I h
  exact Subscript_ (binT ha hb I h fun v u s2 x y H2 I2 rx ry q => hr a b pins s2 σ H2 x y v u Q I2 rx ry q (hs _ _))
def rIxL (K : PySem.W.Frag) : R2 := fun x y H Q => ∃ p xs i v, x = .ref p ∧ y = .int i ∧ SqL K H p xs ∧ atI xs i = some v ∧ Q v H
def rIxT (K : PySem.W.Frag) : R2 := fun x y H Q => ∃ p xs i v, x = .ref p ∧ y = .int i ∧ SqT K H p xs ∧ atI xs i = some v ∧ Q v H
theorem ix_list : IxR X (rIxL X.K) := by
  intro value slice pins s σ H x y v u Q I rx ry h hs
  obtain ⟨p, xs, i, z, rfl, rfl, hq, he, q⟩ := h
  cases rx
  obtain ⟨t, rfl⟩ := ry
  obtain ⟨its, r, pl, hz⟩ := I.list hq
  obtain ⟨j, h1, h2, h3, h4, h5⟩ := atI_get he
  obtain ⟨w, ew, rw'⟩ := r.get h2
  have hl := r.length
  have hn := line63
  have fin : EP X pins σ Q w s := ⟨z, H, I, rw', q⟩
  by_cases h0 : 0 ≤ i
  · have hj : i.toNat = j := by
      rw [seqIndex_of h0 h5] at h1
      exact Option.some.inj h1
    exact item_listR pl.isList h0 (by omega) (by rw [hj]; simpa using ew) fin hs
  · have hj : (i + (its.toArray.size : Int)).toNat = j := by
      rw [seqIndex_neg (by omega) h4] at h1
      rw [List.size_toArray, ← hl]
      exact Option.some.inj h1
    exact subscriptTail_builtinR (x := w) pl.isList.typeIs slot_list_getitem.lookup
      (wpAny_getItem_list_neg (Q := fun r s' => r = w ∧ EP X pins σ Q r s') pl.isList (by omega) (by rw [List.size_toArray] <;> omega) (by omega) (by rw [hj]; simpa using ew) ⟨rfl, fin⟩) hs
theorem ix_tup : IxR X (rIxT X.K) := by
  intro value slice pins s σ H x y v u Q I rx ry h hs
  obtain ⟨p, xs, i, z, rfl, rfl, hq, he, q⟩ := h
  cases rx
  obtain ⟨t, rfl⟩ := ry
  obtain ⟨its, r, pl, hz⟩ := I.tuple hq
  obtain ⟨j, h1, h2, h3, h4, h5⟩ := atI_get he
  obtain ⟨w, ew, rw'⟩ := r.get h2
  have hl := r.length
  have hn := line63
  have fin : EP X pins σ Q w s := ⟨z, H, I, rw', q⟩
  exact subscriptTail_builtinR (x := w) pl.typeIs slot_tuple_getitem.lookup
    (getItem_tuple (j := j) (Q := fun r s' => r = w ∧ EP X pins σ Q r s') pl (by omega) (by omega) (by rw [List.size_toArray, ← hl]; exact h1) (by simpa using ew) ⟨rfl, fin⟩) hs
theorem slice_bounds (lo hi : Option Int) (n : Nat) : (sliceBounds lo hi none n).1 = ((HT.sIx n 0 lo : Nat) : Int) ∧ (sliceBounds lo hi none n).2.1 = ((HT.sIx n n hi : Nat) : Int) ∧ (sliceBounds lo hi none n).2.2 = 1 := by
  refine ⟨?_, ?_, rfl⟩
  · cases lo with
    | none => simp [sliceBounds, HT.sIx]
    | some i =>
      simp only [sliceBounds, HT.sIx, Option.getD_none, show (1 : Int) > 0 by decide, if_true]
      by_cases h : i < 0
      · simp only [h, if_true] <;> omega
      · simp only [h, if_false] <;> omega
  · cases hi with
    | none => simp [sliceBounds, HT.sIx]
    | some i =>
      simp only [sliceBounds, HT.sIx, Option.getD_none, show (1 : Int) > 0 by decide, if_true]
      by_cases h : i < 0
      · simp only [h, if_true] <;> omega
      · simp only [h, if_false] <;> omega
theorem slicePick_cut (its : List Value) (lo hi : Option Int) : slicePick its.toArray lo hi none = ((its.drop (HT.sIx its.length 0 lo)).take (HT.sIx its.length its.length hi - HT.sIx its.length 0 lo)).toArray := by
  obtain ⟨h1, h2, h3⟩ := slice_bounds lo hi its.toArray.size
  unfold slicePick
  rw [h1, h2, h3]
  simp only [sliceRange_one, pick_run, List.size_toArray] <;> rfl
def rSlL (K : PySem.W.Frag) : V → Option Int → Option Int → Hp → VK → Prop := fun x lo hi H Q => ∃ a xs, x = .ref a ∧ SqL K H a xs ∧ ∀ p, H p = none → Q (.ref p) (upd H p (.lst (cutV xs lo hi)))
theorem sl_list : SlR X (rSlL X.K) := by
  intro pins s σ H x v vl vu lo hi sl Q I rx hs pl pu h
  obtain ⟨a, xs, rfl, hx, q⟩ := h
  cases rx
  obtain ⟨its, r, ht, hz⟩ := I.list hx
  have hlen := r.length
  refine ⟨"list", _, slot_list_getitem.lookup, ht.isList.typeIs, ?_⟩
  refine wpAny_getItem_list_slice ht.isList hs pl pu .none (by simp) ?_ (by rw [List.size_toArray] <;> omega)
  rw [slicePick_cut, ← hlen]
  refine ⟨.ref s.heap.objs.size, _, I.laid (t' := s.toks) (o := .lst (cutV xs lo hi)) (fun b ob q => Heap.get?_push_of_some _ q) (Nat.le_refl _) ?_, rfl, q _ (I.hok.fresh (Nat.le_refl _))⟩
  exact ⟨Nat.le_trans (cutV_length xs lo hi) hz, _, 0, (r.drop (HT.sIx xs.length 0 lo)).take (HT.sIx xs.length xs.length hi - HT.sIx xs.length 0 lo), Heap.get?_push_size _ rfl⟩
theorem call_len_seq : CallR X (.builtin "len") (fun xs H Q => ∃ p ys, xs = [.ref p] ∧ (SqL X.K H p ys ∨ SqT X.K H p ys) ∧ Q (.int ys.length) H) := by
  intro pins s σ H xs us Q I r h
  obtain ⟨p, ys, rfl, hq, q⟩ := h
  obtain ⟨u, rfl, rx⟩ := vals1 r
  cases rx
  have hn := line63
  rcases hq with hq | hq
  · obtain ⟨its, r', pl, hz⟩ := I.list hq
    have hlen := r'.length
    exact Calls.call_len_list pl.isList (by simp only [List.size_toArray] <;> omega) ⟨.int ys.length, H, I.tok _, ⟨s.toks + 1, by rw [List.size_toArray, hlen]⟩, q⟩
  · obtain ⟨its, r', pl, hz⟩ := I.tuple hq
    have hlen := r'.length
    exact len_tuple pl (by simp only [List.size_toArray] <;> omega) ⟨.int ys.length, H, I.tok _, ⟨s.toks + 1, by rw [List.size_toArray, hlen]⟩, q⟩
theorem CallR.or {f : Value} {r r' : List V → Hp → VK → Prop} (h : CallR X f r) (h' : CallR X f r') : CallR X f (fun xs H Q => r xs H Q ∨ r' xs H Q) := by
  intro pins s σ H xs us Q I rs q
  rcases q with q | q
  · exact h pins s σ H xs us Q I rs q
  · exact h' pins s σ H xs us Q I rs q
def tyV (K : PySem.W.Frag) (T : String) (x : V) (H : Hp) : Prop := match x with
  | .str _ => T = "str"
  | .int _ => T = "int"
  | .ref p => (T = "list" ∧ ∃ xs, SqL K H p xs) ∨ (T = "tuple" ∧ ∃ o, K.lookup p = some o ∧ o.cls = .type "tuple" ∧ o.dict = none) ∨
      (T = "dict" ∧ ((∃ kvs, H p = some (.dK kvs)) ∨ ∃ kvs, H p = some (.dT kvs))) ∨ (T = "set" ∧ ∃ S n, H p = some (.set S n))
  | _ => False
theorem tyV_is {pins : List (Addr × Obj)} {σ : St} {H : Hp} {s : Shared} {T : String} {x : V} {v : Value} (I : Inv X pins σ H s) (r : RelV x v) (ty : tyV X.K T x H) :
    s.TypeIs v T ∧ ∀ a, v = .ref a → ∃ ob, s.heap.get? a = some ob ∧ ob.dict = none := by
  cases x with
  | str z =>
    obtain ⟨t, rfl⟩ := r
    cases (show T = "str" from ty)
    exact ⟨typeIs_str s z t, fun _ e => nomatch e⟩
  | int i =>
    obtain ⟨t, rfl⟩ := r
    cases (show T = "int" from ty)
    exact ⟨typeIs_int s i t, fun _ e => nomatch e⟩
  | ref p =>
    cases r
    rcases ty with ⟨rfl, xs, hq⟩ | ⟨rfl, o, hk, hc, hd⟩ | ⟨rfl, hk⟩ | ⟨rfl, S, n, hk⟩
    · obtain ⟨its, _, pl, _⟩ := I.list hq
      refine ⟨pl.isList.typeIs, fun a e => ?_⟩
      cases e
      obtain ⟨o, n, e, c, hd, _⟩ := pl
      exact ⟨o, e, hd⟩
    · refine ⟨⟨o, I.kIn p o hk, hc⟩, fun a e => ?_⟩
      cases e
      exact ⟨o, I.kIn _ o hk, hd⟩
    · have z : ∃ o, s.heap.get? p = some o ∧ o.ExactDict := by
        rcases hk with ⟨kvs, hk⟩ | ⟨kvs, hk⟩
        · obtain ⟨_, _, _, _, o, _, _, e, ex, _⟩ := I.hok p _ hk
          exact ⟨o, e, ex⟩
        · obtain ⟨_, _, _, _, o, _, _, e, ex, _⟩ := I.hok p _ hk
          exact ⟨o, e, ex⟩
      obtain ⟨o, e, ex⟩ := z
      refine ⟨⟨o, e, ex.1⟩, fun a e2 => ?_⟩
      cases e2
      exact ⟨o, e, ex.2.1⟩
    · obtain ⟨o, _, _, _, e, ex, _⟩ := I.hok p _ hk
      refine ⟨⟨o, e, ex.1⟩, fun a e2 => ?_⟩
      cases e2
      exact ⟨o, e, ex.2.1⟩
  | _ => exact False.elim ty
def tBM (K : PySem.W.Frag) (T : String) (r : V → List V → Hp → VK → Prop) (to : TE) (t : TA) : TE := fun σ H Q => to σ H fun x H1 => tyV K T x H1 ∧ t σ H1 fun xs H2 => r x xs H2 Q
variable {o e : Expr} {es : List Expr} {to : TE} {t : TA} {name : Str} {apos cpos : Pos} {T id : String} {r : V → List V → Hp → VK → Prop}
theorem pe_bm (pa : PlainAttrs T) (slot : Slot T name id) (hty : typeOf (.builtin id) = pure (.type "method_descriptor")) (hm : MtR X id r) (ho : PE X o to) (ha : PA X (e :: es) t)
    (hbase : attributeBase o name X.env (eval o X.env) = eval o X.env := by rfl)
    (hfew : ((backTo cpos (starEach (e :: es) X.env)).all (fun x => !x.1) && (backToKw cpos (keywordEach [] X.env)).all (fun x => x.1.isSome)
      && decide ((e :: es).length + ([] : List Keyword).length + (if ([] : List Keyword).isEmpty then 0 else 1) < 30)) = true := by rfl)
    (hline : (apos.endLine == cpos.line) = true := by rfl) (hs : starEach (e :: es) X.env = (false, eval e X.env) :: starEach es X.env := by rfl) (hplain : (backTo cpos (starEach es X.env)).any (·.1) = false := by rfl) :
    PE X (.Call (.Attribute o name apos) (e :: es) [] cpos) (tBM X.K T r to t) := by
  intro pins s σ H Q I h
  refine wpAny_Call_method_late hbase hfew hline rfl (thn (ho pins s σ H _ I h) fun v s1 ⟨x, H1, I1, r1, ty, q1⟩ => ?_)
  obtain ⟨h1, h2⟩ := tyV_is I1 r1 ty
  refine ⟨T, id, pa, slot, hty, h1, h2, ?_⟩
  have hA := ha cpos pins s1 σ H1 _ I1 q1
  rw [hs] at hA ⊢
  refine Calls.callWith_builtin (by show (false || (backTo cpos (starEach es X.env)).any (·.1)) = false; rw [hplain] <;> rfl) (Calls.evalArgs_plain ?_)
  exact thn hA fun us s2 ⟨vs, H2, I2, r2, q2⟩ => hm pins s2 σ H2 x vs v us Q I2 r1 r2 q2
/- xs.append(e), list.index on a module's tuple .. are MtR facts of 06m -/
end
end L2
namespace L2
open PySem PySem.Spec PyProof.Rows
def MtM (X : Cx) (id : String) (r : V → List V → Hp → VK → Prop) : Prop :=
  ∀ (pins : List (Addr × Obj)) (s : Shared) (σ : St) (H : Hp) (x : V) (xs : List V) (v : Value) (us : List Value) (Q : VK), Inv X pins σ H s → RelV x v → Vals xs us → r x xs H Q →
    wpAny (model X.prog X.w) X.A (call (.builtin id) (v :: us)) (EP X pins σ Q) X.xe s
theorem Vals.one : ∀ {x : V} {us : List Value}, Vals [x] us → ∃ u, us = [u] ∧ RelV x u
  | _, _, .cons r .nil => ⟨_, rfl, r⟩
theorem Vals.eraseIdx : ∀ {xs : List V} {us : List Value} (i : Nat), Vals xs us → Vals (xs.eraseIdx i) (us.eraseIdx i)
  | _, _, _, .nil => .nil
  | _, _, 0, .cons _ t => t
  | _, _, i + 1, .cons r t => .cons r (Vals.eraseIdx i t)
theorem Vals.rep {xs : List V} {us : List Value} (h : Vals xs us) : ∀ k : Nat, Vals (List.replicate k xs).flatten (List.replicate k us).flatten
  | 0 => .nil
  | k + 1 => by
    rw [List.replicate_succ, List.replicate_succ, List.flatten_cons, List.flatten_cons]
    exact Vals.append h (Vals.rep h k)
theorem len_erase {α : Type} : ∀ (l : List α) (i : Nat), (l.eraseIdx i).length ≤ l.length
  | [], _ => Nat.le_refl _
  | _ :: _, 0 => Nat.le_succ _
  | _ :: r, i + 1 => Nat.succ_le_succ (len_erase r i)
theorem foldl_rep (its : List Value) : ∀ (k : Nat) (acc : List Value),
    List.foldl (fun x1 x2 => x1 ++ x2) acc.toArray (List.replicate k its.toArray) = (acc ++ (List.replicate k its).flatten).toArray
  | 0, acc => by simp
  | k + 1, acc => by
    have e : acc.toArray ++ its.toArray = (acc ++ its).toArray := by simp
    have e2 : (acc ++ its) ++ (List.replicate k its).flatten = acc ++ (List.replicate (k + 1) its).flatten := by
      rw [List.replicate_succ, List.flatten_cons, List.append_assoc]
    rw [← e2, ← foldl_rep its k (acc ++ its), ← e, List.replicate_succ, List.foldl_cons]
section
variable {X : Cx} {pins : List (Addr × Obj)} {σ : St} {H : Hp} {s : Shared} {l b : Addr} {xs ys zs : List V}
theorem Inv.lset {its its' : List Value} {n : Nat} {f : Array Value → Array Value} {t' : Nat} (I : Inv X pins σ H s) (hH : H l = some (.lst xs))
    (e : s.heap.get? l = some { cls := .type "list", data := .seq its.toArray n }) (hf : f its.toArray = its'.toArray) (hv : Vals ys its') (hz : ys.length ≤ sizeLine) :
    Inv X pins σ (upd H l (.lst ys)) { s with heap := s.heap.update l (Obj.mapSeq f), toks := t' } := by
  have q := PySem.IsL.update e f
  rw [hf] at q
  refine I.write (x := l) (e := l) (by rw [hH]; exact trivial) (.inl rfl) (fun b' u hb hu => (Heap.get?_update_other s.heap (Obj.mapSeq f) (Ne.symm hb)).trans hu) ⟨_, q⟩ ?_
  exact ⟨hz, its', _, hv, q⟩
theorem Inv.lnew {its : List Value} {t' : Nat} (I : Inv X pins σ H s) (hv : Vals ys its) (hz : ys.length ≤ sizeLine) :
    Inv X pins σ (upd H s.heap.objs.size (.lst ys)) { s with heap := s.heap.push { cls := .type "list", data := .seq its.toArray }, toks := t' } :=
  I.laid (fun _ _ q => Heap.get?_push_of_some _ q) (Nat.le_refl _) ⟨hz, its, 0, hv, Heap.get?_push_size _ rfl⟩
theorem Inv.fresh (I : Inv X pins σ H s) : H s.heap.objs.size = none := I.hok.fresh (Nat.le_refl _)
theorem Inv.lstM (I : Inv X pins σ H s) (hH : H l = some (.lst xs)) : xs.length ≤ sizeLine ∧ ∃ (its : List Value) (n : Nat), Vals xs its ∧ xs.length = its.length ∧ s.heap.get? l = some { cls := .type "list", data := .seq its.toArray n } := by
  obtain ⟨z, its, n, r, e⟩ := I.hok l _ hH
  exact ⟨z, its, n, r, r.length, e⟩
theorem notLongL {n : Nat} (h : n ≤ sizeLine) : Builtin.List.listTooLong n = false := by
  unfold Builtin.List.listTooLong
  exact decide_eq_false (by omega)
end
section
variable {X : Cx}
def rAppend : V → List V → Hp → VK → Prop := fun x vs H Q => ∃ l xs y, x = .ref l ∧ vs = [y] ∧ H l = some (.lst xs) ∧ xs.length < sizeLine ∧ Q .non (upd H l (.lst (xs ++ [y])))
theorem mt_append : MtM X "list.append" rAppend := by
  intro pins s σ H x vs v us Q I rx rv h
  obtain ⟨l, xs, y, rfl, rfl, hH, hz, q⟩ := h
  cases rx
  obtain ⟨u, rfl, ru⟩ := rv.one
  obtain ⟨z, its, n, r, hl, e⟩ := I.lstM hH
  refine call_meets F.slot_list_append ⟨_, e, rfl⟩ F.entry_list_append (F.args_list_append_2 _ _) (PySem.list_append l its.toArray n u (by rw [List.size_toArray]; omega)) ⟨e, ?_⟩
  refine ⟨.non, _, I.lset (its' := its ++ [u]) hH e (by simp) (r.append (.cons ru .nil)) ?_, rfl, q⟩
  rw [List.length_append, List.length_singleton]
  omega
def rExtend : V → List V → Hp → VK → Prop := fun x vs H Q => ∃ l b xs zs, x = .ref l ∧ vs = [.ref b] ∧ H l = some (.lst xs) ∧ H b = some (.lst zs) ∧ xs.length + zs.length ≤ sizeLine ∧ Q .non (upd H l (.lst (xs ++ zs)))
theorem mt_extend : MtM X "list.extend" rExtend := by
  intro pins s σ H x vs v us Q I rx rv h
  obtain ⟨l, b, xs, zs, rfl, rfl, hH, hB, hz, q⟩ := h
  cases rx
  obtain ⟨u, rfl, ru⟩ := rv.one
  cases ru
  obtain ⟨z, its, n, r, hl, e⟩ := I.lstM hH
  obtain ⟨z2, its2, n2, r2, hl2, e2⟩ := I.lstM hB
  have hsz : its.toArray.size + its2.toArray.size ≤ sizeLine := by rw [List.size_toArray, List.size_toArray]; omega
  have hlong : ¬ (!its.toArray.isEmpty && Builtin.List.listTooLong (its.toArray.size + its2.toArray.size)) = true := by
    rw [notLongL hsz, Bool.and_false]
    exact Bool.false_ne_true
  refine call_meets F.slot_list_extend ⟨_, e, rfl⟩ F.entry_list_extend (F.args_list_extend_2 _ _)
    (AutoSeq1.list_extend_list_list_0 l its.toArray n b its2.toArray n2 hlong (by rw [List.size_toArray]; omega) (by omega)) ⟨e, e2, ?_⟩
  refine ⟨.non, _, I.lset (its' := its ++ its2) hH e (by simp) (r.append r2) ?_, rfl, q⟩
  rw [List.length_append]
  omega
def rPopAt : V → List V → Hp → VK → Prop := fun x vs H Q => ∃ l xs i k y, x = .ref l ∧ vs = [.int i] ∧ H l = some (.lst xs) ∧ -(2 ^ 63) ≤ i ∧ i < 2 ^ 63 ∧ seqIndex? i xs.length = some k ∧ xs[k]? = some y ∧ Q y (upd H l (.lst (xs.eraseIdx k)))
theorem mt_popAt : MtM X "list.pop" rPopAt := by
  intro pins s σ H x vs v us Q I rx rv h
  obtain ⟨l, xs, i, k, y, rfl, rfl, hH, h1, h2, hk, hy, q⟩ := h
  cases rx
  obtain ⟨u, rfl, ru⟩ := rv.one
  obtain ⟨t, rfl⟩ := ru
  obtain ⟨z, its, n, r, hl, e⟩ := I.lstM hH
  obtain ⟨w, hw, rw'⟩ := r.get hy
  refine call_meets F.slot_list_pop ⟨_, e, rfl⟩ F.entry_list_pop (F.args_list_pop_2 _ _)
    (MeetsSeq.list_pop_at l its.toArray n i t k w (fitsIndex_both h1 h2) (by rw [List.size_toArray, ← hl]; exact hk) (by rw [← Array.getElem?_toList]; exact hw) (by rw [List.size_toArray]; omega)) ⟨e, ?_⟩
  refine ⟨y, _, I.lset (its' := its.eraseIdx k) hH e ?_ (r.eraseIdx k) ?_, rw', q⟩
  · show its.toArray.eraseIdxIfInBounds k = (its.eraseIdx k).toArray
    rw [List.eraseIdxIfInBounds_toArray]
  · have := len_erase xs k
    omega
def rCat : R2 := fun x y H Q => ∃ l b xs zs, x = .ref l ∧ y = .ref b ∧ H l = some (.lst xs) ∧ H b = some (.lst zs) ∧ xs.length + zs.length ≤ sizeLine ∧ ∀ p, H p = none → Q (.ref p) (upd H p (.lst (xs ++ zs)))
theorem op_cat : OpR X (binaryOp .Add) rCat := by
  intro pins s σ H x y v u Q I rx ry h
  obtain ⟨l, b, xs, zs, rfl, rfl, hH, hB, hz, q⟩ := h
  cases rx
  cases ry
  obtain ⟨z, its, n, r, hl, e⟩ := I.lstM hH
  obtain ⟨z2, its2, n2, r2, hl2, e2⟩ := I.lstM hB
  refine PySem.P.add_list e e2 ?_ (by rw [List.size_toArray, List.size_toArray]; omega)
  have ea : its.toArray ++ its2.toArray = (its ++ its2).toArray := by simp
  rw [ea]
  exact ⟨.ref _, _, I.lnew (t' := s.toks) (r.append r2) (by rw [List.length_append]; omega), rfl, q _ I.fresh⟩
def rRep : R2 := fun x y H Q => ∃ l k xs, x = .ref l ∧ y = .int k ∧ H l = some (.lst xs) ∧ -(2 ^ 63) ≤ k ∧ k < 2 ^ 63 ∧ xs.length * k.toNat ≤ sizeLine ∧
  ∀ p, H p = none → Q (.ref p) (upd H p (.lst (List.replicate k.toNat xs).flatten))
theorem len_rep {α : Type} (xs : List α) (k : Nat) : (List.replicate k xs).flatten.length = k * xs.length := by
  induction k with
  | zero => simp
  | succ k ih => rw [List.replicate_succ, List.flatten_cons, List.length_append, ih, Nat.succ_mul, Nat.add_comm]
theorem op_rep : OpR X (binaryOp .Mult) rRep := by
  intro pins s σ H x y v u Q I rx ry h
  obtain ⟨l, k, xs, rfl, rfl, hH, h1, h2, hz, q⟩ := h
  cases rx
  obtain ⟨t, rfl⟩ := ry
  obtain ⟨z, its, n, r, hl, e⟩ := I.lstM hH
  have hlen : its.toArray.size * k.toNat ≤ sizeLine := by rw [List.size_toArray, ← hl]; exact hz
  have hcap : ¬ its.toArray.size * k.toNat > (2 ^ 63 - 1) / 8 := by
    have : (sizeLine : Nat) ≤ (2 ^ 63 - 1) / 8 := by decide
    omega
  have hfit : ¬ (!Builtin.List.listFitsIndex k) = true := by
    rw [fitsIndex_both h1 h2]
    exact Bool.false_ne_true
  have hlong : ¬ Builtin.List.listTooLong (its.toArray.size * k.toNat) = true := by
    rw [notLongL hlen]
    exact Bool.false_ne_true
  have hnew : List.foldl (fun x1 x2 => x1 ++ x2) #[] (List.replicate (if its.toArray.isEmpty = true then 0 else k.toNat) its.toArray) = (List.replicate k.toNat its).flatten.toArray := by
    have f0 : ∀ m : Nat, List.foldl (fun x1 x2 => x1 ++ x2) #[] (List.replicate m its.toArray) = (List.replicate m its).flatten.toArray := fun m => by
      have := foldl_rep its m []
      rw [List.nil_append] at this
      exact this
    rw [f0]
    cases its with
    | nil => simp
    | cons a r' => rw [if_neg (by simp)]
  refine wpAny_binaryOp_repeat_ref (T := "list") (U := "int") (by decide) ⟨_, e, rfl⟩ (fun s' => typeIs_int s' k t) noFill_list_mul F.fills_int_mul F.slot_int_rmul repeat_list F.slot_int_index.lookup
    (call_meets F.slot_int_rmul (typeIs_int s k t) F.entry_int_rmul (F.args_int_rmul_2 _ _) (int___rmul___int_list k t l its.toArray n)
      ⟨e, rfl, ⟨_, e, rfl⟩, call_meets F.slot_list_mul ⟨_, e, rfl⟩ F.entry_list_mul (F.args_list_mul_2 _ _) (AutoListH.list___mul___list_int_3 l its.toArray n k t hfit hcap hlong) ⟨e, ?_⟩⟩)
  rw [hnew]
  exact ⟨.ref _, _, I.lnew (t' := s.toks) (r.rep k.toNat) (by rw [len_rep, Nat.mul_comm]; exact hz), rfl, q _ I.fresh⟩
end
section
variable {prog : Program} {w : World} {A : Around} {E : Value → Shared → Prop} {s : Shared}
end
section
variable {X : Cx}
end
end L2
namespace Att
open PySem PySem.W PySem.Calls PyProof.Rows
theorem ints_of_wellAll {P : Params} {h : Heap} : ∀ (ns : List Int) (vs : List Value), WellAll P h vs (ns.map WData.int) → IntsAre vs ns := by
  intro ns
  induction ns with
  | nil =>
    intro vs w
    rw [List.map_nil] at w
    cases w
    exact .nil
  | cons n ns ih =>
    intro vs w
    rw [List.map_cons] at w
    cases w with
    | cons a b =>
      cases a
      exact .cons _ _ (ih _ b)
theorem script_of {l : OpenLaw} {n : Nat} (hn : l.most = some n) {P : Params} {h : Heap} {args : List WData} {vals : List Value}
    (hpre : l.row.toRowW.claim.pre args = true) (hwl : WellAll P h vals args) :
    ∃ a vs ns, vals = [Value.ref a] ∧ args = [WData.list (ns.map WData.int)] ∧ h.get? a = some { cls := .type "list", data := .seq vs.toArray } ∧ IntsAre vs ns ∧ ns.length ≤ n := by
  have hsh : WShape.hasAll [] args [.list .int] = true := (pre_splitW hpre).1
  have hc : l.pre.holds [] { args := args } = true := (pre_splitW hpre).2
  obtain ⟨d, r, rfl, h1, h2⟩ := hasAllW_cons hsh
  obtain rfl := hasAllW_nil h2
  obtain ⟨xs, rfl, h3⟩ := hasW_list h1
  obtain ⟨ns, rfl⟩ := items_int h3
  have hlen : ns.length ≤ n := by
    unfold OpenLaw.pre at hc
    have h4 : (WTm.not (.lt (.lit (.int (n : Int))) (.len (.arg 0)))).holds [] { args := [.list (ns.map .int)] } = true := by
      have h4 := (holds_andW hc).1
      rw [hn] at h4
      exact h4
    have h5 := condW_of h4 (w_not (w_lt w_lit (w_len_list (w_arg rfl))))
    rw [List.length_map] at h5
    refine Nat.le_of_not_lt fun q => ?_
    have q' : (n : Int) < ((ns.length : Nat) : Int) := by omega
    first
      | (rw [decide_eq_true q'] at h5; exact absurd h5 (by decide))
      | (simp at h5; omega)
  cases hwl with
  | cons w1 w2 =>
    cases w2
    cases w1 with
    | list ho hall => exact ⟨_, _, ns, rfl, rfl, ho, ints_of_wellAll ns _ hall, hlen⟩
theorem post_true (l : OpenLaw) (args : List WData) : l.row.toRowW.claim.post args (.bool true) args = true :=
  postW_of (r := l.row.toRowW) (X := (true == true))
    (show WShape.has [] (.bool true) .bool = true by first | rfl | decide | simp [WShape.has, WShape.arms, WShape.armsAll])
    (show (WTm.eq .res (.lit (.bool true))).value [] { args := args, res := some (.bool true), after := args } = some (.bool (true == true)) from w_eq_bool (w_res rfl) w_lit) rfl
theorem attach_call {l : OpenLaw} {n : Nat} {q : Program} {loose : List Str} {XP : (Str → Option Value) → Heap → Prop} {YP : World → Heap → Prop} {d : DefRec}
    (hn : l.most = some n) (hdf : d.params.defaults = [])
    (call : ∀ (w : World) (s₀ s₁ : Shared) (mg mb : Str → Option Value) (fa : Addr) (o : Obj) (pm cd doc : Value) (a : Addr) (vs : List Value) (ns : List Int),
      Ground q loose [] XP w s₀ mg mb s₁.heap → YP w s₁.heap →
      s₁.heap.get? fa = some o → o.data = .func (docDef d.name d.params d.body d.scope pm cd doc) → s₁.heap.CodeRec cd d.name → mg d.name = some (.ref fa) →
      s₁.heap.get? a = some { cls := .type "list", data := .seq vs.toArray } → IntsAre vs ns → ns.length ≤ n → s₁.gens = #[] →
      codeAny (model l.prog w) callerA (.call (.ref fa) ⟨[.ref a], []⟩) (fun r s' => r = .ok (.ret (.bool true)) ∧ OldK s₁.heap s'.heap ∧ s'.os = s₁.os ∧ AllBare s'.gens) s₁) :
    WalkO q loose XP YP l.row.toRowW d [] (fun f vs => PySem.call f vs) := by
  intro w s₀ s₁ mg mb G Y fa o pm cd doc dV kV ho hd hcd hD hmg hg args vals as hpre hlay hrd hwl hlo
  obtain rfl : dV = .none := Dflts.none hD hdf
  obtain rfl : kV = .none := Dflts.noKw hD
  obtain ⟨a, vs, ns, rfl, rfl, hobj, hints, hlen⟩ := script_of hn hpre hwl
  refine enter_call (codeAny_mono (call w s₀ s₁ mg mb fa o pm cd doc a vs ns G Y ho (fd_plain hd) hcd hmg hobj hints hlen hg) fun r s' hq => ?_)
  obtain ⟨rfl, h2, h3, h4⟩ := hq
  exact ⟨.inl ⟨.bool true, .bool true, [], rfl, fun _ => rfl, .bool true, post_true l _, fun _ => ⟨List.Pairwise.nil, fun _ hm => (nomatch hm)⟩⟩, h2, h3, h4⟩
section
variable {prog : Program} {w : World} {A : Around} {E : Value → Shared → Prop} {s : Shared} {K : Frag}
end
end Att
namespace L2
open PySem PySem.Spec PyProof.Rows
theorem vals_ints : ∀ {vs : List Value} {ns : List Int}, IntsAre vs ns → Vals (ns.map V.int) vs
  | _, _, .nil => .nil
  | _, _, .cons n t h => .cons ⟨t, rfl⟩ (vals_ints h)
def Only (H : Hp) : Prop := ∀ b, H b = none ∨ ∃ o xs, H b = some (.frz o (.lst xs))
theorem law_call {P : Program} {w : World} {K : PySem.W.Frag} {mg mb : Str → Option Value} {CX : CXT} {k : Nat} {fa a : Addr} {fd : FuncData} {x : Str} {sp : Sp} {s₁ : Shared} {vs : List Value} {ns : List Int}
    (KX : K.In s₁.heap) (hns : s₁.heap.Ns mainGlobals mg) (hb : s₁.heap.Ns builtinsNs mb) (hbb : ∀ x : Str, x ≠ "__name__" → mb x = bootBuiltins x) (hlim : s₁.heap.NoLimit) (hg : s₁.gens = #[])
    (ha : s₁.heap.get? a = some { cls := .type "list", data := .seq vs.toArray }) (hi : IntsAre vs ns) (hl : ns.length ≤ sizeLine) (hr : Room k callerA)
    (F : ∀ base : Heap, K.In base → base.Ns mainGlobals mg → FnOk P w K mg base CX k fa fd [x] sp) (hbind : ∀ (s : Shared) (u : Value), BindsTo s fd ⟨[u], []⟩ [(x, u)])
    (hsp : ∀ H : Hp, Only H → SqL K H a (ns.map V.int) → sp [.ref a] H (fun v _ => v = .bl true) fun _ _ _ => False)
    (hCX : ∀ H e s', CX [] H s₁ (fun _ _ _ => False) e s' → False) :
    codeAny (model P w) callerA (.call (.ref fa) ⟨[.ref a], []⟩) (fun r s' => r = .ok (.ret (.bool true)) ∧ OldK s₁.heap s'.heap ∧ s'.os = s₁.os ∧ AllBare s'.gens) s₁ := by
  have rv := vals_ints hi
  have lenV := hi.length
  have core : ∀ H : Hp, Only H → SqL K H a (ns.map V.int) → HOk P w H s₁.heap → (∀ b, H b ≠ none → b = a) → (H a ≠ none → K.lookup a = none) →
      codeAny (model P w) callerA (.call (.ref fa) ⟨[.ref a], []⟩) (fun r s' => r = .ok (.ret (.bool true)) ∧ OldK s₁.heap s'.heap ∧ s'.os = s₁.os ∧ AllBare s'.gens) s₁ := by
    intro H hO hS hok hA hK
    have base_of : ∀ {b : Addr} {o : Obj}, s₁.heap.get? b = some o → H b = none → (hidT s₁.heap H).get? b = some o := fun e n => hidT_get e n
    have noA : ∀ {b : Addr} {o : Obj} {es : Array DictEntry} {ep : Nat}, s₁.heap.get? b = some o → o.data = .dict es ep → H b = none := fun {b o es ep} e d => by
      cases q : H b with
      | none => rfl
      | some u =>
        have e' : b = a := hA b (by rw [q]; simp)
        subst e'
        rw [ha] at e; cases e
        have d' : Data.seq vs.toArray _ = Data.dict es ep := d
        cases d'
    have nsK : ∀ {b : Addr} {m : Str → Option Value}, s₁.heap.Ns b m → (hidT s₁.heap H).Ns b m := fun {b m} ⟨o, es, ep, e, d, r⟩ => ⟨o, es, ep, base_of e (noA e d), d, r⟩
    have hKb : K.In (hidT s₁.heap H) := fun b o e => base_of (KX b o e) (by
      cases q : H b with
      | none => rfl
      | some u =>
        have e' : b = a := hA b (by rw [q]; simp)
        subst e'
        rw [hK (by rw [q]; simp)] at e; cases e)
    have hM : Mod K mg (hidT s₁.heap H) := ⟨hKb, nsK hns, ⟨mb, nsK hb, hbb⟩, let ⟨mc, h1, h2⟩ := hlim; ⟨mc, nsK h1, h2⟩⟩
    have e0 : Env0 P w K mg (hidT s₁.heap H) callerA [] s₁ H := ⟨rfl, hM, fun b o e => of_hidT e, Nat.le_of_eq (hidT_size _ _), trivial, fun b hb => absurd (show b ∈ ([] : List Addr) from hb) (by simp), hok, .of_eq hg⟩
    refine codeAny_mono ((F _ hKb (nsK hns)).run callerA [] s₁ H ⟨[.ref a], []⟩ [.ref a] [.ref a] _ _ hr e0 (hbind s₁ (.ref a)) (.cons rfl .nil) (hsp H hO hS)) fun r s' h => ?_
    cases r with
    | error e => exact (hCX H e s' h).elim
    | ok fl =>
      cases fl with
      | next => exact False.elim h
      | brk => exact False.elim h
      | cont => exact False.elim h
      | ret u =>
        obtain ⟨v, H', os, bare, un, hok', r', q⟩ := h
        have q' : v = .bl true := q
        subst q'
        obtain rfl : u = Value.bool true := r'
        refine ⟨rfl, OldK.of_keep fun b o e => ?_, os, bare⟩
        cases q : H b with
        | none => exact un.keep b o e q (by intro z; exact absurd (show b ∈ ([] : List Addr) from z) (by simp)) (by simp)
        | some u =>
          rcases hO b with z | ⟨ob, xs, z⟩
          · rw [q] at z; cases z
          · have z2 := un.frzs b ob _ z
            obtain ⟨e1, _⟩ := hok b _ z
            obtain ⟨e2, _⟩ := hok' b _ z2
            rw [e] at e1; cases e1
            exact e2
  cases hk : K.lookup a with
  | some o =>
    have e := KX a o hk
    rw [ha] at e
    cases e
    refine core (fun _ => none) (fun _ => .inl rfl) (.inr ⟨_, vs.toArray, _, hk, rfl, rfl, rfl, by rw [List.size_toArray, lenV]; exact hl, by simpa using rv⟩) (fun b u z => by have z' : (none : Option HO) = some u := z; cases z') (fun b z => absurd rfl z) fun z => absurd rfl z
  | none =>
    refine core (fun b => if b = a then some (.frz { cls := .type "list", data := .seq vs.toArray } (.lst (ns.map V.int))) else none) (fun b => ?_) (.inl (.inr ⟨{ cls := .type "list", data := .seq vs.toArray }, if_pos rfl⟩)) (fun b u z => ?_) (fun b z => ?_) fun _ => hk
    · by_cases hb : b = a
      · exact .inr ⟨_, _, if_pos hb⟩
      · exact .inl (if_neg hb)
    · by_cases hb : b = a
      · have z' := (if_pos hb).symm.trans z
        cases z'
        subst hb
        exact ⟨ha, by rw [List.length_map]; exact hl, vs, _, rv, ha⟩
      · have z' := (if_neg hb).symm.trans z
        cases z'
    · by_cases hb : b = a
      · exact hb
      · exact absurd (if_neg hb) z
end L2
namespace L2
open PySem PySem.Spec PyProof.Rows
abbrev KOf {K : PySem.W.Frag} {h : Heap} (_ : K.In h) : PySem.W.Frag := K
theorem walk_of {l : PySem.W.OpenLaw} {n k : Nat} {q : Program} {loose : List Str} {XP : (Str → Option Value) → Heap → Prop} {YP : World → Heap → Prop} {d : DefRec} {K : Params → PySem.W.Frag} {CX : World → CXT} {sp : World → Sp} {x : Str}
    (hn : l.most = some n) (hn2 : n ≤ sizeLine) (hdf : d.params.defaults = []) (hr : Room k callerA)
    (hY : ∀ (w : World) (h : Heap), YP w h → (K w.params).In h)
    (F : ∀ (w : World) (mg : Str → Option Value) (fa : Addr) (h : Heap), (K w.params).In h → h.Ns mainGlobals mg → mg d.name = some (.ref fa) →
      ∃ fd : FuncData, (∀ (s : Shared) (u : Value), BindsTo s fd ⟨[u], []⟩ [(x, u)]) ∧
        ∀ base : Heap, (K w.params).In base → base.Ns mainGlobals mg → FnOk l.prog w (K w.params) mg base (CX w) k fa fd [x] (sp w))
    (hsp : ∀ (w : World) (H : Hp) (a : Addr) (ns : List Int), ns.length ≤ n → Only H → SqL (K w.params) H a (ns.map V.int) → sp w [.ref a] H (fun v _ => v = .bl true) fun _ _ _ => False)
    (hCX : ∀ (w : World) (H : Hp) (s : Shared) (e : Value) (s' : Shared), CX w [] H s (fun _ _ _ => False) e s' → False) :
    PySem.W.WalkO q loose XP YP l.row.toRowW d [] (fun f vs => PySem.call f vs) := by
  refine Att.attach_call hn hdf fun w s₀ s₁ mg mb fa o pm cd doc a vs ns G Y ho hd hcd hmg hobj hints hlen hg => ?_
  have KX := hY w _ Y
  obtain ⟨fd, hb, hF⟩ := F w mg fa _ KX G.T.g hmg
  exact law_call KX G.T.g G.T.b G.T.builtins G.T.nolimit hg hobj hints (Nat.le_trans hlen hn2) hr hF hb (fun H hO hS => hsp w H a ns hlen hO hS) fun H e s' => hCX w H s₁ e s'
end L2
/- THE LAST THEOREM (shape; LID, My.* are yours):
   My.Adr: a structure of the addresses that your layer names (classes, functions); My.Txt K t: a structure (Prop) of the equations over K;
   My.txt_mk : {K} {implicit addresses ..} (e1 : nsIn K mainGlobals "law" = some (some (.ref f))) (e2 : K.lookup f = some ⟨oc, od, .func (fnOf "law" "law" params body scope dV kV doc pm an cdv ct), sl⟩) (e3 : codeIn K cdv "law" = true) .. : ∃ t, My.Txt K t
set_option maxRecDepth 100000 in
set_option maxHeartbeats 0 in
theorem PySem.Challenge.cw_LID_holds : PySem.Challenge.rw_LID.Holds := by
  w_on; o_law; k_head; (case hw => w_witness2)
  k_fill
  refine L2.walk_of (l := PySem.Challenge.rw_LID) (n := 63) (k := 40) (x := "script") (CX := fun w => ..) (sp := fun _ => My.sp_law) rfl (by decide) rfl ⟨rfl, by decide, by decide⟩ (fun w h Y => PySem.W.kIn_of Y) ?F ?S ?C
  case F =>
    intro w mg fa h KX G hmg
    have T : ∃ t, My.Txt (L2.KOf KX) t := by
      dsimp only [L2.KOf]                          -- K must stand as «<heap const> w.params» for k_is
      refine' My.txt_mk ?e1 ?e2 ?e3 ..
      (case e1 => PySem.W.k_is)                    -- in the order: a name -> its address -> its object -> its parts
      (case e2 => PySem.W.k_is)
      ..
    obtain ⟨t, T⟩ := T
    have e0 := hmg.symm.trans (PySem.W.mg_of KX G T.law)
    cases e0                                       -- fa is the law's own address
    exact ⟨_, fun s u => .of_eq rfl, fun base kb nb => My.law_fn T kb nb⟩     -- if «.of_eq rfl» comes too early: refine' ⟨_, ?b, fun base kb nb => My.law_fn T kb nb⟩; exact fun s u => .of_eq rfl
  case S => exact fun w H a ns hl hO hS => ..
  case C => exact ..
(the tactic k_is has no namespace: write k_is) -/
namespace L2
open PySem PySem.Spec PyProof.Rows
def defArgs (s : Stmt) : Arguments := match s with
  | .FunctionDef _ a _ _ _ _ _ _ _ _ => a
  | _ => { posonlyargs := [], args := [], vararg := none, kwonlyargs := [], kw_defaults := [], kwarg := none, defaults := [] }
def defBody (s : Stmt) : List Stmt := match s with
  | .FunctionDef _ _ b _ _ _ _ _ _ _ => b
  | _ => []
def defScope (s : Stmt) : Scope := match s with
  | .FunctionDef _ _ _ _ _ _ sc _ _ _ => sc
  | _ => { kind := .function, names := [], isGenerator := false, isCoroutine := false }
abbrev CX0 : CXT := fun _ _ _ _ _ _ => False
abbrev E0 : XK := fun _ _ _ => False
theorem pass0 {X : Cx} : Passes CX0 X E0 := fun _ _ _ _ _ _ _ h => h.elim
structure Fun (K : PySem.W.Frag) (x qual : Str) (st : Stmt) (f : Addr) (fd : FuncData) : Prop where
  ex : ∃ (oc : Value) (od : Option Addr) (kV doc pm : Value) (an : Option Addr) (cdv ct : Value) (osl : Array (Option Value)),
    fd = PySem.W.fnOf x qual (defArgs st) (defBody st) (defScope st) .none kV doc pm an cdv ct ∧ K.lookup f = some ⟨oc, od, .func fd, osl⟩ ∧ PySem.W.codeIn K cdv qual = true
  kp : PySem.W.keepIn K (.ref f) = true
section
variable {P : Program} {w : World} {K : PySem.W.Frag} {mg : Str → Option Value} {base : Heap}
theorem Fun.ok {x qual : Str} {st : Stmt} {f : Addr} {fd : FuncData} {N ps : List Str} {k : Nat} {sp : Sp} (F : Fun K x qual st f fd) (S : FnScope N ps (defScope st)) (len : ∀ vs H Q E, sp vs H Q E → vs.length = ps.length)
    (hbody : ∀ (cdv : Value) (A : Around) (outer : List Env) (s : Shared) (H : Hp) (vs : List V) (Q : VK) (E : XK), Room k (A.deeper (envOfC qual (defScope st) s.heap.objs.size f cdv)) → sp vs H Q E →
      ∃ t, PSs (cxOf CX0 P w K mg base N qual (defScope st) f cdv A outer s H E).nox (defBody st) t ∧ t { nx := fun _ H' => Q .non H', rt := Q } (start N vs) H) : FnOk P w K mg base CX0 (k + 1) f fd ps sp := by
  obtain ⟨oc, od, kV, doc, pm, an, cdv, ct, osl, rfl, lk, hcd⟩ := F.ex
  refine fn_of lk hcd S len fun A outer s H vs Q E hr hsp => ?_
  obtain ⟨t, h, q⟩ := hbody cdv A outer s H vs Q E hr hsp
  exact ⟨t, h.nox, q⟩
theorem Fun.binds {x qual : Str} {st : Stmt} {f : Addr} {fd : FuncData} {ps : List Str} (F : Fun K x qual st f fd)
    (h : ∀ (kV doc pm : Value) (an : Option Addr) (cdv ct : Value) (us : List Value), us.length = ps.length → bindArgs (PySem.W.fnOf x qual (defArgs st) (defBody st) (defScope st) .none kV doc pm an cdv ct) ⟨us, []⟩ = pure (ps.zip us)) : Binds K fd ps [] := by
  obtain ⟨oc, od, kV, doc, pm, an, cdv, ct, osl, rfl, lk, hcd⟩ := F.ex
  exact .all (h kV doc pm an cdv ct)
theorem fun_mk {x qual : Str} {st : Stmt} {f : Addr} {oc : Value} {od an : Option Addr} {osl : Array (Option Value)} {kV doc pm cdv ct : Value} (l : K.lookup f = some ⟨oc, od, .func (PySem.W.fnOf x qual (defArgs st) (defBody st) (defScope st) .none kV doc pm an cdv ct), osl⟩)
    (c : PySem.W.codeIn K cdv qual = true) (k : PySem.W.keepIn K (.ref f) = true) : Fun K x qual st f (PySem.W.fnOf x qual (defArgs st) (defBody st) (defScope st) .none kV doc pm an cdv ct) := ⟨⟨oc, od, kV, doc, pm, an, cdv, ct, osl, rfl, l, c⟩, k⟩
end
section
variable {X : Cx}
end
theorem iteF {A B : Prop} (h : B) : if false = true then A else B := by
  rw [if_neg Bool.false_ne_true]
  exact h
theorem iteT {A B : Prop} (h : A) : if true = true then A else B := by
  rw [if_pos rfl]
  exact h
def Same (H H' : Hp) : Prop := ∀ b o, H b = some o → H' b = some o
theorem Same.refl (H : Hp) : Same H H := fun _ _ h => h
theorem Same.trans {H H1 H2 : Hp} (a : Same H H1) (b : Same H1 H2) : Same H H2 := fun c o h => b c o (a c o h)
theorem Same.free {H H' : Hp} (e : Same H H') {l : Addr} (h : H' l = Option.none) : H l = Option.none := by
  cases q : H l with
  | none => rfl
  | some o =>
    rw [e l o q] at h
    cases h
theorem Same.seq {K : PySem.W.Frag} {H H' : Hp} {a : Addr} {xs : List V} (e : Same H H') (h : SqL K H a xs) : SqL K H' a xs := by
  rcases h with (h | ⟨o, h⟩) | h
  · exact .inl (.inl (e _ _ h))
  · exact .inl (.inr ⟨o, e _ _ h⟩)
  · exact .inr h
end L2
set_option Elab.async false
set_option maxRecDepth 100000
set_option maxHeartbeats 4000000
namespace SB
open PySem PyProof.Rows
structure SI (a0 : Array Keyed) (st : SortSt) : Prop where
  perm : (arrOf st).Perm a0
  kind : kindOf st = oneType'
  failed : failedOf st = none
theorem SI.size {a0 : Array Keyed} {st : SortSt} (h : SI a0 st) : (arrOf st).size = a0.size := h.perm.size_eq
theorem SI.setArr {a0 : Array Keyed} {st : SortSt} (h : SI a0 st) {xs : Array Keyed} (hp : xs.Perm (arrOf st)) : SI a0 (setArr st xs) := ⟨hp.trans h.perm, h.kind, h.failed⟩
theorem SI.keys {a0 : Array Keyed} {st : SortSt} (h : SI a0 st) (h0 : IntKeys a0) : IntKeys (arrOf st) := fun p hp => h0 p ((Array.perm_iff_toList_perm.mp h.perm).mem_iff.mp hp)
theorem ik_at {xs : Array Keyed} (h : IntKeys xs) {i : Nat} (hi : i < xs.size) : ∃ p, xs[i]? = some p ∧ ∃ n t, p.1 = Value.int n t :=
  ⟨xs[i], getElem?_pos xs i hi, h _ (by simp)⟩
def gallop' : Bool → Keyed → Array Keyed → Nat → Nat → Nat → StateT SortSt Sem (Option Nat) := sortPriv% PySem.Builtin.gallop
def mergeLo' : Array Keyed → Array Keyed → StateT SortSt Sem (Array Keyed) := sortPriv% PySem.Builtin.mergeLo
def mergeHi' : Array Keyed → Array Keyed → StateT SortSt Sem (Array Keyed) := sortPriv% PySem.Builtin.mergeHi
def setMinGallop' : Nat → StateT SortSt Sem Unit := sortPriv% PySem.Builtin.setMinGallop
section
variable {prog : Program} {w : World} {A : Around} {E : Value → Shared → Prop} {s : Shared} {a0 : Array Keyed}
theorem wpS_elem {arr : Array Keyed} {i : Nat} {p : Keyed} {Q : Keyed → SortSt → Prop} {st : SortSt} (hp : arr[i]? = some p) (h : Q p st) : wpS (model prog w) A E s (elem' arr i) Q st := by
  rw [elem'_eq, hp]; exact wpS_pure h
def G (a0 : Array Keyed) (pe : Array (Nat × Nat × Nat)) (st : SortSt) : Prop := SI a0 st ∧ pendingOf st = pe
theorem setMin'_eq (g : Nat) : setMinGallop' g = modify fun s => SortSt.mk' (kindOf s) (arrOf s) (pendingOf s) g (failedOf s) := rfl
def Laid (a b : Array Keyed) (ia ib : Nat) (out : Array Keyed) : Prop := out.toList.Perm (a.toList.take ia ++ b.toList.take ib)
theorem take_at {xs : Array Keyed} {i : Nat} {p : Keyed} (h : xs[i]? = some p) : xs.toList.take (i + 1) = xs.toList.take i ++ [p] := by
  have h' : xs.toList[i]? = some p := by simpa using h
  rw [List.take_add_one, h']; rfl
theorem Laid.b {a b : Array Keyed} {ia ib : Nat} {out : Array Keyed} (h : Laid a b ia ib out) {p : Keyed} (hp : b[ib]? = some p) : Laid a b ia (ib + 1) (out.push p) := by
  unfold Laid at h ⊢
  rw [take_at hp, Array.toList_push, ← List.append_assoc]
  exact h.append_right _
theorem Laid.a {a b : Array Keyed} {ia ib : Nat} {out : Array Keyed} (h : Laid a b ia ib out) {p : Keyed} (hp : a[ia]? = some p) : Laid a b (ia + 1) ib (out.push p) := by
  unfold Laid at h ⊢
  rw [take_at hp, Array.toList_push, List.append_assoc]
  refine (h.append_right _).trans ?_
  rw [List.append_assoc]
  exact (List.perm_append_comm).append_left _
theorem ext_list (xs : Array Keyed) (i j : Nat) : (xs.extract i j).toList = (xs.toList.take j).drop i := by
  rw [Array.toList_extract, List.extract_eq_take_drop, List.drop_take]
theorem take_ext (xs : Array Keyed) (i k : Nat) : xs.toList.take (i + k) = xs.toList.take i ++ (xs.extract i (i + k)).toList := by
  rw [ext_list]
  have := List.take_append_drop i (xs.toList.take (i + k))
  rw [List.take_take, Nat.min_eq_left (by omega)] at this
  exact this.symm
theorem Laid.ak {a b : Array Keyed} {ia ib : Nat} {out : Array Keyed} (h : Laid a b ia ib out) (k : Nat) : Laid a b (ia + k) ib (out ++ a.extract ia (ia + k)) := by
  unfold Laid at h ⊢
  rw [take_ext, Array.toList_append, List.append_assoc]
  refine (h.append_right _).trans ?_
  rw [List.append_assoc]
  exact (List.perm_append_comm).append_left _
theorem Laid.bk {a b : Array Keyed} {ia ib : Nat} {out : Array Keyed} (h : Laid a b ia ib out) (k : Nat) : Laid a b ia (ib + k) (out ++ b.extract ib (ib + k)) := by
  unfold Laid at h ⊢
  rw [take_ext, Array.toList_append, ← List.append_assoc]
  exact h.append_right _
theorem Laid.all {a b : Array Keyed} {ia ib : Nat} {out : Array Keyed} (h : Laid a b ia ib out) (ha : ia ≤ a.size) (hb : ib ≤ b.size) :
    (out ++ a.extract ia a.size ++ b.extract ib b.size).toList.Perm (a.toList ++ b.toList) := by
  obtain ⟨j, hj⟩ : ∃ j, a.size = ia + j := ⟨a.size - ia, by omega⟩
  obtain ⟨k, hk⟩ : ∃ k, b.size = ib + k := ⟨b.size - ib, by omega⟩
  have q := (h.ak j).bk k
  rw [← hj, ← hk] at q
  unfold Laid at q
  rw [List.take_of_length_le (by simp), List.take_of_length_le (by simp)] at q
  exact q
theorem Laid.all' {a b : Array Keyed} {ia ib : Nat} {out : Array Keyed} (h : Laid a b ia ib out) (ha : ia ≤ a.size) (hb : ib ≤ b.size) :
    (out ++ b.extract ib b.size ++ a.extract ia a.size).toList.Perm (a.toList ++ b.toList) := by
  obtain ⟨j, hj⟩ : ∃ j, a.size = ia + j := ⟨a.size - ia, by omega⟩
  obtain ⟨k, hk⟩ : ∃ k, b.size = ib + k := ⟨b.size - ib, by omega⟩
  have q := (h.bk k).ak j
  rw [← hj, ← hk] at q
  unfold Laid at q
  rw [List.take_of_length_le (by simp), List.take_of_length_le (by simp)] at q
  exact q
theorem wpS_ite {α : Type} {c : Prop} [Decidable c] {t e : StateT SortSt Sem α} {Q : α → SortSt → Prop} {st : SortSt} {M : Model} (h1 : c → wpS M A E s t Q st) (h2 : ¬ c → wpS M A E s e Q st) :
    wpS M A E s (if c then t else e) Q st := by
  by_cases h : c
  · rw [if_pos h]; exact h1 h
  · rw [if_neg h]; exact h2 h
theorem wpS_iteB {α : Type} {x y : Nat} {t e : StateT SortSt Sem α} {Q : α → SortSt → Prop} {st : SortSt} {M : Model} (h1 : x = y → wpS M A E s t Q st) (h2 : x ≠ y → wpS M A E s e Q st) :
    wpS M A E s (if (x == y) = true then t else e) Q st :=
  wpS_ite (fun h => h1 (by simpa using h)) fun h => h2 (by simpa using h)
theorem wpS_elemB {arr : Array Keyed} {i : Nat} {Q : Keyed → SortSt → Prop} {st : SortSt} (ha : IntKeys arr) (hi : i < arr.size) (h : ∀ p, arr[i]? = some p → (∃ n t, p.1 = Value.int n t) → Q p st) :
    wpS (model prog w) A E s (elem' arr i) Q st := by
  obtain ⟨p, e, k⟩ := ik_at ha hi
  exact wpS_elem e (h p e k)
def GX (a0 : Array Keyed) (pe : Array (Nat × Nat × Nat)) (xs : Array Keyed) (st : SortSt) : Prop := G a0 pe st ∧ arrOf st = xs
theorem wpS_setMin {g : Nat} {pe : Array (Nat × Nat × Nat)} {xs : Array Keyed} {Q : Unit → SortSt → Prop} {st : SortSt} (hB : GX a0 pe xs st) (h : ∀ st', GX a0 pe xs st' → Q () st') :
    wpS (model prog w) A E s (setMinGallop' g) Q st := by
  rw [setMin'_eq]
  exact wpS_modify (h _ ⟨⟨⟨hB.1.1.perm, hB.1.1.kind, hB.1.1.failed⟩, hB.1.2⟩, hB.2⟩)
structure Mid (a b : Array Keyed) (c0 ia ib : Nat) (out : Array Keyed) : Prop where
  laid : Laid a b ia ib out
  ha : ia + 1 < a.size
  hb : ib < b.size
  pr : c0 ≤ ia + ib
def LaidH (a b : Array Keyed) (na nb : Nat) (out : Array Keyed) : Prop := out.toList.Perm (a.toList.drop na ++ b.toList.drop nb)
theorem drop_at {xs : Array Keyed} {i : Nat} {p : Keyed} (h : xs[i]? = some p) : xs.toList.drop i = p :: xs.toList.drop (i + 1) := by
  have h' : xs.toList[i]? = some p := by simpa using h
  obtain ⟨hi, e⟩ := List.getElem?_eq_some_iff.mp h'
  rw [List.drop_eq_getElem_cons hi, e]
theorem LaidH.b {a b : Array Keyed} {na nb : Nat} {out : Array Keyed} (h : LaidH a b na nb out) (h1 : 1 ≤ nb) {p : Keyed} (hp : b[nb - 1]? = some p) : LaidH a b na (nb - 1) (out.push p) := by
  unfold LaidH at h ⊢
  rw [drop_at hp, Array.toList_push, Nat.sub_add_cancel h1]
  refine (h.append_right _).trans ?_
  rw [List.append_assoc]
  exact (List.perm_append_comm).append_left _
theorem LaidH.a {a b : Array Keyed} {na nb : Nat} {out : Array Keyed} (h : LaidH a b na nb out) (h1 : 1 ≤ na) {p : Keyed} (hp : a[na - 1]? = some p) : LaidH a b (na - 1) nb (out.push p) := by
  unfold LaidH at h ⊢
  rw [drop_at hp, Array.toList_push, Nat.sub_add_cancel h1]
  refine (h.append_right _).trans ?_
  exact List.perm_append_singleton _ _
theorem drop_ext (xs : Array Keyed) {i j : Nat} (h : i ≤ j) : xs.toList.drop i = (xs.extract i j).toList ++ xs.toList.drop j := by
  rw [ext_list]
  obtain ⟨k, rfl⟩ : ∃ k, j = i + k := ⟨j - i, by omega⟩
  rw [List.drop_take, Nat.add_sub_cancel_left, ← List.drop_drop, List.take_append_drop]
theorem LaidH.ak {a b : Array Keyed} {na nb : Nat} {out : Array Keyed} (h : LaidH a b na nb out) {k : Nat} (hk : k ≤ na) : LaidH a b k nb (out ++ (a.extract k na).reverse) := by
  unfold LaidH at h ⊢
  rw [drop_ext a hk, Array.toList_append, Array.toList_reverse]
  refine (h.append_right _).trans ?_
  refine (List.Perm.append_left _ (List.reverse_perm _)).trans ?_
  refine List.perm_append_comm.trans ?_
  rw [List.append_assoc]
theorem LaidH.bk {a b : Array Keyed} {na nb : Nat} {out : Array Keyed} (h : LaidH a b na nb out) {k : Nat} (hk : k ≤ nb) : LaidH a b na k (out ++ (b.extract k nb).reverse) := by
  unfold LaidH at h ⊢
  rw [drop_ext b hk, Array.toList_append, Array.toList_reverse]
  refine (h.append_right _).trans ?_
  refine (List.Perm.append_left _ (List.reverse_perm _)).trans ?_
  rw [List.append_assoc]
  exact (List.perm_append_comm).append_left _
theorem LaidH.all {a b : Array Keyed} {na nb : Nat} {out : Array Keyed} (h : LaidH a b na nb out) :
    (a.extract 0 na ++ b.extract 0 nb ++ out.reverse).toList.Perm (a.toList ++ b.toList) := by
  unfold LaidH at h
  rw [Array.toList_append, Array.toList_append, Array.toList_reverse, ext_list, ext_list, List.drop_zero, List.drop_zero]
  refine (List.Perm.append_left _ ((List.reverse_perm _).trans h)).trans ?_
  rw [List.append_assoc, ← List.append_assoc (b.toList.take nb)]
  refine (List.Perm.append_left _ (List.perm_append_comm.append_right _)).trans ?_
  rw [List.append_assoc, ← List.append_assoc, List.take_append_drop, List.take_append_drop]
theorem LaidH.all' {a b : Array Keyed} {na nb : Nat} {out : Array Keyed} (h : LaidH a b na nb out) :
    (b.extract 0 nb ++ a.extract 0 na ++ out.reverse).toList.Perm (a.toList ++ b.toList) := by
  refine List.Perm.trans ?_ h.all
  rw [Array.toList_append, Array.toList_append, Array.toList_append, Array.toList_append]
  exact List.perm_append_comm.append_right _
structure MidH (a b : Array Keyed) (c0 na nb : Nat) (out : Array Keyed) : Prop where
  laid : LaidH a b na nb out
  ha : 1 ≤ na
  ha2 : na ≤ a.size
  hb : 2 ≤ nb
  hb2 : nb ≤ b.size
  pr : c0 + na + nb ≤ a.size + b.size
theorem wpS_set {st st1 : SortSt} {M : Model} {Q : PUnit → SortSt → Prop} (h : Q ⟨⟩ st1) : wpS M A E s (set st1 : StateT SortSt Sem PUnit) Q st := by
  unfold wpS; rw [StateT.run_set]; exact wpAny_pure ⟨rfl, h⟩
theorem keys_ext {xs : Array Keyed} (h : IntKeys xs) (i j : Nat) : IntKeys (xs.extract i j) := fun p hp => by
  rw [ext_list] at hp
  exact h p (List.mem_of_mem_take (List.mem_of_mem_drop hp))
theorem put_at (ys : List Keyed) : ∀ (j k : Nat) (xs : Array Keyed), k + j + ys.length ≤ xs.size →
    ((ys.zipIdx j).foldl (fun a (pj : Keyed × Nat) => a.setIfInBounds (k + pj.2) pj.1) xs).toList = xs.toList.take (k + j) ++ ys ++ xs.toList.drop (k + j + ys.length) := by
  induction ys with
  | nil => intro j k xs _; simp
  | cons y ys ih =>
    intro j k xs h
    simp only [List.length_cons] at h
    rw [List.zipIdx_cons, List.foldl_cons, ih (j + 1) k _ (by rw [Array.size_setIfInBounds]; omega)]
    rw [Array.toList_setIfInBounds]
    have hl : k + j < xs.toList.length := by simp; omega
    rw [show k + (j + 1) = (k + j) + 1 by omega, List.take_add_one, List.getElem?_set_self hl]
    rw [List.take_set_of_le (by omega), List.drop_set_of_lt (by omega)]
    simp only [Option.toList_some, List.append_assoc, List.length_cons, List.cons_append, List.nil_append]
    rw [show k + j + 1 + ys.length = k + j + (ys.length + 1) by omega]
theorem three_perm {l : List Keyed} {i j k : Nat} (hij : i ≤ j) (hjk : j ≤ k) {m : List Keyed} (h : m.Perm ((l.take j).drop i ++ (l.take k).drop j)) : (l.take i ++ m ++ l.drop k).Perm l := by
  have e : l = l.take i ++ ((l.take j).drop i ++ (l.take k).drop j) ++ l.drop k := by
    have e1 : l.take j = l.take i ++ (l.take j).drop i := by
      have := List.take_append_drop i (l.take j)
      rw [List.take_take, Nat.min_eq_left hij] at this; exact this.symm
    have e2 : l.take k = l.take j ++ (l.take k).drop j := by
      have := List.take_append_drop j (l.take k)
      rw [List.take_take, Nat.min_eq_left hjk] at this; exact this.symm
    rw [← List.append_assoc, ← e1, ← e2, List.take_append_drop]
  conv => rhs; rw [e]
  exact (h.append_left _).append_right _
theorem ite_lt2 {c : Prop} [Decidable c] {x y z : Nat} (h1 : x + 1 < z) (h2 : y + 1 < z) : (if c then x else y) + 1 < z := by
  by_cases h : c <;> simp [h, h1, h2]
end
end SB
set_option Elab.async false
set_option maxRecDepth 100000
set_option maxHeartbeats 4000000
namespace SB
open PySem PyProof.Rows
abbrev ks (p : Keyed) : Int := numOf p.1
def Up (xs : Array Keyed) (i j : Nat) : Prop := ∀ k m, i ≤ k → k ≤ m → m < j → K xs k ≤ K xs m
def Dn (xs : Array Keyed) (i j : Nat) : Prop := ∀ k m, i ≤ k → k ≤ m → m < j → K xs m ≤ K xs k
theorem K_at {xs : Array Keyed} {i : Nat} {p : Keyed} (h : xs[i]? = some p) : K xs i = ks p := by unfold K; rw [h]
theorem Up.one (xs : Array Keyed) (i : Nat) : Up xs i (i + 1) := fun k m h1 h2 h3 => by
  obtain rfl : k = m := by omega
  exact Int.le_refl _
theorem Up.snoc {xs : Array Keyed} {i j : Nat} (h : Up xs i j) (hj : K xs (j - 1) ≤ K xs j) : Up xs i (j + 1) := fun k m h1 h2 h3 => by
  by_cases e : m < j
  · exact h k m h1 h2 e
  obtain rfl : m = j := by omega
  by_cases e2 : k = m
  · subst e2; exact Int.le_refl _
  exact Int.le_trans (h k (m - 1) h1 (by omega) (by omega)) hj
theorem Dn.snoc {xs : Array Keyed} {i j : Nat} (h : Dn xs i j) (hj : K xs j ≤ K xs (j - 1)) : Dn xs i (j + 1) := fun k m h1 h2 h3 => by
  by_cases e : m < j
  · exact h k m h1 h2 e
  obtain rfl : m = j := by omega
  by_cases e2 : k = m
  · subst e2; exact Int.le_refl _
  exact Int.le_trans hj (h k (m - 1) h1 (by omega) (by omega))
theorem Up.eqK {xs ys : Array Keyed} {i j : Nat} (h : Up xs i j) (e : ∀ k, i ≤ k → k < j → K ys k = K xs k) : Up ys i j := fun k m h1 h2 h3 => by
  rw [e k h1 (by omega), e m (by omega) h3]; exact h k m h1 h2 h3
theorem Dn.eqK {xs ys : Array Keyed} {i j : Nat} (h : Dn xs i j) (e : ∀ k, i ≤ k → k < j → K ys k = K xs k) : Dn ys i j := fun k m h1 h2 h3 => by
  rw [e k h1 (by omega), e m (by omega) h3]; exact h k m h1 h2 h3
theorem Dn.mir {xs : Array Keyed} {i j : Nat} (h : Dn xs i j) (hj : j ≤ xs.size) : Up (mirror xs i j ((j - i) / 2)) i j := fun k m h1 h2 h3 => by
  rw [K_mirror hj, K_mirror hj, if_pos (by omega), if_pos (by omega)]
  exact h _ _ (by omega) (by omega) (by omega)
def Low (lo : Nat) (xs ys : Array Keyed) : Prop := ∀ k, k < lo → K ys k = K xs k
theorem Low.refl (lo : Nat) (xs : Array Keyed) : Low lo xs xs := fun _ _ => rfl
theorem Low.trans {lo : Nat} {xs ys zs : Array Keyed} (h : Low lo xs ys) (h2 : Low lo ys zs) : Low lo xs zs := fun k hk => (h2 k hk).trans (h k hk)
theorem Low.mir {lo : Nat} {xs : Array Keyed} {i j : Nat} (hi : lo ≤ i) (hj : j ≤ xs.size) : Low lo xs (mirror xs i j ((j - i) / 2)) := fun k hk => by
  rw [K_mirror hj, if_neg (by omega)]
section
variable {prog : Program} {w : World} {A : Around} {E : Value → Shared → Prop} {s : Shared} {a0 : Array Keyed}
theorem wpS_ltP {x y : Keyed} {st : SortSt} {Q : Option Bool → SortSt → Prop} (hk : kindOf st = oneType') (hx : ∃ n t, x.1 = Value.int n t) (hy : ∃ n t, y.1 = Value.int n t)
    (h : Q (some (decide (ks x < ks y))) st) : wpS (model prog w) A E s (lt' x y) Q st := by
  obtain ⟨n, t, ex⟩ := hx
  obtain ⟨m, u, ey⟩ := hy
  have e1 : ks x = n := by unfold ks; rw [ex]; rfl
  have e2 : ks y = m := by unfold ks; rw [ey]; rfl
  rw [e1, e2] at h
  rw [lt'_eq]
  refine wpS_bind (wpS_get ?_)
  rw [hk, keyLt'_oneType, ex, ey]
  exact wpS_bind (wpS_lift (wpAny_attempt (oneLt_int ⟨rfl, wpS_pure h⟩)))
theorem wpS_ltI {i j : Nat} {st : SortSt} {Q : Option Bool → SortSt → Prop} (hB : SI a0 st) (h0 : IntKeys a0) (hi : i < a0.size) (hj : j < a0.size)
    (h : ∀ b : Bool, (b = true ↔ K (arrOf st) i < K (arrOf st) j) → Q (some b) st) : wpS (model prog w) A E s (ltAt' i j) Q st := by
  obtain ⟨p, e1, k1⟩ := ik_at (hB.keys h0) (i := i) (by rw [hB.size]; exact hi)
  obtain ⟨q, e2, k2⟩ := ik_at (hB.keys h0) (i := j) (by rw [hB.size]; exact hj)
  rw [ltAt'_eq]
  refine wpS_bind (wpS_get ?_)
  refine wpS_bind (wpS_elem e1 (wpS_bind (wpS_elem e2 (wpS_ltP hB.kind k1 k2 (h _ ?_)))))
  rw [K_at e1, K_at e2]; simp
theorem wpS_revI {st : SortSt} {i j : Nat} {Q : Unit → SortSt → Prop} (hB : SI a0 st) (h : ∀ st', SI a0 st' → pendingOf st' = pendingOf st → arrOf st' = mirror (arrOf st) i j ((j - i) / 2) → Q () st') :
    wpS (model prog w) A E s (reverseSlice' i j) Q st := by
  rw [reverseSlice'_eq]; exact wpS_modify (h _ (hB.setArr (mirror_perm _ _ _ _)) rfl rfl)
theorem wpS_downI {st : SortSt} {i j : Nat} {Q : Unit → SortSt → Prop} (hB : SI a0 st) (h : ∀ st', SI a0 st' → pendingOf st' = pendingOf st → arrOf st' = bubble (arrOf st) i (i - j) → Q () st') :
    wpS (model prog w) A E s (moveDown' i j) Q st := by
  rw [moveDown'_eq]; exact wpS_modify (h _ (hB.setArr (bubble_perm _ _ _)) rfl rfl)
def GL (a0 : Array Keyed) (pe : Array (Nat × Nat × Nat)) (lo : Nat) (ys : Array Keyed) (st : SortSt) : Prop := G a0 pe st ∧ Low lo ys (arrOf st)
structure Fall (xs : Array Keyed) (lo x q : Nat) : Prop where
  dn : Dn xs lo (lo + x)
  q1 : q + 1 ≤ x
  eq : ∀ i, lo + x - (q + 1) ≤ i → i < lo + x → K xs i = K xs (lo + x - 1)
theorem Fall.zero {xs : Array Keyed} {lo x : Nat} (h : Dn xs lo (lo + x)) (h1 : 1 ≤ x) : Fall xs lo x 0 := ⟨h, h1, fun i h2 h3 => by congr 1; omega⟩
theorem Fall.less {xs : Array Keyed} {lo x q : Nat} (h : Fall xs lo x q) (hl : K xs (lo + x) < K xs (lo + x - 1)) : Fall xs lo (x + 1) 0 :=
  .zero (h.dn.snoc (Int.le_of_lt hl)) (by omega)
theorem Fall.mir {xs : Array Keyed} {lo x q : Nat} (h : Fall xs lo x q) (hz : lo + x ≤ xs.size) (k : Nat) :
    K (mirror xs (lo + x - (q + 1)) (lo + x) ((lo + x - (lo + x - (q + 1))) / 2)) k = K xs k := K_mirror_equal hz h.eq k
theorem Fall.like {xs : Array Keyed} {lo x q : Nat} (h : Fall xs lo x q) (h1 : ¬ K xs (lo + x) < K xs (lo + x - 1)) (h2 : ¬ K xs (lo + x - 1) < K xs (lo + x)) : Fall xs lo (x + 1) (q + 1) := by
  have e : K xs (lo + x) = K xs (lo + x - 1) := by omega
  have := h.q1
  refine ⟨h.dn.snoc (by omega), by omega, fun i h3 h4 => ?_⟩
  rw [show lo + (x + 1) - 1 = lo + x by omega]
  by_cases hi : i = lo + x
  · rw [hi]
  · rw [e]; exact h.eq i (by omega) (by omega)
theorem count_s {lo nrem : Nat} {pe : Array (Nat × Nat × Nat)} {ys : Array Keyed} {st : SortSt} {Q : Option Nat → SortSt → Prop} (h0 : IntKeys a0) (hn : lo + nrem ≤ a0.size) (h1 : 1 ≤ nrem) (hB : GL a0 pe lo ys st)
    (h : ∀ m st', GL a0 pe lo ys st' → 1 ≤ m → m ≤ nrem → Up (arrOf st') lo (lo + m) → Q (some m) st') : wpS (model prog w) A E s (countRun' lo nrem) Q st := by
  rw [countRun'_eq]
  refine wpS_bind (wpS_mono (wpS_forRange (I := fun x c st' => c = (none, x) ∧ GL a0 pe lo ys st' ∧ Up (arrOf st') lo (lo + x)) (Q := fun c st' => ∃ m, c = (none, m) ∧ 1 ≤ m ∧ m ≤ nrem ∧ GL a0 pe lo ys st' ∧ Up (arrOf st') lo (lo + m) ∧ (m = nrem ∨ K (arrOf st') (lo + m) < K (arrOf st') (lo + m - 1))) ?s1 ?f1 ⟨rfl, hB, Up.one _ _⟩) ?p1)
  case f1 => rintro c st' ⟨rfl, g, U⟩; exact ⟨_, rfl, by omega, by omega, g, U, .inl (by omega)⟩
  case s1 =>
    rintro x c st' hx1 hx2 ⟨rfl, g, U⟩
    refine wpS_bind (wpS_ltI g.1.1 h0 (by omega) (by omega) fun b hb => ?_)
    cases b
    · exact wpS_pure ⟨rfl, g, U.snoc (Int.not_lt.mp fun z => by cases hb.mpr z)⟩
    · exact wpS_pure ⟨x, rfl, hx1, by omega, g, U, .inr (hb.mp rfl)⟩
  case p1 =>
    rintro c st' ⟨m, rfl, hm1, hm2, g, U, hor⟩
    dsimp only
    by_cases hnn : m = nrem
    · rw [if_pos (by simpa using hnn)]
      exact wpS_pure (h _ _ g hm1 hm2 U)
    rw [if_neg (by simpa using hnn)]
    have hlt := hor.resolve_left hnn
    by_cases hgt : m > 1
    · rw [if_pos hgt]
      refine wpS_bind (wpS_ltI g.1.1 h0 (by omega) (by omega) fun b hb => ?_)
      cases b
      · have hb : ¬ K (arrOf st') lo < K (arrOf st') (lo + m - 1) := fun z => by cases hb.mpr z
        dsimp only
        rw [if_neg (by decide)]
        have hz : lo + m ≤ (arrOf st').size := by rw [g.1.1.size]; omega
        have al : ∀ k, lo ≤ k → k < lo + m → K (arrOf st') k = K (arrOf st') (lo + m - 1) := fun k h1 h2 => by
          have q1 := U lo k (Nat.le_refl _) h1 h2
          have q2 := U k (lo + m - 1) h1 (by omega) (by omega)
          omega
        refine wpS_bind (wpS_revI g.1.1 fun st1 b1 e1 a1 => ?_)
        have eK : ∀ k, K (arrOf st1) k = K (arrOf st') k := fun k => by rw [a1]; exact K_mirror_equal hz al k
        have F : Fall (arrOf st1) lo (m + 1) 0 := by
          refine .zero (Dn.eqK (xs := arrOf st') ?_ fun k _ _ => eK k) (by omega)
          refine Dn.snoc (i := lo) (j := lo + m) (fun k n h1 h2 h3 => ?_) (Int.le_of_lt hlt)
          rw [al k h1 (by omega), al n (by omega) h3]; exact Int.le_refl _
        have g : GL a0 pe lo ys st1 := ⟨⟨b1, e1.trans g.1.2⟩, fun k hk => (eK k).trans (g.2 k hk)⟩
        refine wpS_bind (wpS_lift (wpAny_rule ⟨rfl, ?_⟩))
        refine wpS_bind (wpS_mono (wpS_forRange (I := fun x c st' => ∃ q, c = (none, x, q) ∧ GL a0 pe lo ys st' ∧ Fall (arrOf st') lo x q) (Q := fun c st' => ∃ m q, c = (none, m, q) ∧ m ≤ nrem ∧ GL a0 pe lo ys st' ∧ Fall (arrOf st') lo m q) ?_ ?_ ⟨0, rfl, g, F⟩) ?_)
        · rintro x c st' hx1 hx2 ⟨q, rfl, g, F⟩
          dsimp only
          have hz : lo + x ≤ (arrOf st').size := by rw [g.1.1.size]; omega
          refine wpS_bind (wpS_ltI g.1.1 h0 (by omega) (by omega) fun b hb => ?_)
          cases b
          · have hb : ¬ K (arrOf st') (lo + x) < K (arrOf st') (lo + x - 1) := fun z => by cases hb.mpr z
            refine wpS_bind (wpS_ltI g.1.1 h0 (by omega) (by omega) fun b hb2 => ?_)
            cases b
            · exact wpS_pure ⟨_, rfl, g, F.like hb fun z => by cases hb2.mpr z⟩
            · exact wpS_pure ⟨x, q, rfl, by omega, g, F⟩
          · have hb := hb.mp rfl
            by_cases hq : q > 0
            · simp only [if_pos hq, if_true]
              refine wpS_bind (wpS_revI g.1.1 fun st2 b2 e2 a2 => wpS_pure ⟨0, rfl, ⟨⟨b2, e2.trans g.1.2⟩, fun k hk => ?_⟩, ?_⟩)
              · rw [a2, F.mir hz]; exact g.2 k hk
              · rw [a2]
                exact .zero ((F.less hb).dn.eqK fun k _ _ => F.mir hz k) (by omega)
            · simp only [if_neg hq, if_true]
              exact wpS_pure ⟨0, rfl, g, F.less hb⟩
        · rintro c st' ⟨q, rfl, g, F⟩; exact ⟨_, _, rfl, by omega, g, F⟩
        · rintro c st' ⟨m, q, rfl, hm2, g, F⟩
          dsimp only
          have hm1 := F.q1
          have hz : lo + m ≤ (arrOf st').size := by rw [g.1.1.size]; omega
          by_cases hq : q > 0
          · rw [if_pos hq]
            refine wpS_bind (wpS_revI g.1.1 fun st2 b2 e2 a2 => wpS_bind (wpS_revI b2 fun st3 b3 e3 a3 => ?_))
            have hz2 : lo + m ≤ (arrOf st2).size := by rw [b2.size]; omega
            have D2 : Dn (arrOf st2) lo (lo + m) := by rw [a2]; exact F.dn.eqK fun k _ _ => F.mir hz k
            have L2 : Low lo ys (arrOf st2) := by rw [a2]; exact fun k hk => (F.mir hz k).trans (g.2 k hk)
            have U : Up (arrOf st3) lo (lo + m) := by rw [a3]; exact D2.mir hz2
            have L3 : Low lo ys (arrOf st3) := by rw [a3]; exact L2.trans (Low.mir (Nat.le_refl _) hz2)
            refine wpS_bind (wpS_mono (wpS_forRange (I := fun x c st' => c = (none, x) ∧ GL a0 pe lo ys st' ∧ Up (arrOf st') lo (lo + x)) (Q := fun c st' => ∃ m, c = (none, m) ∧ 1 ≤ m ∧ m ≤ nrem ∧ GL a0 pe lo ys st' ∧ Up (arrOf st') lo (lo + m)) ?_ ?_ ⟨rfl, ⟨⟨b3, e3.trans (e2.trans g.1.2)⟩, L3⟩, U⟩) ?_)
            · rintro x c st' hx1 hx2 ⟨rfl, g, U⟩
              dsimp only
              refine wpS_bind (wpS_ltI g.1.1 h0 (by omega) (by omega) fun b hb => ?_)
              cases b
              · exact wpS_pure ⟨rfl, g, U.snoc (Int.not_lt.mp fun z => by cases hb.mpr z)⟩
              · exact wpS_pure ⟨x, rfl, by omega, by omega, g, U⟩
            · rintro c st' ⟨rfl, g, U⟩; exact ⟨_, rfl, by omega, by omega, g, U⟩
            · rintro c st' ⟨m, rfl, hm1, hm2, g, U⟩
              exact wpS_pure (h _ _ g hm1 hm2 U)
          · rw [if_neg hq]
            refine wpS_bind (wpS_revI g.1.1 fun st3 b3 e3 a3 => ?_)
            have e2 : pendingOf st' = pendingOf st' := rfl
            have U : Up (arrOf st3) lo (lo + m) := by rw [a3]; exact F.dn.mir hz
            have L3 : Low lo ys (arrOf st3) := by rw [a3]; exact g.2.trans (Low.mir (Nat.le_refl _) hz)
            refine wpS_bind (wpS_mono (wpS_forRange (I := fun x c st' => c = (none, x) ∧ GL a0 pe lo ys st' ∧ Up (arrOf st') lo (lo + x)) (Q := fun c st' => ∃ m, c = (none, m) ∧ 1 ≤ m ∧ m ≤ nrem ∧ GL a0 pe lo ys st' ∧ Up (arrOf st') lo (lo + m)) ?_ ?_ ⟨rfl, ⟨⟨b3, e3.trans (e2.trans g.1.2)⟩, L3⟩, U⟩) ?_)
            · rintro x c st' hx1 hx2 ⟨rfl, g, U⟩
              dsimp only
              refine wpS_bind (wpS_ltI g.1.1 h0 (by omega) (by omega) fun b hb => ?_)
              cases b
              · exact wpS_pure ⟨rfl, g, U.snoc (Int.not_lt.mp fun z => by cases hb.mpr z)⟩
              · exact wpS_pure ⟨x, rfl, by omega, by omega, g, U⟩
            · rintro c st' ⟨rfl, g, U⟩; exact ⟨_, rfl, by omega, by omega, g, U⟩
            · rintro c st' ⟨m, rfl, hm1, hm2, g, U⟩
              exact wpS_pure (h _ _ g hm1 hm2 U)
      · exact wpS_pure (h _ _ g hm1 hm2 U)
    · rw [if_neg hgt]
      obtain rfl : m = 1 := by omega
      have F : Fall (arrOf st') lo (1 + 1) 0 := .zero (Dn.snoc (fun k n h1 h2 h3 => by obtain rfl : k = n := by omega
                                                                                       exact Int.le_refl _) (Int.le_of_lt hlt)) (by omega)
      refine wpS_bind (wpS_lift (wpAny_rule ⟨rfl, ?_⟩))
      refine wpS_bind (wpS_mono (wpS_forRange (I := fun x c st' => ∃ q, c = (none, x, q) ∧ GL a0 pe lo ys st' ∧ Fall (arrOf st') lo x q) (Q := fun c st' => ∃ m q, c = (none, m, q) ∧ m ≤ nrem ∧ GL a0 pe lo ys st' ∧ Fall (arrOf st') lo m q) ?_ ?_ ⟨0, rfl, g, F⟩) ?_)
      · rintro x c st' hx1 hx2 ⟨q, rfl, g, F⟩
        dsimp only
        have hz : lo + x ≤ (arrOf st').size := by rw [g.1.1.size]; omega
        refine wpS_bind (wpS_ltI g.1.1 h0 (by omega) (by omega) fun b hb => ?_)
        cases b
        · have hb : ¬ K (arrOf st') (lo + x) < K (arrOf st') (lo + x - 1) := fun z => by cases hb.mpr z
          refine wpS_bind (wpS_ltI g.1.1 h0 (by omega) (by omega) fun b hb2 => ?_)
          cases b
          · exact wpS_pure ⟨_, rfl, g, F.like hb fun z => by cases hb2.mpr z⟩
          · exact wpS_pure ⟨x, q, rfl, by omega, g, F⟩
        · have hb := hb.mp rfl
          by_cases hq : q > 0
          · simp only [if_pos hq, if_true]
            refine wpS_bind (wpS_revI g.1.1 fun st2 b2 e2 a2 => wpS_pure ⟨0, rfl, ⟨⟨b2, e2.trans g.1.2⟩, fun k hk => ?_⟩, ?_⟩)
            · rw [a2, F.mir hz]; exact g.2 k hk
            · rw [a2]
              exact .zero ((F.less hb).dn.eqK fun k _ _ => F.mir hz k) (by omega)
          · simp only [if_neg hq, if_true]
            exact wpS_pure ⟨0, rfl, g, F.less hb⟩
      · rintro c st' ⟨q, rfl, g, F⟩; exact ⟨_, _, rfl, by omega, g, F⟩
      · rintro c st' ⟨m, q, rfl, hm2, g, F⟩
        dsimp only
        have hm1 := F.q1
        have hz : lo + m ≤ (arrOf st').size := by rw [g.1.1.size]; omega
        by_cases hq : q > 0
        · rw [if_pos hq]
          refine wpS_bind (wpS_revI g.1.1 fun st2 b2 e2 a2 => wpS_bind (wpS_revI b2 fun st3 b3 e3 a3 => ?_))
          have hz2 : lo + m ≤ (arrOf st2).size := by rw [b2.size]; omega
          have D2 : Dn (arrOf st2) lo (lo + m) := by rw [a2]; exact F.dn.eqK fun k _ _ => F.mir hz k
          have L2 : Low lo ys (arrOf st2) := by rw [a2]; exact fun k hk => (F.mir hz k).trans (g.2 k hk)
          have U : Up (arrOf st3) lo (lo + m) := by rw [a3]; exact D2.mir hz2
          have L3 : Low lo ys (arrOf st3) := by rw [a3]; exact L2.trans (Low.mir (Nat.le_refl _) hz2)
          refine wpS_bind (wpS_mono (wpS_forRange (I := fun x c st' => c = (none, x) ∧ GL a0 pe lo ys st' ∧ Up (arrOf st') lo (lo + x)) (Q := fun c st' => ∃ m, c = (none, m) ∧ 1 ≤ m ∧ m ≤ nrem ∧ GL a0 pe lo ys st' ∧ Up (arrOf st') lo (lo + m)) ?_ ?_ ⟨rfl, ⟨⟨b3, e3.trans (e2.trans g.1.2)⟩, L3⟩, U⟩) ?_)
          · rintro x c st' hx1 hx2 ⟨rfl, g, U⟩
            dsimp only
            refine wpS_bind (wpS_ltI g.1.1 h0 (by omega) (by omega) fun b hb => ?_)
            cases b
            · exact wpS_pure ⟨rfl, g, U.snoc (Int.not_lt.mp fun z => by cases hb.mpr z)⟩
            · exact wpS_pure ⟨x, rfl, by omega, by omega, g, U⟩
          · rintro c st' ⟨rfl, g, U⟩; exact ⟨_, rfl, by omega, by omega, g, U⟩
          · rintro c st' ⟨m, rfl, hm1, hm2, g, U⟩
            exact wpS_pure (h _ _ g hm1 hm2 U)
        · rw [if_neg hq]
          refine wpS_bind (wpS_revI g.1.1 fun st3 b3 e3 a3 => ?_)
          have e2 : pendingOf st' = pendingOf st' := rfl
          have U : Up (arrOf st3) lo (lo + m) := by rw [a3]; exact F.dn.mir hz
          have L3 : Low lo ys (arrOf st3) := by rw [a3]; exact g.2.trans (Low.mir (Nat.le_refl _) hz)
          refine wpS_bind (wpS_mono (wpS_forRange (I := fun x c st' => c = (none, x) ∧ GL a0 pe lo ys st' ∧ Up (arrOf st') lo (lo + x)) (Q := fun c st' => ∃ m, c = (none, m) ∧ 1 ≤ m ∧ m ≤ nrem ∧ GL a0 pe lo ys st' ∧ Up (arrOf st') lo (lo + m)) ?_ ?_ ⟨rfl, ⟨⟨b3, e3.trans (e2.trans g.1.2)⟩, L3⟩, U⟩) ?_)
          · rintro x c st' hx1 hx2 ⟨rfl, g, U⟩
            dsimp only
            refine wpS_bind (wpS_ltI g.1.1 h0 (by omega) (by omega) fun b hb => ?_)
            cases b
            · exact wpS_pure ⟨rfl, g, U.snoc (Int.not_lt.mp fun z => by cases hb.mpr z)⟩
            · exact wpS_pure ⟨x, rfl, by omega, by omega, g, U⟩
          · rintro c st' ⟨rfl, g, U⟩; exact ⟨_, rfl, by omega, by omega, g, U⟩
          · rintro c st' ⟨m, rfl, hm1, hm2, g, U⟩
            exact wpS_pure (h _ _ g hm1 hm2 U)
theorem bins_s {lo n ok : Nat} {pe : Array (Nat × Nat × Nat)} {ys : Array Keyed} {st : SortSt} {Q : Bool → SortSt → Prop} (h0 : IntKeys a0) (hn : lo + n ≤ a0.size) (hok : ok ≤ n) (hB : GL a0 pe lo ys st) (hU : Up (arrOf st) lo (lo + ok))
    (h : ∀ st', GL a0 pe lo ys st' → Up (arrOf st') lo (lo + n) → Q true st') : wpS (model prog w) A E s (binarySort' lo n ok) Q st := by
  rw [binarySort'_eq]
  refine wpS_bind (wpS_mono (wpS_forRange (I := fun k c st' => c = (none, ()) ∧ GL a0 pe lo ys st' ∧ Up (arrOf st') lo (lo + min k n)) (Q := fun c st' => c = (none, ()) ∧ GL a0 pe lo ys st' ∧ Up (arrOf st') lo (lo + n)) ?_ ?_ ⟨rfl, hB, ?_⟩) ?_)
  · rintro k c st' hak hkn ⟨rfl, g, U⟩
    rw [Nat.min_eq_left (Nat.le_of_lt hkn)] at U
    refine wpS_bind (wpS_mono (wpS_forRange (I := fun x c st'' => ∃ l r, c = (none, l, r) ∧ st'' = st' ∧ l ≤ r ∧ r ≤ k ∧ r - l ≤ k - x ∧ (∀ i, i < l → K (arrOf st') (lo + i) ≤ K (arrOf st') (lo + k)) ∧ (∀ i, r ≤ i → i < k → K (arrOf st') (lo + k) < K (arrOf st') (lo + i)))
      (Q := fun c st'' => ∃ l r, c = (none, l, r) ∧ st'' = st' ∧ l ≤ k ∧ (∀ i, i < l → K (arrOf st') (lo + i) ≤ K (arrOf st') (lo + k)) ∧ (∀ i, l ≤ i → i < k → K (arrOf st') (lo + k) < K (arrOf st') (lo + i))) ?_ ?_ ⟨0, k, rfl, rfl, by omega, Nat.le_refl _, by omega, fun i hi => by omega, fun i h1 h2 => by omega⟩) ?_)
    · rintro x c st'' _ hxk ⟨l, r, rfl, rfl, hlr, hr, hm, f1, f2⟩
      dsimp only
      by_cases hge : l ≥ r
      · rw [if_pos hge]
        obtain rfl : l = r := by omega
        exact wpS_pure ⟨l, l, rfl, rfl, hr, f1, f2⟩
      · rw [if_neg hge]
        refine wpS_bind (wpS_ltI g.1.1 h0 (by omega) (by omega) fun b hb => ?_)
        cases b
        · have hb : ¬ K (arrOf st'') (lo + k) < K (arrOf st'') (lo + (l + r) / 2) := fun z => by cases hb.mpr z
          refine wpS_pure ⟨_, _, rfl, rfl, by omega, hr, by omega, fun i hi => ?_, f2⟩
          exact Int.le_trans (U (lo + i) (lo + (l + r) / 2) (by omega) (by omega) (by omega)) (Int.not_lt.mp hb)
        · refine wpS_pure ⟨_, _, rfl, rfl, by omega, by omega, by omega, f1, fun i h1 h2 => ?_⟩
          exact Int.lt_of_lt_of_le (hb.mp rfl) (U _ _ (by omega) (by omega) (by omega))
    · rintro c st'' ⟨l, r, rfl, rfl, hlr, hr, hm, f1, f2⟩
      obtain rfl : l = r := by omega
      exact ⟨l, l, rfl, rfl, hr, f1, f2⟩
    · rintro c st'' ⟨l, r, rfl, rfl, hl, f1, f2⟩
      refine wpS_bind (wpS_downI g.1.1 fun st2 b2 e2 a2 => wpS_pure ⟨rfl, ⟨⟨b2, e2.trans g.1.2⟩, ?_⟩, ?_⟩)
      · have hz : lo + k < (arrOf st'').size := by rw [g.1.1.size]; omega
        intro j hj
        rw [a2, K_bubble hz (by omega), if_neg (by omega), if_neg (by omega)]
        exact g.2 j hj
      · have hz : lo + k < (arrOf st'').size := by rw [g.1.1.size]; omega
        rw [Nat.min_eq_left (show k + 1 ≤ n by omega), a2]
        intro i j hi hij hj
        have F1 : ∀ i, lo ≤ i → i < lo + l → K (arrOf st'') i ≤ K (arrOf st'') (lo + k) := fun i q1 q2 => by
          have := f1 (i - lo) (by omega); rwa [show lo + (i - lo) = i by omega] at this
        have F2 : ∀ i, lo + l ≤ i → i < lo + k → K (arrOf st'') (lo + k) < K (arrOf st'') i := fun i q1 q2 => by
          have := f2 (i - lo) (by omega) (by omega); rwa [show lo + (i - lo) = i by omega] at this
        rw [K_bubble hz (by omega), K_bubble hz (by omega), show lo + k - (lo + k - (lo + l)) = lo + l by omega]
        repeat' split
        all_goals first
          | (exfalso; omega)
          | exact Int.le_refl _
          | exact F1 _ (by omega) (by omega)
          | exact Int.le_of_lt (F2 _ (by omega) (by omega))
          | exact U _ _ (by omega) (by omega) (by omega)
  · rintro c st' ⟨rfl, g, U⟩
    rw [show min (max (max ok 1) n) n = n by omega] at U
    exact ⟨rfl, g, U⟩
  · intro i j hi hij hj
    by_cases e : ok = 0
    · obtain rfl : i = j := by omega
      exact Int.le_refl _
    · exact hU i j hi hij (by omega)
  · rintro c st' ⟨rfl, g, U⟩; exact wpS_pure (h _ g U)
end
end SB
set_option Elab.async false
set_option maxRecDepth 100000
set_option maxHeartbeats 4000000
namespace SB
open PySem PyProof.Rows
section
variable {prog : Program} {w : World} {A : Around} {E : Value → Shared → Prop} {s : Shared} {a0 : Array Keyed}
def Ahead (left : Bool) (key : Keyed) (x : Int) : Prop := if left = true then x < ks key else x ≤ ks key
theorem ahead_le {left : Bool} {key : Keyed} {x y : Int} (h : Ahead left key y) (hxy : x ≤ y) : Ahead left key x := by
  unfold Ahead at h ⊢
  cases left
  · exact Int.le_trans hxy h
  · exact Int.lt_of_le_of_lt hxy h
theorem gallop_s {left : Bool} {key : Keyed} {arr : Array Keyed} {base n hint : Nat} {st : SortSt} {Q : Option Nat → SortSt → Prop} (hk : kindOf st = oneType') (hkey : ∃ i t, key.1 = Value.int i t) (ha : IntKeys arr)
    (hb : base + n ≤ arr.size) (hh : hint < n) (hs : Up arr base (base + n))
    (h : ∀ k, k ≤ n → (∀ i, i < k → Ahead left key (K arr (base + i))) → (∀ i, k ≤ i → i < n → ¬ Ahead left key (K arr (base + i))) → Q (some k) st) : wpS (model prog w) A E s (gallop' left key arr base n hint) Q st := by
  show wpS _ _ _ _ (_ >>= _) _ _
  have bey : ∀ (i : Nat) (Q' : Option Bool → SortSt → Prop), i < n → (∀ b : Bool, (b = true ↔ Ahead left key (K arr (base + i))) → Q' (some b) st) → wpS (model prog w) A E s (do
      let x ← elem' arr (base + i)
      if left then lt' x key else return (← lt' key x).map (!·)) Q' st := by
    intro i Q' hi q
    obtain ⟨p, e1, k1⟩ := ik_at ha (i := base + i) (by omega)
    rw [K_at e1] at q
    refine wpS_bind (wpS_elem e1 ?_)
    cases left
    · rw [if_neg (by decide)]
      refine wpS_bind (wpS_ltP hk hkey k1 (wpS_pure (q _ ?_)))
      simp [Ahead]
    · rw [if_pos rfl]
      refine wpS_ltP hk k1 hkey (q _ ?_)
      simp [Ahead]
  have up : ∀ i j, i ≤ j → j < n → Ahead left key (K arr (base + j)) → Ahead left key (K arr (base + i)) := fun i j h1 h2 h3 => ahead_le h3 (hs _ _ (by omega) (by omega) (by omega))
  generalize hF : (fun i => Ahead left key (K arr (base + i))) = F at *
  have eF : ∀ i, Ahead left key (K arr (base + i)) = F i := fun i => by rw [← hF]
  simp only [eF] at bey up h
  clear eF
  dsimp only
  refine wpS_bind (bey hint _ hh fun b hbh => ?_)
  cases b
  · have hbh : ¬ F hint := fun z => absurd (hbh.mpr z) (by decide)
    dsimp only
    rw [if_neg (by decide)]
    refine wpS_bind (wpS_mono (wpS_forRange (I := fun x c st' => ∃ l r, c = (none, l, r) ∧ l < r ∧ x + 1 ≤ r ∧ l ≤ hint ∧ ¬ F (hint - l) ∧ st = st') (Q := fun c st' => ∃ l r, c = (none, l, r) ∧ l < r ∧ l ≤ hint ∧ ¬ F (hint - l) ∧ (hint + 1 ≤ r ∨ F (hint - r)) ∧ st = st') ?_ ?_ ⟨_, _, rfl, by omega, by omega, by omega, hbh, rfl⟩) ?_)
    · rintro x c st' _ hx ⟨l, r, rfl, hlr, hxr, hl, f, rfl⟩
      dsimp only
      by_cases hge : r ≥ hint + 1
      · rw [if_pos hge]; exact wpS_pure ⟨l, r, rfl, hlr, hl, f, .inl hge, rfl⟩
      · rw [if_neg hge]
        refine wpS_bind (bey _ _ (by omega) fun b hbb => ?_)
        cases b
        · exact wpS_pure ⟨_, _, rfl, by omega, by omega, by omega, fun z => absurd (hbb.mpr z) (by decide), rfl⟩
        · exact wpS_pure ⟨_, _, rfl, hlr, hl, f, .inr (hbb.mp rfl), rfl⟩
    · rintro c st' ⟨l, r, rfl, hlr, hxr, hl, f, rfl⟩; exact ⟨l, r, rfl, hlr, hl, f, .inl (by omega), rfl⟩
    · rintro c st' ⟨l, r, rfl, hlr, hl, f, hor, rfl⟩
      have f1 : ∀ i, i < hint + 1 - min r (hint + 1) → F i := fun i hi => by
        rcases hor with z | z
        · omega
        · exact up i (hint - r) (by omega) (by omega) z
      have f2 : ∀ i, hint - l ≤ i → i < n → ¬ F i := fun i h1 h2 h3 => f (up (hint - l) i h1 h2 h3)
      have hlr : hint + 1 - min r (hint + 1) ≤ hint - l := by omega
      have hrn : hint - l ≤ n := by omega
      dsimp only
      refine wpS_bind (wpS_mono (wpS_forRange (I := fun x c st' => ∃ l r, c = (none, l, r) ∧ l ≤ r ∧ r ≤ n ∧ r - l ≤ n - x ∧ (∀ i, i < l → F i) ∧ (∀ i, r ≤ i → i < n → ¬ F i) ∧ st = st') (Q := fun c st' => ∃ l, c = (none, l, l) ∧ l ≤ n ∧ (∀ i, i < l → F i) ∧ (∀ i, l ≤ i → i < n → ¬ F i) ∧ st = st') ?_ ?_ ⟨_, _, rfl, hlr, hrn, by omega, f1, f2, rfl⟩) ?_)
      · rintro x c st' _ hx ⟨l, r, rfl, hlr, hr, hm, f1, f2, rfl⟩
        dsimp only
        by_cases hge : l ≥ r
        · rw [if_pos hge]
          obtain rfl : l = r := by omega
          exact wpS_pure ⟨l, rfl, hr, f1, f2, rfl⟩
        · rw [if_neg hge]
          refine wpS_bind (bey _ _ (by omega) fun b hbb => ?_)
          cases b
          · refine wpS_pure ⟨_, _, rfl, by omega, by omega, by omega, f1, fun i h1 h2 h3 => ?_, rfl⟩
            have := up (l + (r - l) / 2) i h1 h2 h3
            exact absurd (hbb.mpr this) (by decide)
          · exact wpS_pure ⟨_, _, rfl, by omega, hr, by omega, fun i h1 => up i _ (by omega) (by omega) (hbb.mp rfl), f2, rfl⟩
      · rintro c st' ⟨l, r, rfl, hlr, hr, hm, f1, f2, rfl⟩
        obtain rfl : l = r := by omega
        exact ⟨l, rfl, hr, f1, f2, rfl⟩
      · rintro c st' ⟨l, rfl, hr, f1, f2, rfl⟩
        exact wpS_pure (h _ hr f1 f2)
  · have hbh : F hint := hbh.mp rfl
    dsimp only
    rw [if_pos rfl]
    refine wpS_bind (wpS_mono (wpS_forRange (I := fun x c st' => ∃ l r, c = (none, l, r) ∧ l < r ∧ x + 1 ≤ r ∧ hint + l < n ∧ F (hint + l) ∧ st = st') (Q := fun c st' => ∃ l r, c = (none, l, r) ∧ l < r ∧ hint + l < n ∧ F (hint + l) ∧ (n - hint ≤ r ∨ ¬ F (hint + r)) ∧ st = st') ?_ ?_ ⟨_, _, rfl, by omega, by omega, by omega, hbh, rfl⟩) ?_)
    · rintro x c st' _ hx ⟨l, r, rfl, hlr, hxr, hl, f, rfl⟩
      dsimp only
      by_cases hge : r ≥ n - hint
      · rw [if_pos hge]; exact wpS_pure ⟨l, r, rfl, hlr, hl, f, .inl hge, rfl⟩
      · rw [if_neg hge]
        refine wpS_bind (bey _ _ (by omega) fun b hbb => ?_)
        cases b
        · exact wpS_pure ⟨_, _, rfl, hlr, hl, f, .inr (fun z => absurd (hbb.mpr z) (by decide)), rfl⟩
        · exact wpS_pure ⟨_, _, rfl, by omega, by omega, by omega, hbb.mp rfl, rfl⟩
    · rintro c st' ⟨l, r, rfl, hlr, hxr, hl, f, rfl⟩; exact ⟨l, r, rfl, hlr, hl, f, .inl (by omega), rfl⟩
    · rintro c st' ⟨l, r, rfl, hlr, hl, f, hor, rfl⟩
      have f1 : ∀ i, i < hint + l + 1 → F i := fun i hi => up i (hint + l) (by omega) hl f
      have f2 : ∀ i, hint + min r (n - hint) ≤ i → i < n → ¬ F i := fun i h1 h2 h3 => by
        rcases hor with z | z
        · omega
        · exact z (up (hint + r) i (by omega) h2 h3)
      have hlr : hint + l + 1 ≤ hint + min r (n - hint) := by omega
      have hrn : hint + min r (n - hint) ≤ n := by omega
      dsimp only
      refine wpS_bind (wpS_mono (wpS_forRange (I := fun x c st' => ∃ l r, c = (none, l, r) ∧ l ≤ r ∧ r ≤ n ∧ r - l ≤ n - x ∧ (∀ i, i < l → F i) ∧ (∀ i, r ≤ i → i < n → ¬ F i) ∧ st = st') (Q := fun c st' => ∃ l, c = (none, l, l) ∧ l ≤ n ∧ (∀ i, i < l → F i) ∧ (∀ i, l ≤ i → i < n → ¬ F i) ∧ st = st') ?_ ?_ ⟨_, _, rfl, hlr, hrn, by omega, f1, f2, rfl⟩) ?_)
      · rintro x c st' _ hx ⟨l, r, rfl, hlr, hr, hm, f1, f2, rfl⟩
        dsimp only
        by_cases hge : l ≥ r
        · rw [if_pos hge]
          obtain rfl : l = r := by omega
          exact wpS_pure ⟨l, rfl, hr, f1, f2, rfl⟩
        · rw [if_neg hge]
          refine wpS_bind (bey _ _ (by omega) fun b hbb => ?_)
          cases b
          · refine wpS_pure ⟨_, _, rfl, by omega, by omega, by omega, f1, fun i h1 h2 h3 => ?_, rfl⟩
            have := up (l + (r - l) / 2) i h1 h2 h3
            exact absurd (hbb.mpr this) (by decide)
          · exact wpS_pure ⟨_, _, rfl, by omega, hr, by omega, fun i h1 => up i _ (by omega) (by omega) (hbb.mp rfl), f2, rfl⟩
      · rintro c st' ⟨l, r, rfl, hlr, hr, hm, f1, f2, rfl⟩
        obtain rfl : l = r := by omega
        exact ⟨l, rfl, hr, f1, f2, rfl⟩
      · rintro c st' ⟨l, rfl, hr, f1, f2, rfl⟩
        exact wpS_pure (h _ hr f1 f2)
abbrev Srt (l : List Keyed) : Prop := l.Pairwise fun p q => ks p ≤ ks q
theorem ext_mem {xs : Array Keyed} {i j : Nat} {p : Keyed} (h : p ∈ (xs.extract i j).toList) : ∃ k, i ≤ k ∧ k < j ∧ k < xs.size ∧ K xs k = ks p := by
  rw [ext_list] at h
  obtain ⟨k, hk, e⟩ := List.getElem_of_mem h
  have hk' := hk
  rw [List.length_drop, List.length_take, Array.length_toList] at hk'
  refine ⟨i + k, by omega, by omega, by omega, ?_⟩
  rw [List.getElem_drop, List.getElem_take] at e
  exact K_at (by rw [← e]; simp)
theorem ext_srt {xs : Array Keyed} {i j : Nat} (h : Up xs i j) (hj : j ≤ xs.size) : Srt (xs.extract i j).toList := by
  rw [ext_list, Srt, List.pairwise_iff_getElem]
  intro k m hk hm hkm
  rw [List.length_drop, List.length_take, Array.length_toList] at hk hm
  rw [List.getElem_drop, List.getElem_take, List.getElem_drop, List.getElem_take]
  have q := h (i + k) (i + m) (by omega) (by omega) (by omega)
  rw [K_eq (by omega), K_eq (by omega)] at q
  simpa using q
structure Od (a b : Array Keyed) (ia ib : Nat) (out : Array Keyed) : Prop where
  laid : Laid a b ia ib out
  srt : Srt out.toList
  la : ∀ p, p ∈ out.toList → ∀ j, ia ≤ j → j < a.size → ks p ≤ K a j
  lb : ∀ p, p ∈ out.toList → ∀ j, ib ≤ j → j < b.size → ks p ≤ K b j
structure Fit (a b : Array Keyed) : Prop where
  ua : Up a 0 a.size
  ub : Up b 0 b.size
  fb : ∀ j, j < a.size → K b 0 ≤ K a j
  la : ∀ j, j < b.size → K b j ≤ K a (a.size - 1)
variable {a b : Array Keyed} {ia ib : Nat} {out : Array Keyed}
theorem Od.push {xs : Array Keyed} {p : Keyed} {k : Nat} (hs : Srt out.toList) (hl : ∀ p, p ∈ out.toList → ∀ j, k ≤ j → j < xs.size → ks p ≤ K xs j) (hp : xs[k]? = some p) : Srt (out.push p).toList := by
  rw [Array.toList_push, Srt, List.pairwise_append]
  refine ⟨hs, List.pairwise_singleton _ _, fun q hq r hr => ?_⟩
  obtain rfl := List.mem_singleton.mp hr
  rw [← K_at hp]
  exact hl q hq k (Nat.le_refl _) (by have := Array.getElem?_eq_some_iff.mp hp; exact this.1)
theorem lt_of_at {xs : Array Keyed} {p : Keyed} {k : Nat} (hp : xs[k]? = some p) : k < xs.size := (Array.getElem?_eq_some_iff.mp hp).1
theorem Od.pb (F : Fit a b) (h : Od a b ia ib out) {p : Keyed} (hp : b[ib]? = some p) (hx : ∀ j, ia ≤ j → j < a.size → ks p ≤ K a j) : Od a b ia (ib + 1) (out.push p) := by
  refine ⟨h.laid.b hp, Od.push h.srt h.lb hp, fun q hq j h1 h2 => ?_, fun q hq j h1 h2 => ?_⟩
  · rw [Array.toList_push, List.mem_append, List.mem_singleton] at hq
    rcases hq with hq | rfl
    · exact h.la q hq j h1 h2
    · exact hx j h1 h2
  · rw [Array.toList_push, List.mem_append, List.mem_singleton] at hq
    rcases hq with hq | rfl
    · exact h.lb q hq j (by omega) h2
    · rw [← K_at hp]; exact F.ub _ _ (by omega) (by omega) h2
theorem Od.pa (F : Fit a b) (h : Od a b ia ib out) {p : Keyed} (hp : a[ia]? = some p) (hx : ∀ j, ib ≤ j → j < b.size → ks p ≤ K b j) : Od a b (ia + 1) ib (out.push p) := by
  refine ⟨h.laid.a hp, Od.push h.srt h.la hp, fun q hq j h1 h2 => ?_, fun q hq j h1 h2 => ?_⟩
  · rw [Array.toList_push, List.mem_append, List.mem_singleton] at hq
    rcases hq with hq | rfl
    · exact h.la q hq j (by omega) h2
    · rw [← K_at hp]; exact F.ua _ _ (by omega) (by omega) h2
  · rw [Array.toList_push, List.mem_append, List.mem_singleton] at hq
    rcases hq with hq | rfl
    · exact h.lb q hq j h1 h2
    · exact hx j h1 h2
theorem Od.app {xs : Array Keyed} {k m : Nat} (hs : Srt out.toList) (hl : ∀ p, p ∈ out.toList → ∀ j, k ≤ j → j < xs.size → ks p ≤ K xs j) (hu : Up xs 0 xs.size) (hm : m ≤ xs.size) : Srt (out ++ xs.extract k m).toList := by
  rw [Array.toList_append, Srt, List.pairwise_append]
  refine ⟨hs, ext_srt (fun i j h1 h2 h3 => hu i j (by omega) h2 (by omega)) hm, fun q hq r hr => ?_⟩
  obtain ⟨i, h1, h2, h3, e⟩ := ext_mem hr
  rw [← e]
  exact hl q hq i h1 h3
theorem Od.ak (F : Fit a b) (h : Od a b ia ib out) {k : Nat} (hk : ia + k ≤ a.size) (hx : ∀ i, ia ≤ i → i < ia + k → ∀ j, ib ≤ j → j < b.size → K a i ≤ K b j) : Od a b (ia + k) ib (out ++ a.extract ia (ia + k)) := by
  refine ⟨h.laid.ak k, Od.app h.srt h.la F.ua hk, fun q hq j h1 h2 => ?_, fun q hq j h1 h2 => ?_⟩
  · rw [Array.toList_append, List.mem_append] at hq
    rcases hq with hq | hq
    · exact h.la q hq j (by omega) h2
    · obtain ⟨i, i1, i2, i3, e⟩ := ext_mem hq
      rw [← e]; exact F.ua _ _ (by omega) (by omega) h2
  · rw [Array.toList_append, List.mem_append] at hq
    rcases hq with hq | hq
    · exact h.lb q hq j h1 h2
    · obtain ⟨i, i1, i2, i3, e⟩ := ext_mem hq
      rw [← e]; exact hx i i1 i2 j h1 h2
theorem Od.bk (F : Fit a b) (h : Od a b ia ib out) {k : Nat} (hk : ib + k ≤ b.size) (hx : ∀ j, ib ≤ j → j < ib + k → ∀ i, ia ≤ i → i < a.size → K b j ≤ K a i) : Od a b ia (ib + k) (out ++ b.extract ib (ib + k)) := by
  refine ⟨h.laid.bk k, Od.app h.srt h.lb F.ub hk, fun q hq j h1 h2 => ?_, fun q hq j h1 h2 => ?_⟩
  · rw [Array.toList_append, List.mem_append] at hq
    rcases hq with hq | hq
    · exact h.la q hq j h1 h2
    · obtain ⟨i, i1, i2, i3, e⟩ := ext_mem hq
      rw [← e]; exact hx i i1 i2 j h1 h2
  · rw [Array.toList_append, List.mem_append] at hq
    rcases hq with hq | hq
    · exact h.lb q hq j (by omega) h2
    · obtain ⟨i, i1, i2, i3, e⟩ := ext_mem hq
      rw [← e]; exact F.ub _ _ (by omega) (by omega) h2
def Mg (a b : Array Keyed) (r : Array Keyed) : Prop := r.toList.Perm (a.toList ++ b.toList) ∧ Srt r.toList
theorem Od.fab (F : Fit a b) (h : Od a b ia ib out) (ha : ia ≤ a.size) (hb : ib ≤ b.size) (hx : ∀ i, ia ≤ i → i < a.size → ∀ j, ib ≤ j → j < b.size → K a i ≤ K b j) : Mg a b (out ++ a.extract ia a.size ++ b.extract ib b.size) := by
  refine ⟨h.laid.all ha hb, ?_⟩
  obtain ⟨j, hj⟩ : ∃ j, a.size = ia + j := ⟨a.size - ia, by omega⟩
  have q := (h.ak F (k := j) (by omega) (fun i h1 h2 => hx i h1 (by omega)))
  rw [← hj] at q
  exact Od.app q.srt q.lb F.ub (Nat.le_refl _)
theorem Od.fb (F : Fit a b) (h : Od a b ia ib out) (ha : ia ≤ a.size) (e : ib = b.size) : Mg a b (out ++ a.extract ia a.size ++ b.extract ib b.size) := h.fab F ha (by omega) fun i _ _ j h1 h2 => by omega
theorem Od.fa (F : Fit a b) (h : Od a b ia ib out) (hb : ib ≤ b.size) (e : ia = a.size) : Mg a b (out ++ a.extract ia a.size ++ b.extract ib b.size) := h.fab F (by omega) hb fun i h1 h2 j _ _ => by omega
theorem Od.fl (F : Fit a b) (h : Od a b ia ib out) (hb : ib ≤ b.size) (e : ia + 1 = a.size) : Mg a b (out ++ b.extract ib b.size ++ a.extract ia a.size) := by
  refine ⟨h.laid.all' (by omega) hb, ?_⟩
  obtain ⟨j, hj⟩ : ∃ j, b.size = ib + j := ⟨b.size - ib, by omega⟩
  have q := (h.bk F (k := j) (by omega) (fun i h1 h2 k h3 h4 => by obtain rfl : k = a.size - 1 := by omega
                                                                   exact F.la i (by omega)))
  rw [← hj] at q
  exact Od.app q.srt q.la F.ua (Nat.le_refl _)
theorem gA (F : Fit a b) {p : Keyed} {k : Nat} (hp : b[ib]? = some p) (g : ∀ i, i < k → Ahead false p (K a (ia + i))) : ∀ i, ia ≤ i → i < ia + k → ∀ j, ib ≤ j → j < b.size → K a i ≤ K b j := fun i h1 h2 j h3 h4 => by
  have q : K a (ia + (i - ia)) ≤ ks p := g (i - ia) (by omega)
  rw [show ia + (i - ia) = i by omega, ← K_at hp] at q
  exact Int.le_trans q (F.ub _ _ (by omega) h3 h4)
theorem gB {p q : Keyed} {k : Nat} (hp : b[ib]? = some p) (hq : b[ib]? = some q) (g : ∀ i, k ≤ i → i < a.size - ia → ¬ Ahead false p (K a (ia + i))) : ∀ j, ia + k ≤ j → j < a.size → ks q ≤ K a j := fun j h1 h2 => by
  obtain rfl : p = q := by rw [hp] at hq; exact Option.some.inj hq
  have z : ¬ K a (ia + (j - ia)) ≤ ks p := g (j - ia) (by omega) (by omega)
  rw [show ia + (j - ia) = j by omega] at z
  omega
theorem gA2 (F : Fit a b) {p : Keyed} {k : Nat} (hp : a[ia]? = some p) (g : ∀ i, i < k → Ahead true p (K b (ib + i))) : ∀ j, ib ≤ j → j < ib + k → ∀ i, ia ≤ i → i < a.size → K b j ≤ K a i := fun i h1 h2 j h3 h4 => by
  have q : K b (ib + (i - ib)) < ks p := g (i - ib) (by omega)
  rw [show ib + (i - ib) = i by omega, ← K_at hp] at q
  exact Int.le_trans (Int.le_of_lt q) (F.ua _ _ (by omega) h3 h4)
theorem gB2 {p q : Keyed} {k : Nat} (hp : a[ia]? = some p) (hq : a[ia]? = some q) (g : ∀ i, k ≤ i → i < b.size - ib → ¬ Ahead true p (K b (ib + i))) : ∀ j, ib + k ≤ j → j < b.size → ks q ≤ K b j := fun j h1 h2 => by
  obtain rfl : p = q := by rw [hp] at hq; exact Option.some.inj hq
  have z : ¬ K b (ib + (j - ib)) < ks p := g (j - ib) (by omega) (by omega)
  rw [show ib + (j - ib) = j by omega] at z
  omega
end
end SB
set_option Elab.async false
set_option maxRecDepth 100000
set_option maxHeartbeats 4000000
namespace SB
open PySem PyProof.Rows
section
variable {prog : Program} {w : World} {A : Around} {E : Value → Shared → Prop} {s : Shared} {a0 : Array Keyed}
variable {a b : Array Keyed} {ia ib na nb : Nat} {out : Array Keyed}
theorem ltA (F : Fit a b) {p1 p2 p3 : Keyed} (h1 : b[ib]? = some p1) (h2 : a[ia]? = some p2) (h3 : b[ib]? = some p3) (h : ks p1 < ks p2) : ∀ j, ia ≤ j → j < a.size → ks p3 ≤ K a j := fun j q1 q2 => by
  obtain rfl : p1 = p3 := by rw [h1] at h3; exact Option.some.inj h3
  rw [← K_at h2] at h
  exact Int.le_trans (Int.le_of_lt h) (F.ua _ _ (by omega) q1 q2)
theorem ltB (F : Fit a b) {p1 p2 p3 : Keyed} (h1 : b[ib]? = some p1) (h2 : a[ia]? = some p2) (h3 : a[ia]? = some p3) (h : ¬ ks p1 < ks p2) : ∀ j, ib ≤ j → j < b.size → ks p3 ≤ K b j := fun j q1 q2 => by
  obtain rfl : p2 = p3 := by rw [h2] at h3; exact Option.some.inj h3
  rw [← K_at h1] at h
  exact Int.le_trans (Int.not_lt.mp h) (F.ub _ _ (by omega) q1 q2)
theorem Up.sub {xs : Array Keyed} {i n : Nat} (h : Up xs 0 xs.size) (hn : i + n ≤ xs.size) : Up xs i (i + n) := fun k m _ h2 h3 => h k m (by omega) h2 (by omega)
structure MidO (a b : Array Keyed) (c0 ia ib : Nat) (out : Array Keyed) : Prop where
  laid : Od a b ia ib out
  ha : ia + 1 < a.size
  hb : ib < b.size
  pr : c0 ≤ ia + ib
def MRetO (a b : Array Keyed) (GG : SortSt → Prop) {β : Type} (c : Option (Array Keyed) × β) (st' : SortSt) : Prop := ∃ r y, c = (some r, y) ∧ Mg a b r ∧ GG st'
structure OdH (a b : Array Keyed) (na nb : Nat) (out : Array Keyed) : Prop where
  laid : LaidH a b na nb out
  srt : out.toList.Pairwise fun p q => ks q ≤ ks p
  la : ∀ p, p ∈ out.toList → ∀ j, j < na → K a j ≤ ks p
  lb : ∀ p, p ∈ out.toList → ∀ j, j < nb → K b j ≤ ks p
theorem OdH.pb (F : Fit a b) (h : OdH a b na nb out) (h1 : 1 ≤ nb) {p : Keyed} (hp : b[nb - 1]? = some p) (hx : ∀ j, j < na → K a j ≤ ks p) : OdH a b na (nb - 1) (out.push p) := by
  have hz := lt_of_at hp
  refine ⟨h.laid.b h1 hp, ?_, fun q hq j h2 => ?_, fun q hq j h2 => ?_⟩
  · rw [Array.toList_push, List.pairwise_append]
    refine ⟨h.srt, List.pairwise_singleton _ _, fun q hq r hr => ?_⟩
    obtain rfl := List.mem_singleton.mp hr
    rw [← K_at hp]; exact h.lb q hq _ (by omega)
  · rw [Array.toList_push, List.mem_append, List.mem_singleton] at hq
    rcases hq with hq | rfl
    · exact h.la q hq j h2
    · exact hx j h2
  · rw [Array.toList_push, List.mem_append, List.mem_singleton] at hq
    rcases hq with hq | rfl
    · exact h.lb q hq j (by omega)
    · rw [← K_at hp]; exact F.ub _ _ (by omega) (by omega) (by omega)
theorem OdH.pa (F : Fit a b) (h : OdH a b na nb out) (h1 : 1 ≤ na) {p : Keyed} (hp : a[na - 1]? = some p) (hx : ∀ j, j < nb → K b j ≤ ks p) : OdH a b (na - 1) nb (out.push p) := by
  have hz := lt_of_at hp
  refine ⟨h.laid.a h1 hp, ?_, fun q hq j h2 => ?_, fun q hq j h2 => ?_⟩
  · rw [Array.toList_push, List.pairwise_append]
    refine ⟨h.srt, List.pairwise_singleton _ _, fun q hq r hr => ?_⟩
    obtain rfl := List.mem_singleton.mp hr
    rw [← K_at hp]; exact h.la q hq _ (by omega)
  · rw [Array.toList_push, List.mem_append, List.mem_singleton] at hq
    rcases hq with hq | rfl
    · exact h.la q hq j (by omega)
    · rw [← K_at hp]; exact F.ua _ _ (by omega) (by omega) (by omega)
  · rw [Array.toList_push, List.mem_append, List.mem_singleton] at hq
    rcases hq with hq | rfl
    · exact h.lb q hq j h2
    · exact hx j h2
theorem rev_app {xs : Array Keyed} {k m : Nat} (hs : out.toList.Pairwise fun p q => ks q ≤ ks p) (hl : ∀ p, p ∈ out.toList → ∀ j, j < m → K xs j ≤ ks p) (hu : Up xs 0 xs.size) (hm : m ≤ xs.size) : (out ++ (xs.extract k m).reverse).toList.Pairwise fun p q => ks q ≤ ks p := by
  rw [Array.toList_append, Array.toList_reverse, List.pairwise_append]
  refine ⟨hs, List.pairwise_reverse.mpr (ext_srt (fun i j h1 h2 h3 => hu i j (by omega) h2 (by omega)) hm), fun q hq r hr => ?_⟩
  obtain ⟨i, h1, h2, h3, e⟩ := ext_mem (List.mem_reverse.mp hr)
  rw [← e]
  exact hl q hq i h2
theorem OdH.ak (F : Fit a b) (h : OdH a b na nb out) {k : Nat} (hk : k ≤ na) (hn : na ≤ a.size) (hx : ∀ i, k ≤ i → i < na → ∀ j, j < nb → K b j ≤ K a i) : OdH a b k nb (out ++ (a.extract k na).reverse) := by
  refine ⟨h.laid.ak hk, rev_app h.srt h.la F.ua hn, fun q hq j h2 => ?_, fun q hq j h2 => ?_⟩
  · rw [Array.toList_append, Array.toList_reverse, List.mem_append, List.mem_reverse] at hq
    rcases hq with hq | hq
    · exact h.la q hq j (by omega)
    · obtain ⟨i, i1, i2, i3, e⟩ := ext_mem hq
      rw [← e]; exact F.ua _ _ (by omega) (by omega) i3
  · rw [Array.toList_append, Array.toList_reverse, List.mem_append, List.mem_reverse] at hq
    rcases hq with hq | hq
    · exact h.lb q hq j h2
    · obtain ⟨i, i1, i2, i3, e⟩ := ext_mem hq
      rw [← e]; exact hx i i1 i2 j h2
theorem OdH.bk (F : Fit a b) (h : OdH a b na nb out) {k : Nat} (hk : k ≤ nb) (hn : nb ≤ b.size) (hx : ∀ j, k ≤ j → j < nb → ∀ i, i < na → K a i ≤ K b j) : OdH a b na k (out ++ (b.extract k nb).reverse) := by
  refine ⟨h.laid.bk hk, rev_app h.srt h.lb F.ub hn, fun q hq j h2 => ?_, fun q hq j h2 => ?_⟩
  · rw [Array.toList_append, Array.toList_reverse, List.mem_append, List.mem_reverse] at hq
    rcases hq with hq | hq
    · exact h.la q hq j h2
    · obtain ⟨i, i1, i2, i3, e⟩ := ext_mem hq
      rw [← e]; exact hx i i1 i2 j h2
  · rw [Array.toList_append, Array.toList_reverse, List.mem_append, List.mem_reverse] at hq
    rcases hq with hq | hq
    · exact h.lb q hq j (by omega)
    · obtain ⟨i, i1, i2, i3, e⟩ := ext_mem hq
      rw [← e]; exact F.ub _ _ (by omega) (by omega) i3
theorem srt3 {x y z : List Keyed} (hx : Srt x) (hy : Srt y) (hz : Srt z) (h1 : ∀ p, p ∈ x → ∀ q, q ∈ y → ks p ≤ ks q) (h2 : ∀ p, p ∈ x → ∀ q, q ∈ z → ks p ≤ ks q) (h3 : ∀ p, p ∈ y → ∀ q, q ∈ z → ks p ≤ ks q) : Srt (x ++ y ++ z) := by
  rw [Srt, List.pairwise_append, List.pairwise_append]
  refine ⟨⟨hx, hy, h1⟩, hz, fun p hp q hq => ?_⟩
  rcases List.mem_append.mp hp with hp | hp
  · exact h2 p hp q hq
  · exact h3 p hp q hq
theorem OdH.fab (F : Fit a b) (h : OdH a b na nb out) (ha : na ≤ a.size) (hb : nb ≤ b.size) (hx : ∀ i, i < na → ∀ j, j < nb → K a i ≤ K b j) : Mg a b (a.extract 0 na ++ b.extract 0 nb ++ out.reverse) := by
  refine ⟨h.laid.all, ?_⟩
  rw [Array.toList_append, Array.toList_append, Array.toList_reverse]
  refine srt3 (ext_srt (fun i j h1 h2 h3 => F.ua i j (by omega) h2 (by omega)) ha) (ext_srt (fun i j h1 h2 h3 => F.ub i j (by omega) h2 (by omega)) hb) (List.pairwise_reverse.mpr h.srt) (fun p hp q hq => ?_) (fun p hp q hq => ?_) (fun p hp q hq => ?_)
  · obtain ⟨i, _, i2, _, e⟩ := ext_mem hp
    obtain ⟨j, _, j2, _, e2⟩ := ext_mem hq
    rw [← e, ← e2]; exact hx i i2 j j2
  · obtain ⟨i, _, i2, _, e⟩ := ext_mem hp
    rw [← e]; exact h.la q (List.mem_reverse.mp hq) i i2
  · obtain ⟨i, _, i2, _, e⟩ := ext_mem hp
    rw [← e]; exact h.lb q (List.mem_reverse.mp hq) i i2
theorem OdH.fz (F : Fit a b) (h : OdH a b na nb out) (hb : nb ≤ b.size) (e : na = 0) : Mg a b (a.extract 0 na ++ b.extract 0 nb ++ out.reverse) := h.fab F (by omega) hb fun i hi => by omega
theorem OdH.fn (F : Fit a b) (h : OdH a b na nb out) (ha : na ≤ a.size) (e : nb = 0) : Mg a b (a.extract 0 na ++ b.extract 0 nb ++ out.reverse) := h.fab F ha (by omega) fun i _ j hj => by omega
theorem OdH.fl (F : Fit a b) (h : OdH a b na nb out) (ha : na ≤ a.size) (hb : nb ≤ b.size) (e : nb = 1) : Mg a b (b.extract 0 nb ++ a.extract 0 na ++ out.reverse) := by
  refine ⟨h.laid.all', ?_⟩
  rw [Array.toList_append, Array.toList_append, Array.toList_reverse]
  refine srt3 (ext_srt (fun i j h1 h2 h3 => F.ub i j (by omega) h2 (by omega)) hb) (ext_srt (fun i j h1 h2 h3 => F.ua i j (by omega) h2 (by omega)) ha) (List.pairwise_reverse.mpr h.srt) (fun p hp q hq => ?_) (fun p hp q hq => ?_) (fun p hp q hq => ?_)
  · obtain ⟨i, _, i2, _, e1⟩ := ext_mem hp
    obtain ⟨j, _, j2, _, e2⟩ := ext_mem hq
    obtain rfl : i = 0 := by omega
    rw [← e1, ← e2]; exact F.fb j (by omega)
  · obtain ⟨i, _, i2, _, e⟩ := ext_mem hp
    rw [← e]; exact h.lb q (List.mem_reverse.mp hq) i i2
  · obtain ⟨i, _, i2, _, e⟩ := ext_mem hp
    rw [← e]; exact h.la q (List.mem_reverse.mp hq) i i2
theorem hA1 (F : Fit a b) {p : Keyed} {k : Nat} (hp : b[nb - 1]? = some p) (hb : nb ≤ b.size) (g : ∀ i, k ≤ i → i < na → ¬ Ahead false p (K a (0 + i))) : ∀ i, k ≤ i → i < na → ∀ j, j < nb → K b j ≤ K a i := fun i h1 h2 j h3 => by
  have z : ¬ K a (0 + i) ≤ ks p := g i h1 h2
  rw [Nat.zero_add, ← K_at hp] at z
  have := F.ub j (nb - 1) (by omega) (by omega) (by omega)
  omega
theorem hB1 {p q : Keyed} {k : Nat} (hp : b[nb - 1]? = some p) (hq : b[nb - 1]? = some q) (g : ∀ i, i < k → Ahead false p (K a (0 + i))) : ∀ j, j < k → K a j ≤ ks q := fun j h1 => by
  obtain rfl : p = q := by rw [hp] at hq; exact Option.some.inj hq
  have z : K a (0 + j) ≤ ks p := g j h1
  rwa [Nat.zero_add] at z
theorem hA2 (F : Fit a b) {p : Keyed} {k : Nat} (hp : a[na - 1]? = some p) (ha : na ≤ a.size) (g : ∀ i, k ≤ i → i < nb → ¬ Ahead true p (K b (0 + i))) : ∀ j, k ≤ j → j < nb → ∀ i, i < na → K a i ≤ K b j := fun j h1 h2 i h3 => by
  have z : ¬ K b (0 + j) < ks p := g j h1 h2
  rw [Nat.zero_add, ← K_at hp] at z
  have := F.ua i (na - 1) (by omega) (by omega) (by omega)
  omega
theorem hB2 {p q : Keyed} {k : Nat} (hp : a[na - 1]? = some p) (hq : a[na - 1]? = some q) (g : ∀ i, i < k → Ahead true p (K b (0 + i))) : ∀ j, j < k → K b j ≤ ks q := fun j h1 => by
  obtain rfl : p = q := by rw [hp] at hq; exact Option.some.inj hq
  have z : K b (0 + j) < ks p := g j h1
  rw [Nat.zero_add] at z
  exact Int.le_of_lt z
theorem ltAH (F : Fit a b) {p1 p2 p3 : Keyed} (h1 : b[nb - 1]? = some p1) (h2 : a[na - 1]? = some p2) (h3 : a[na - 1]? = some p3) (hn : nb ≤ b.size) (h : ks p1 < ks p2) : ∀ j, j < nb → K b j ≤ ks p3 := fun j q1 => by
  obtain rfl : p2 = p3 := by rw [h2] at h3; exact Option.some.inj h3
  rw [← K_at h1] at h
  exact Int.le_trans (F.ub _ _ (by omega) (by omega) (by omega)) (Int.le_of_lt h)
theorem ltBH (F : Fit a b) {p1 p2 p3 : Keyed} (h1 : b[nb - 1]? = some p1) (h2 : a[na - 1]? = some p2) (h3 : b[nb - 1]? = some p3) (hn : na ≤ a.size) (h : ¬ ks p1 < ks p2) : ∀ j, j < na → K a j ≤ ks p3 := fun j q1 => by
  obtain rfl : p1 = p3 := by rw [h1] at h3; exact Option.some.inj h3
  rw [← K_at h2] at h
  exact Int.le_trans (F.ua _ _ (by omega) (by omega) (by omega)) (Int.not_lt.mp h)
structure MidHO (a b : Array Keyed) (c0 na nb : Nat) (out : Array Keyed) : Prop where
  laid : OdH a b na nb out
  ha : 1 ≤ na
  ha2 : na ≤ a.size
  hb : 2 ≤ nb
  hb2 : nb ≤ b.size
  pr : c0 + na + nb ≤ a.size + b.size
theorem mergeLo_s {a b : Array Keyed} {pe : Array (Nat × Nat × Nat)} {xs : Array Keyed} {st : SortSt} {Q : Array Keyed → SortSt → Prop} (hB : GX a0 pe xs st) (ha : IntKeys a) (hb : IntKeys b) (ha1 : 1 ≤ a.size) (hb1 : 1 ≤ b.size)
    (F : Fit a b) (h : ∀ out st', GX a0 pe xs st' → Mg a b out → Q out st') : wpS (model prog w) A E s (mergeLo' a b) Q st := by
  show wpS _ _ _ _ (_ >>= _) _ _
  refine wpS_bind (wpS_lift (wpAny_rule ⟨rfl, ?_⟩))
  obtain ⟨b0, e0, _⟩ := ik_at hb (i := 0) (by omega)
  refine wpS_bind (wpS_elem e0 ?_)
  have L0 : Od a b 0 1 #[b0] := by
    refine ⟨?_, List.pairwise_singleton _ _, fun p hp j _ hj => ?_, fun p hp j _ hj => ?_⟩
    · unfold Laid
      rw [take_at e0]; simp
    · obtain rfl := List.mem_singleton.mp hp
      rw [← K_at e0]; exact F.fb j hj
    · obtain rfl := List.mem_singleton.mp hp
      rw [← K_at e0]; exact F.ub _ _ (by omega) (by omega) hj
  dsimp only
  refine wpS_iteB (fun h1 => wpS_pure (h _ _ hB (L0.fb F (by omega) h1))) fun h1 => ?_
  refine wpS_iteB (fun h2 => wpS_pure (h _ _ hB (L0.fl F (by omega) h2))) fun h2 => ?_
  refine wpS_bind (wpS_get ?_)
  refine wpS_bind (wpS_mono (wpS_forRange (I := fun x c st' => ∃ out ia ib mg, c = (none, out, ia, ib, mg) ∧ MidO a b (x + 1) ia ib out ∧ GX a0 pe xs st') (Q := MRetO a b (GX a0 pe xs)) ?step ?fin ⟨_, _, _, _, rfl, ⟨L0, by omega, by omega, by omega⟩, hB⟩) ?post)
  case fin =>
    rintro c st' ⟨out, ia, ib, mg, rfl, m, g⟩
    have := m.ha; have := m.hb; have := m.pr
    exfalso; omega
  case post =>
    rintro c st' ⟨r, y, rfl, p, g⟩
    exact wpS_pure (h _ _ g p)
  case step =>
    rintro x c st1 _ hx ⟨out, ia, ib, mg, rfl, m, g⟩
    dsimp only
    refine wpS_bind (wpS_mono (wpS_forRange (I := fun x2 c st' => ∃ out ia ib ac bc, c = (none, out, ia, ib, ac, bc) ∧ MidO a b (x + 1 + min x2 1) ia ib out ∧ GX a0 pe xs st')
      (Q := fun c st' => MRetO a b (GX a0 pe xs) c st' ∨ ∃ out ia ib ac bc, c = (none, out, ia, ib, ac, bc) ∧ MidO a b (x + 2) ia ib out ∧ GX a0 pe xs st') ?_ ?_ ⟨_, _, _, _, _, rfl, m, g⟩) ?_)
    · rintro x2 c st2 _ hx2 ⟨out, ia, ib, ac, bc, rfl, m, g⟩
      have m1 := m.ha; have m2 := m.hb; have m3 := m.pr
      dsimp only
      refine wpS_bind (wpS_elemB hb (by omega) fun p1 hp1 kp1 => ?_)
      refine wpS_bind (wpS_elemB ha (by omega) fun p2 hp2 kp2 => ?_)
      refine wpS_bind (wpS_ltP g.1.1.kind kp1 kp2 ?_)
      dsimp only
      refine wpS_ite (fun hbw => ?_) (fun hbw => ?_)
      · refine wpS_bind (wpS_elemB hb (by omega) fun p3 hp3 kp3 => ?_)
        have X := ltA F hp1 hp2 hp3 (of_decide_eq_true hbw)
        refine wpS_iteB (fun e => wpS_pure (.inl ⟨_, _, rfl, (m.laid.pb F hp3 X).fb F (by omega) e, g⟩)) fun ne => ?_
        exact wpS_ite (fun _ => wpS_pure (.inr ⟨_, _, _, _, _, rfl, ⟨m.laid.pb F hp3 X, by omega, by omega, by omega⟩, g⟩)) fun _ => wpS_pure ⟨_, _, _, _, _, rfl, ⟨m.laid.pb F hp3 X, by omega, by omega, by omega⟩, g⟩
      · refine wpS_bind (wpS_elemB ha (by omega) fun p3 hp3 kp3 => ?_)
        have X := ltB F hp1 hp2 hp3 fun z => hbw (decide_eq_true z)
        refine wpS_iteB (fun e => wpS_pure (.inl ⟨_, _, rfl, (m.laid.pa F hp3 X).fl F (by omega) e, g⟩)) fun ne => ?_
        exact wpS_ite (fun _ => wpS_pure (.inr ⟨_, _, _, _, _, rfl, ⟨m.laid.pa F hp3 X, by omega, by omega, by omega⟩, g⟩)) fun _ => wpS_pure ⟨_, _, _, _, _, rfl, ⟨m.laid.pa F hp3 X, by omega, by omega, by omega⟩, g⟩
    · rintro c st2 ⟨out, ia, ib, ac, bc, rfl, m, g⟩
      exact .inr ⟨_, _, _, _, _, rfl, ⟨m.laid, m.ha, m.hb, by have := m.pr; omega⟩, g⟩
    · rintro c st2 (⟨r, y, rfl, p, g⟩ | ⟨out, ia, ib, ac, bc, rfl, m, g⟩)
      · exact wpS_pure ⟨_, _, rfl, p, g⟩
      · dsimp only
        refine wpS_bind (wpS_lift (wpAny_rule ⟨rfl, ?_⟩))
        refine wpS_bind (wpS_mono (wpS_forRange (I := fun _ c st' => ∃ out ia ib mg ac bc, c = (none, out, ia, ib, mg, ac, bc) ∧ MidO a b (x + 2) ia ib out ∧ GX a0 pe xs st')
          (Q := fun c st' => MRetO a b (GX a0 pe xs) c st' ∨ ∃ out ia ib mg ac bc, c = (none, out, ia, ib, mg, ac, bc) ∧ MidO a b (x + 2) ia ib out ∧ GX a0 pe xs st') ?_ ?_ ⟨_, _, _, _, _, _, rfl, m, g⟩) ?_)
        · rintro x3 c st3 _ hx3 ⟨out, ia, ib, mg, ac, bc, rfl, m, g⟩
          have m1 := m.ha; have m2 := m.hb; have m3 := m.pr
          have L := m.laid
          dsimp only
          refine wpS_ite (fun hm => ?_) (fun hm => ?_)
          · refine wpS_bind (wpS_setMin g fun st1 g1 => ?_)
            refine wpS_bind (wpS_elemB hb (by omega) fun p hp kp => ?_)
            refine wpS_bind (gallop_s g1.1.1.kind kp ha (by omega) (by omega) (F.ua.sub (by omega)) fun k hk gk1 gk2 => ?_)
            dsimp only
            refine wpS_ite (fun hk0 => ?_) (fun hk0 => ?_)
            · refine wpS_iteB (fun e => wpS_pure (.inl ⟨_, _, rfl, ((L).ak F (k := k) (by omega) (gA F hp gk1)).fl F (by omega) e, g1⟩)) fun ne1 => ?_
              refine wpS_iteB (fun e => wpS_pure (.inl ⟨_, _, rfl, ((L).ak F (k := k) (by omega) (gA F hp gk1)).fa F (by omega) e, g1⟩)) fun ne2 => ?_
              refine wpS_bind (wpS_elemB hb (by omega) fun q1 hq1 kq1 => ?_)
              refine wpS_iteB (fun e => wpS_pure (.inl ⟨_, _, rfl, (((L).ak F (k := k) (by omega) (gA F hp gk1)).pb F hq1 (gB hp hq1 gk2)).fb F (by omega) e, g1⟩)) fun ne3 => ?_
              refine wpS_bind (wpS_elemB ha (by omega) fun q2 hq2 kq2 => ?_)
              refine wpS_bind (gallop_s g1.1.1.kind kq2 hb (by omega) (by omega) (F.ub.sub (by omega)) fun k2 hk2 gk3 gk4 => ?_)
              dsimp only
              refine wpS_ite (fun h22 => ?_) (fun h22 => ?_)
              · refine wpS_iteB (fun e => wpS_pure (.inl ⟨_, _, rfl, ((((L).ak F (k := k) (by omega) (gA F hp gk1)).pb F hq1 (gB hp hq1 gk2)).bk F (k := k2) (by omega) (gA2 F hq2 gk3)).fb F (by omega) e, g1⟩)) fun ne4 => ?_
                refine wpS_bind (wpS_elemB ha (by omega) fun q3 hq3 kq3 => ?_)
                refine wpS_iteB (fun e => wpS_pure (.inl ⟨_, _, rfl, (((((L).ak F (k := k) (by omega) (gA F hp gk1)).pb F hq1 (gB hp hq1 gk2)).bk F (k := k2) (by omega) (gA2 F hq2 gk3)).pa F hq3 (gB2 hq2 hq3 gk4)).fl F (by omega) e, g1⟩)) fun ne5 => ?_
                refine wpS_ite (fun _ => wpS_pure (.inr ⟨_, _, _, _, _, _, rfl, ⟨((((L).ak F (k := k) (by omega) (gA F hp gk1)).pb F hq1 (gB hp hq1 gk2)).bk F (k := k2) (by omega) (gA2 F hq2 gk3)).pa F hq3 (gB2 hq2 hq3 gk4), by omega, by omega, by omega⟩, g1⟩)) fun _ => wpS_pure ⟨_, _, _, _, _, _, rfl, ⟨((((L).ak F (k := k) (by omega) (gA F hp gk1)).pb F hq1 (gB hp hq1 gk2)).bk F (k := k2) (by omega) (gA2 F hq2 gk3)).pa F hq3 (gB2 hq2 hq3 gk4), by omega, by omega, by omega⟩, g1⟩
              · obtain rfl : k2 = 0 := by omega
                refine wpS_bind (wpS_elemB ha (by omega) fun q3 hq3 kq3 => ?_)
                refine wpS_iteB (fun e => wpS_pure (.inl ⟨_, _, rfl, ((((L).ak F (k := k) (by omega) (gA F hp gk1)).pb F hq1 (gB hp hq1 gk2)).pa F hq3 (gB2 (ib := ib + 1) (k := 0) hq2 hq3 gk4)).fl F (by omega) e, g1⟩)) fun ne5 => ?_
                refine wpS_ite (fun _ => wpS_pure (.inr ⟨_, _, _, _, _, _, rfl, ⟨(((L).ak F (k := k) (by omega) (gA F hp gk1)).pb F hq1 (gB hp hq1 gk2)).pa F hq3 (gB2 (ib := ib + 1) (k := 0) hq2 hq3 gk4), by omega, by omega, by omega⟩, g1⟩)) fun _ => wpS_pure ⟨_, _, _, _, _, _, rfl, ⟨(((L).ak F (k := k) (by omega) (gA F hp gk1)).pb F hq1 (gB hp hq1 gk2)).pa F hq3 (gB2 (ib := ib + 1) (k := 0) hq2 hq3 gk4), by omega, by omega, by omega⟩, g1⟩
            · obtain rfl : k = 0 := by omega
              refine wpS_bind (wpS_elemB hb (by omega) fun q1 hq1 kq1 => ?_)
              refine wpS_iteB (fun e => wpS_pure (.inl ⟨_, _, rfl, ((L).pb F hq1 (gB hp hq1 gk2)).fb F (by omega) e, g1⟩)) fun ne3 => ?_
              refine wpS_bind (wpS_elemB ha (by omega) fun q2 hq2 kq2 => ?_)
              refine wpS_bind (gallop_s g1.1.1.kind kq2 hb (by omega) (by omega) (F.ub.sub (by omega)) fun k2 hk2 gk3 gk4 => ?_)
              dsimp only
              refine wpS_ite (fun h22 => ?_) (fun h22 => ?_)
              · refine wpS_iteB (fun e => wpS_pure (.inl ⟨_, _, rfl, (((L).pb F hq1 (gB hp hq1 gk2)).bk F (k := k2) (by omega) (gA2 F hq2 gk3)).fb F (by omega) e, g1⟩)) fun ne4 => ?_
                refine wpS_bind (wpS_elemB ha (by omega) fun q3 hq3 kq3 => ?_)
                refine wpS_iteB (fun e => wpS_pure (.inl ⟨_, _, rfl, ((((L).pb F hq1 (gB hp hq1 gk2)).bk F (k := k2) (by omega) (gA2 F hq2 gk3)).pa F hq3 (gB2 hq2 hq3 gk4)).fl F (by omega) e, g1⟩)) fun ne5 => ?_
                refine wpS_ite (fun _ => wpS_pure (.inr ⟨_, _, _, _, _, _, rfl, ⟨(((L).pb F hq1 (gB hp hq1 gk2)).bk F (k := k2) (by omega) (gA2 F hq2 gk3)).pa F hq3 (gB2 hq2 hq3 gk4), by omega, by omega, by omega⟩, g1⟩)) fun _ => wpS_pure ⟨_, _, _, _, _, _, rfl, ⟨(((L).pb F hq1 (gB hp hq1 gk2)).bk F (k := k2) (by omega) (gA2 F hq2 gk3)).pa F hq3 (gB2 hq2 hq3 gk4), by omega, by omega, by omega⟩, g1⟩
              · obtain rfl : k2 = 0 := by omega
                refine wpS_bind (wpS_elemB ha (by omega) fun q3 hq3 kq3 => ?_)
                refine wpS_iteB (fun e => wpS_pure (.inl ⟨_, _, rfl, (((L).pb F hq1 (gB hp hq1 gk2)).pa F hq3 (gB2 (ib := ib + 1) (k := 0) hq2 hq3 gk4)).fl F (by omega) e, g1⟩)) fun ne5 => ?_
                refine wpS_ite (fun _ => wpS_pure (.inr ⟨_, _, _, _, _, _, rfl, ⟨((L).pb F hq1 (gB hp hq1 gk2)).pa F hq3 (gB2 (ib := ib + 1) (k := 0) hq2 hq3 gk4), by omega, by omega, by omega⟩, g1⟩)) fun _ => wpS_pure ⟨_, _, _, _, _, _, rfl, ⟨((L).pb F hq1 (gB hp hq1 gk2)).pa F hq3 (gB2 (ib := ib + 1) (k := 0) hq2 hq3 gk4), by omega, by omega, by omega⟩, g1⟩
          · refine wpS_bind (wpS_setMin g fun st1 g1 => ?_)
            refine wpS_bind (wpS_elemB hb (by omega) fun p hp kp => ?_)
            refine wpS_bind (gallop_s g1.1.1.kind kp ha (by omega) (by omega) (F.ua.sub (by omega)) fun k hk gk1 gk2 => ?_)
            dsimp only
            refine wpS_ite (fun hk0 => ?_) (fun hk0 => ?_)
            · refine wpS_iteB (fun e => wpS_pure (.inl ⟨_, _, rfl, ((L).ak F (k := k) (by omega) (gA F hp gk1)).fl F (by omega) e, g1⟩)) fun ne1 => ?_
              refine wpS_iteB (fun e => wpS_pure (.inl ⟨_, _, rfl, ((L).ak F (k := k) (by omega) (gA F hp gk1)).fa F (by omega) e, g1⟩)) fun ne2 => ?_
              refine wpS_bind (wpS_elemB hb (by omega) fun q1 hq1 kq1 => ?_)
              refine wpS_iteB (fun e => wpS_pure (.inl ⟨_, _, rfl, (((L).ak F (k := k) (by omega) (gA F hp gk1)).pb F hq1 (gB hp hq1 gk2)).fb F (by omega) e, g1⟩)) fun ne3 => ?_
              refine wpS_bind (wpS_elemB ha (by omega) fun q2 hq2 kq2 => ?_)
              refine wpS_bind (gallop_s g1.1.1.kind kq2 hb (by omega) (by omega) (F.ub.sub (by omega)) fun k2 hk2 gk3 gk4 => ?_)
              dsimp only
              refine wpS_ite (fun h22 => ?_) (fun h22 => ?_)
              · refine wpS_iteB (fun e => wpS_pure (.inl ⟨_, _, rfl, ((((L).ak F (k := k) (by omega) (gA F hp gk1)).pb F hq1 (gB hp hq1 gk2)).bk F (k := k2) (by omega) (gA2 F hq2 gk3)).fb F (by omega) e, g1⟩)) fun ne4 => ?_
                refine wpS_bind (wpS_elemB ha (by omega) fun q3 hq3 kq3 => ?_)
                refine wpS_iteB (fun e => wpS_pure (.inl ⟨_, _, rfl, (((((L).ak F (k := k) (by omega) (gA F hp gk1)).pb F hq1 (gB hp hq1 gk2)).bk F (k := k2) (by omega) (gA2 F hq2 gk3)).pa F hq3 (gB2 hq2 hq3 gk4)).fl F (by omega) e, g1⟩)) fun ne5 => ?_
                refine wpS_ite (fun _ => wpS_pure (.inr ⟨_, _, _, _, _, _, rfl, ⟨((((L).ak F (k := k) (by omega) (gA F hp gk1)).pb F hq1 (gB hp hq1 gk2)).bk F (k := k2) (by omega) (gA2 F hq2 gk3)).pa F hq3 (gB2 hq2 hq3 gk4), by omega, by omega, by omega⟩, g1⟩)) fun _ => wpS_pure ⟨_, _, _, _, _, _, rfl, ⟨((((L).ak F (k := k) (by omega) (gA F hp gk1)).pb F hq1 (gB hp hq1 gk2)).bk F (k := k2) (by omega) (gA2 F hq2 gk3)).pa F hq3 (gB2 hq2 hq3 gk4), by omega, by omega, by omega⟩, g1⟩
              · obtain rfl : k2 = 0 := by omega
                refine wpS_bind (wpS_elemB ha (by omega) fun q3 hq3 kq3 => ?_)
                refine wpS_iteB (fun e => wpS_pure (.inl ⟨_, _, rfl, ((((L).ak F (k := k) (by omega) (gA F hp gk1)).pb F hq1 (gB hp hq1 gk2)).pa F hq3 (gB2 (ib := ib + 1) (k := 0) hq2 hq3 gk4)).fl F (by omega) e, g1⟩)) fun ne5 => ?_
                refine wpS_ite (fun _ => wpS_pure (.inr ⟨_, _, _, _, _, _, rfl, ⟨(((L).ak F (k := k) (by omega) (gA F hp gk1)).pb F hq1 (gB hp hq1 gk2)).pa F hq3 (gB2 (ib := ib + 1) (k := 0) hq2 hq3 gk4), by omega, by omega, by omega⟩, g1⟩)) fun _ => wpS_pure ⟨_, _, _, _, _, _, rfl, ⟨(((L).ak F (k := k) (by omega) (gA F hp gk1)).pb F hq1 (gB hp hq1 gk2)).pa F hq3 (gB2 (ib := ib + 1) (k := 0) hq2 hq3 gk4), by omega, by omega, by omega⟩, g1⟩
            · obtain rfl : k = 0 := by omega
              refine wpS_bind (wpS_elemB hb (by omega) fun q1 hq1 kq1 => ?_)
              refine wpS_iteB (fun e => wpS_pure (.inl ⟨_, _, rfl, ((L).pb F hq1 (gB hp hq1 gk2)).fb F (by omega) e, g1⟩)) fun ne3 => ?_
              refine wpS_bind (wpS_elemB ha (by omega) fun q2 hq2 kq2 => ?_)
              refine wpS_bind (gallop_s g1.1.1.kind kq2 hb (by omega) (by omega) (F.ub.sub (by omega)) fun k2 hk2 gk3 gk4 => ?_)
              dsimp only
              refine wpS_ite (fun h22 => ?_) (fun h22 => ?_)
              · refine wpS_iteB (fun e => wpS_pure (.inl ⟨_, _, rfl, (((L).pb F hq1 (gB hp hq1 gk2)).bk F (k := k2) (by omega) (gA2 F hq2 gk3)).fb F (by omega) e, g1⟩)) fun ne4 => ?_
                refine wpS_bind (wpS_elemB ha (by omega) fun q3 hq3 kq3 => ?_)
                refine wpS_iteB (fun e => wpS_pure (.inl ⟨_, _, rfl, ((((L).pb F hq1 (gB hp hq1 gk2)).bk F (k := k2) (by omega) (gA2 F hq2 gk3)).pa F hq3 (gB2 hq2 hq3 gk4)).fl F (by omega) e, g1⟩)) fun ne5 => ?_
                refine wpS_ite (fun _ => wpS_pure (.inr ⟨_, _, _, _, _, _, rfl, ⟨(((L).pb F hq1 (gB hp hq1 gk2)).bk F (k := k2) (by omega) (gA2 F hq2 gk3)).pa F hq3 (gB2 hq2 hq3 gk4), by omega, by omega, by omega⟩, g1⟩)) fun _ => wpS_pure ⟨_, _, _, _, _, _, rfl, ⟨(((L).pb F hq1 (gB hp hq1 gk2)).bk F (k := k2) (by omega) (gA2 F hq2 gk3)).pa F hq3 (gB2 hq2 hq3 gk4), by omega, by omega, by omega⟩, g1⟩
              · obtain rfl : k2 = 0 := by omega
                refine wpS_bind (wpS_elemB ha (by omega) fun q3 hq3 kq3 => ?_)
                refine wpS_iteB (fun e => wpS_pure (.inl ⟨_, _, rfl, (((L).pb F hq1 (gB hp hq1 gk2)).pa F hq3 (gB2 (ib := ib + 1) (k := 0) hq2 hq3 gk4)).fl F (by omega) e, g1⟩)) fun ne5 => ?_
                refine wpS_ite (fun _ => wpS_pure (.inr ⟨_, _, _, _, _, _, rfl, ⟨((L).pb F hq1 (gB hp hq1 gk2)).pa F hq3 (gB2 (ib := ib + 1) (k := 0) hq2 hq3 gk4), by omega, by omega, by omega⟩, g1⟩)) fun _ => wpS_pure ⟨_, _, _, _, _, _, rfl, ⟨((L).pb F hq1 (gB hp hq1 gk2)).pa F hq3 (gB2 (ib := ib + 1) (k := 0) hq2 hq3 gk4), by omega, by omega, by omega⟩, g1⟩
        · rintro c st3 z; exact .inr z
        · rintro c st3 (⟨r, y, rfl, p, g⟩ | ⟨out, ia, ib, mg, ac, bc, rfl, m, g⟩)
          · exact wpS_pure ⟨_, _, rfl, p, g⟩
          · exact wpS_bind (wpS_setMin g fun st4 g4 => wpS_pure ⟨_, _, _, _, rfl, m, g4⟩)
end
end SB
set_option Elab.async false
set_option maxRecDepth 100000
set_option maxHeartbeats 4000000
namespace SB
open PySem PyProof.Rows
section
variable {prog : Program} {w : World} {A : Around} {E : Value → Shared → Prop} {s : Shared} {a0 : Array Keyed}
theorem mergeHi_s {a b : Array Keyed} {pe : Array (Nat × Nat × Nat)} {xs : Array Keyed} {st : SortSt} {Q : Array Keyed → SortSt → Prop} (hB : GX a0 pe xs st) (ha : IntKeys a) (hb : IntKeys b) (ha1 : 1 ≤ a.size) (hb1 : 1 ≤ b.size)
    (F : Fit a b) (h : ∀ out st', GX a0 pe xs st' → Mg a b out → Q out st') : wpS (model prog w) A E s (mergeHi' a b) Q st := by
  show wpS _ _ _ _ (_ >>= _) _ _
  refine wpS_bind (wpS_lift (wpAny_rule ⟨rfl, ?_⟩))
  obtain ⟨b0, e0, _⟩ := ik_at ha (i := a.size - 1) (by omega)
  refine wpS_bind (wpS_elem e0 ?_)
  have L0 : OdH a b (a.size - 1) b.size #[b0] := by
    refine ⟨?_, List.pairwise_singleton _ _, fun p hp j hj => ?_, fun p hp j hj => ?_⟩
    · unfold LaidH
      rw [drop_at e0, List.drop_of_length_le (by simp; omega), List.drop_of_length_le (by simp)]
      simp
    · obtain rfl := List.mem_singleton.mp hp
      rw [← K_at e0]; exact F.ua _ _ (by omega) (by omega) (by omega)
    · obtain rfl := List.mem_singleton.mp hp
      rw [← K_at e0]; exact F.la j hj
  dsimp only
  refine wpS_iteB (fun h1 => wpS_pure (h _ _ hB (L0.fz F (by omega) h1))) fun h1 => ?_
  refine wpS_iteB (fun h2 => wpS_pure (h _ _ hB (L0.fl F (by omega) (by omega) h2))) fun h2 => ?_
  refine wpS_bind (wpS_get ?_)
  refine wpS_bind (wpS_mono (wpS_forRange (a := 0) (I := fun x c st' => ∃ out na nb mg, c = (none, na, nb, out, mg) ∧ MidHO a b (x + 1) na nb out ∧ GX a0 pe xs st') (Q := MRetO a b (GX a0 pe xs)) ?step ?fin ⟨#[b0], a.size - 1, b.size, gallopOf st, rfl, ⟨L0, by omega, by omega, by omega, by omega, by omega⟩, hB⟩) ?post)
  case fin =>
    rintro c st' ⟨out, na, nb, mg, rfl, m, g⟩
    have := m.ha; have := m.hb; have := m.pr
    exfalso; omega
  case post =>
    rintro c st' ⟨r, y, rfl, p, g⟩
    exact wpS_pure (h _ _ g p)
  case step =>
    rintro x c st1 _ hx ⟨out, na, nb, mg, rfl, m, g⟩
    dsimp only
    refine wpS_bind (wpS_mono (wpS_forRange (I := fun x2 c st' => ∃ out na nb ac bc, c = (none, na, nb, out, ac, bc) ∧ MidHO a b (x + 1 + min x2 1) na nb out ∧ GX a0 pe xs st')
      (Q := fun c st' => MRetO a b (GX a0 pe xs) c st' ∨ ∃ out na nb ac bc, c = (none, na, nb, out, ac, bc) ∧ MidHO a b (x + 2) na nb out ∧ GX a0 pe xs st') ?_ ?_ ⟨_, _, _, _, _, rfl, m, g⟩) ?_)
    · rintro x2 c st2 _ hx2 ⟨out, na, nb, ac, bc, rfl, m, g⟩
      have m1 := m.ha; have m2 := m.hb; have m3 := m.pr; have m4 := m.ha2; have m5 := m.hb2
      dsimp only
      refine wpS_bind (wpS_elemB hb (by omega) fun p1 hp1 kp1 => ?_)
      refine wpS_bind (wpS_elemB ha (by omega) fun p2 hp2 kp2 => ?_)
      refine wpS_bind (wpS_ltP g.1.1.kind kp1 kp2 ?_)
      dsimp only
      refine wpS_ite (fun hbw => ?_) (fun hbw => ?_)
      · refine wpS_bind (wpS_elemB ha (by omega) fun p3 hp3 kp3 => ?_)
        have X := ltAH F hp1 hp2 hp3 m5 (of_decide_eq_true hbw)
        refine wpS_iteB (fun e => wpS_pure (.inl ⟨_, _, rfl, (m.laid.pa F (by omega) hp3 X).fz F (by omega) e, g⟩)) fun ne => ?_
        exact wpS_ite (fun _ => wpS_pure (.inr ⟨_, _, _, _, _, rfl, ⟨m.laid.pa F (by omega) hp3 X, by omega, by omega, by omega, by omega, by omega⟩, g⟩)) fun _ => wpS_pure ⟨_, _, _, _, _, rfl, ⟨m.laid.pa F (by omega) hp3 X, by omega, by omega, by omega, by omega, by omega⟩, g⟩
      · refine wpS_bind (wpS_elemB hb (by omega) fun p3 hp3 kp3 => ?_)
        have X := ltBH F hp1 hp2 hp3 m4 fun z => hbw (decide_eq_true z)
        refine wpS_iteB (fun e => wpS_pure (.inl ⟨_, _, rfl, (m.laid.pb F (by omega) hp3 X).fl F (by omega) (by omega) e, g⟩)) fun ne => ?_
        exact wpS_ite (fun _ => wpS_pure (.inr ⟨_, _, _, _, _, rfl, ⟨m.laid.pb F (by omega) hp3 X, by omega, by omega, by omega, by omega, by omega⟩, g⟩)) fun _ => wpS_pure ⟨_, _, _, _, _, rfl, ⟨m.laid.pb F (by omega) hp3 X, by omega, by omega, by omega, by omega, by omega⟩, g⟩
    · rintro c st2 ⟨out, na, nb, ac, bc, rfl, m, g⟩
      exact .inr ⟨_, _, _, _, _, rfl, ⟨m.laid, m.ha, m.ha2, m.hb, m.hb2, by have := m.pr; omega⟩, g⟩
    · rintro c st2 (⟨r, y, rfl, p, g⟩ | ⟨out, na, nb, ac, bc, rfl, m, g⟩)
      · exact wpS_pure ⟨_, _, rfl, p, g⟩
      · dsimp only
        refine wpS_bind (wpS_lift (wpAny_rule ⟨rfl, ?_⟩))
        refine wpS_bind (wpS_mono (wpS_forRange (I := fun _ c st' => ∃ out na nb mg ac bc, c = (none, na, nb, out, mg, ac, bc) ∧ MidHO a b (x + 2) na nb out ∧ GX a0 pe xs st')
          (Q := fun c st' => MRetO a b (GX a0 pe xs) c st' ∨ ∃ out na nb mg ac bc, c = (none, na, nb, out, mg, ac, bc) ∧ MidHO a b (x + 2) na nb out ∧ GX a0 pe xs st') ?_ ?_ ⟨_, _, _, _, _, _, rfl, m, g⟩) ?_)
        · rintro x3 c st3 _ hx3 ⟨out, na, nb, mg, ac, bc, rfl, m, g⟩
          have m1 := m.ha; have m2 := m.hb; have m3 := m.pr; have m4 := m.ha2; have m5 := m.hb2
          have L := m.laid
          dsimp only
          refine wpS_ite (fun hm => ?_) (fun hm => ?_)
          · refine wpS_bind (wpS_setMin g fun st1 g1 => ?_)
            refine wpS_bind (wpS_elemB hb (by omega) fun p hp kp => ?_)
            refine wpS_bind (gallop_s g1.1.1.kind kp ha (by omega) (by omega) (F.ua.sub (by omega)) fun k hk gk1 gk2 => ?_)
            dsimp only
            refine wpS_ite (fun hk0 => ?_) (fun hk0 => ?_)
            · refine wpS_iteB (fun e => wpS_pure (.inl ⟨_, _, rfl, ((L).ak F hk (by omega) (hA1 F hp (by omega) gk2)).fz F (by omega) e, g1⟩)) fun ne1 => ?_
              refine wpS_bind (wpS_elemB hb (by omega) fun q1 hq1 kq1 => ?_)
              refine wpS_iteB (fun e => wpS_pure (.inl ⟨_, _, rfl, (((L).ak F hk (by omega) (hA1 F hp (by omega) gk2)).pb F (by omega) hq1 (fun j hj => hB1 hp hq1 gk1 j (by omega))).fl F (by omega) (by omega) e, g1⟩)) fun ne3 => ?_
              refine wpS_bind (wpS_elemB ha (by omega) fun q2 hq2 kq2 => ?_)
              refine wpS_bind (gallop_s g1.1.1.kind kq2 hb (by omega) (by omega) (F.ub.sub (by omega)) fun k2 hk2 gk3 gk4 => ?_)
              dsimp only
              refine wpS_ite (fun h22 => ?_) (fun h22 => ?_)
              · refine wpS_iteB (fun e => wpS_pure (.inl ⟨_, _, rfl, ((((L).ak F hk (by omega) (hA1 F hp (by omega) gk2)).pb F (by omega) hq1 (fun j hj => hB1 hp hq1 gk1 j (by omega))).bk F hk2 (by omega) (hA2 F hq2 (by omega) gk4)).fl F (by omega) (by omega) e, g1⟩)) fun ne4 => ?_
                refine wpS_iteB (fun e => wpS_pure (.inl ⟨_, _, rfl, ((((L).ak F hk (by omega) (hA1 F hp (by omega) gk2)).pb F (by omega) hq1 (fun j hj => hB1 hp hq1 gk1 j (by omega))).bk F hk2 (by omega) (hA2 F hq2 (by omega) gk4)).fn F (by omega) e, g1⟩)) fun ne4b => ?_
                refine wpS_bind (wpS_elemB ha (by omega) fun q3 hq3 kq3 => ?_)
                refine wpS_iteB (fun e => wpS_pure (.inl ⟨_, _, rfl, (((((L).ak F hk (by omega) (hA1 F hp (by omega) gk2)).pb F (by omega) hq1 (fun j hj => hB1 hp hq1 gk1 j (by omega))).bk F hk2 (by omega) (hA2 F hq2 (by omega) gk4)).pa F (by omega) hq3 (fun j hj => hB2 hq2 hq3 gk3 j (by omega))).fz F (by omega) e, g1⟩)) fun ne5 => ?_
                refine wpS_ite (fun _ => wpS_pure (.inr ⟨_, _, _, _, _, _, rfl, ⟨((((L).ak F hk (by omega) (hA1 F hp (by omega) gk2)).pb F (by omega) hq1 (fun j hj => hB1 hp hq1 gk1 j (by omega))).bk F hk2 (by omega) (hA2 F hq2 (by omega) gk4)).pa F (by omega) hq3 (fun j hj => hB2 hq2 hq3 gk3 j (by omega)), by omega, by omega, by omega, by omega, by omega⟩, g1⟩)) fun _ => wpS_pure ⟨_, _, _, _, _, _, rfl, ⟨((((L).ak F hk (by omega) (hA1 F hp (by omega) gk2)).pb F (by omega) hq1 (fun j hj => hB1 hp hq1 gk1 j (by omega))).bk F hk2 (by omega) (hA2 F hq2 (by omega) gk4)).pa F (by omega) hq3 (fun j hj => hB2 hq2 hq3 gk3 j (by omega)), by omega, by omega, by omega, by omega, by omega⟩, g1⟩
              · refine wpS_bind (wpS_elemB ha (by omega) fun q3 hq3 kq3 => ?_)
                refine wpS_iteB (fun e => wpS_pure (.inl ⟨_, _, rfl, ((((L).ak F hk (by omega) (hA1 F hp (by omega) gk2)).pb F (by omega) hq1 (fun j hj => hB1 hp hq1 gk1 j (by omega))).pa F (by omega) hq3 (fun j hj => hB2 hq2 hq3 gk3 j (by omega))).fz F (by omega) e, g1⟩)) fun ne5 => ?_
                refine wpS_ite (fun _ => wpS_pure (.inr ⟨_, _, _, _, _, _, rfl, ⟨(((L).ak F hk (by omega) (hA1 F hp (by omega) gk2)).pb F (by omega) hq1 (fun j hj => hB1 hp hq1 gk1 j (by omega))).pa F (by omega) hq3 (fun j hj => hB2 hq2 hq3 gk3 j (by omega)), by omega, by omega, by omega, by omega, by omega⟩, g1⟩)) fun _ => wpS_pure ⟨_, _, _, _, _, _, rfl, ⟨(((L).ak F hk (by omega) (hA1 F hp (by omega) gk2)).pb F (by omega) hq1 (fun j hj => hB1 hp hq1 gk1 j (by omega))).pa F (by omega) hq3 (fun j hj => hB2 hq2 hq3 gk3 j (by omega)), by omega, by omega, by omega, by omega, by omega⟩, g1⟩
            · refine wpS_bind (wpS_elemB hb (by omega) fun q1 hq1 kq1 => ?_)
              refine wpS_iteB (fun e => wpS_pure (.inl ⟨_, _, rfl, ((L).pb F (by omega) hq1 (fun j hj => hB1 hp hq1 gk1 j (by omega))).fl F (by omega) (by omega) e, g1⟩)) fun ne3 => ?_
              refine wpS_bind (wpS_elemB ha (by omega) fun q2 hq2 kq2 => ?_)
              refine wpS_bind (gallop_s g1.1.1.kind kq2 hb (by omega) (by omega) (F.ub.sub (by omega)) fun k2 hk2 gk3 gk4 => ?_)
              dsimp only
              refine wpS_ite (fun h22 => ?_) (fun h22 => ?_)
              · refine wpS_iteB (fun e => wpS_pure (.inl ⟨_, _, rfl, (((L).pb F (by omega) hq1 (fun j hj => hB1 hp hq1 gk1 j (by omega))).bk F hk2 (by omega) (hA2 F hq2 (by omega) gk4)).fl F (by omega) (by omega) e, g1⟩)) fun ne4 => ?_
                refine wpS_iteB (fun e => wpS_pure (.inl ⟨_, _, rfl, (((L).pb F (by omega) hq1 (fun j hj => hB1 hp hq1 gk1 j (by omega))).bk F hk2 (by omega) (hA2 F hq2 (by omega) gk4)).fn F (by omega) e, g1⟩)) fun ne4b => ?_
                refine wpS_bind (wpS_elemB ha (by omega) fun q3 hq3 kq3 => ?_)
                refine wpS_iteB (fun e => wpS_pure (.inl ⟨_, _, rfl, ((((L).pb F (by omega) hq1 (fun j hj => hB1 hp hq1 gk1 j (by omega))).bk F hk2 (by omega) (hA2 F hq2 (by omega) gk4)).pa F (by omega) hq3 (fun j hj => hB2 hq2 hq3 gk3 j (by omega))).fz F (by omega) e, g1⟩)) fun ne5 => ?_
                refine wpS_ite (fun _ => wpS_pure (.inr ⟨_, _, _, _, _, _, rfl, ⟨(((L).pb F (by omega) hq1 (fun j hj => hB1 hp hq1 gk1 j (by omega))).bk F hk2 (by omega) (hA2 F hq2 (by omega) gk4)).pa F (by omega) hq3 (fun j hj => hB2 hq2 hq3 gk3 j (by omega)), by omega, by omega, by omega, by omega, by omega⟩, g1⟩)) fun _ => wpS_pure ⟨_, _, _, _, _, _, rfl, ⟨(((L).pb F (by omega) hq1 (fun j hj => hB1 hp hq1 gk1 j (by omega))).bk F hk2 (by omega) (hA2 F hq2 (by omega) gk4)).pa F (by omega) hq3 (fun j hj => hB2 hq2 hq3 gk3 j (by omega)), by omega, by omega, by omega, by omega, by omega⟩, g1⟩
              · refine wpS_bind (wpS_elemB ha (by omega) fun q3 hq3 kq3 => ?_)
                refine wpS_iteB (fun e => wpS_pure (.inl ⟨_, _, rfl, (((L).pb F (by omega) hq1 (fun j hj => hB1 hp hq1 gk1 j (by omega))).pa F (by omega) hq3 (fun j hj => hB2 hq2 hq3 gk3 j (by omega))).fz F (by omega) e, g1⟩)) fun ne5 => ?_
                refine wpS_ite (fun _ => wpS_pure (.inr ⟨_, _, _, _, _, _, rfl, ⟨((L).pb F (by omega) hq1 (fun j hj => hB1 hp hq1 gk1 j (by omega))).pa F (by omega) hq3 (fun j hj => hB2 hq2 hq3 gk3 j (by omega)), by omega, by omega, by omega, by omega, by omega⟩, g1⟩)) fun _ => wpS_pure ⟨_, _, _, _, _, _, rfl, ⟨((L).pb F (by omega) hq1 (fun j hj => hB1 hp hq1 gk1 j (by omega))).pa F (by omega) hq3 (fun j hj => hB2 hq2 hq3 gk3 j (by omega)), by omega, by omega, by omega, by omega, by omega⟩, g1⟩
          · refine wpS_bind (wpS_setMin g fun st1 g1 => ?_)
            refine wpS_bind (wpS_elemB hb (by omega) fun p hp kp => ?_)
            refine wpS_bind (gallop_s g1.1.1.kind kp ha (by omega) (by omega) (F.ua.sub (by omega)) fun k hk gk1 gk2 => ?_)
            dsimp only
            refine wpS_ite (fun hk0 => ?_) (fun hk0 => ?_)
            · refine wpS_iteB (fun e => wpS_pure (.inl ⟨_, _, rfl, ((L).ak F hk (by omega) (hA1 F hp (by omega) gk2)).fz F (by omega) e, g1⟩)) fun ne1 => ?_
              refine wpS_bind (wpS_elemB hb (by omega) fun q1 hq1 kq1 => ?_)
              refine wpS_iteB (fun e => wpS_pure (.inl ⟨_, _, rfl, (((L).ak F hk (by omega) (hA1 F hp (by omega) gk2)).pb F (by omega) hq1 (fun j hj => hB1 hp hq1 gk1 j (by omega))).fl F (by omega) (by omega) e, g1⟩)) fun ne3 => ?_
              refine wpS_bind (wpS_elemB ha (by omega) fun q2 hq2 kq2 => ?_)
              refine wpS_bind (gallop_s g1.1.1.kind kq2 hb (by omega) (by omega) (F.ub.sub (by omega)) fun k2 hk2 gk3 gk4 => ?_)
              dsimp only
              refine wpS_ite (fun h22 => ?_) (fun h22 => ?_)
              · refine wpS_iteB (fun e => wpS_pure (.inl ⟨_, _, rfl, ((((L).ak F hk (by omega) (hA1 F hp (by omega) gk2)).pb F (by omega) hq1 (fun j hj => hB1 hp hq1 gk1 j (by omega))).bk F hk2 (by omega) (hA2 F hq2 (by omega) gk4)).fl F (by omega) (by omega) e, g1⟩)) fun ne4 => ?_
                refine wpS_iteB (fun e => wpS_pure (.inl ⟨_, _, rfl, ((((L).ak F hk (by omega) (hA1 F hp (by omega) gk2)).pb F (by omega) hq1 (fun j hj => hB1 hp hq1 gk1 j (by omega))).bk F hk2 (by omega) (hA2 F hq2 (by omega) gk4)).fn F (by omega) e, g1⟩)) fun ne4b => ?_
                refine wpS_bind (wpS_elemB ha (by omega) fun q3 hq3 kq3 => ?_)
                refine wpS_iteB (fun e => wpS_pure (.inl ⟨_, _, rfl, (((((L).ak F hk (by omega) (hA1 F hp (by omega) gk2)).pb F (by omega) hq1 (fun j hj => hB1 hp hq1 gk1 j (by omega))).bk F hk2 (by omega) (hA2 F hq2 (by omega) gk4)).pa F (by omega) hq3 (fun j hj => hB2 hq2 hq3 gk3 j (by omega))).fz F (by omega) e, g1⟩)) fun ne5 => ?_
                refine wpS_ite (fun _ => wpS_pure (.inr ⟨_, _, _, _, _, _, rfl, ⟨((((L).ak F hk (by omega) (hA1 F hp (by omega) gk2)).pb F (by omega) hq1 (fun j hj => hB1 hp hq1 gk1 j (by omega))).bk F hk2 (by omega) (hA2 F hq2 (by omega) gk4)).pa F (by omega) hq3 (fun j hj => hB2 hq2 hq3 gk3 j (by omega)), by omega, by omega, by omega, by omega, by omega⟩, g1⟩)) fun _ => wpS_pure ⟨_, _, _, _, _, _, rfl, ⟨((((L).ak F hk (by omega) (hA1 F hp (by omega) gk2)).pb F (by omega) hq1 (fun j hj => hB1 hp hq1 gk1 j (by omega))).bk F hk2 (by omega) (hA2 F hq2 (by omega) gk4)).pa F (by omega) hq3 (fun j hj => hB2 hq2 hq3 gk3 j (by omega)), by omega, by omega, by omega, by omega, by omega⟩, g1⟩
              · refine wpS_bind (wpS_elemB ha (by omega) fun q3 hq3 kq3 => ?_)
                refine wpS_iteB (fun e => wpS_pure (.inl ⟨_, _, rfl, ((((L).ak F hk (by omega) (hA1 F hp (by omega) gk2)).pb F (by omega) hq1 (fun j hj => hB1 hp hq1 gk1 j (by omega))).pa F (by omega) hq3 (fun j hj => hB2 hq2 hq3 gk3 j (by omega))).fz F (by omega) e, g1⟩)) fun ne5 => ?_
                refine wpS_ite (fun _ => wpS_pure (.inr ⟨_, _, _, _, _, _, rfl, ⟨(((L).ak F hk (by omega) (hA1 F hp (by omega) gk2)).pb F (by omega) hq1 (fun j hj => hB1 hp hq1 gk1 j (by omega))).pa F (by omega) hq3 (fun j hj => hB2 hq2 hq3 gk3 j (by omega)), by omega, by omega, by omega, by omega, by omega⟩, g1⟩)) fun _ => wpS_pure ⟨_, _, _, _, _, _, rfl, ⟨(((L).ak F hk (by omega) (hA1 F hp (by omega) gk2)).pb F (by omega) hq1 (fun j hj => hB1 hp hq1 gk1 j (by omega))).pa F (by omega) hq3 (fun j hj => hB2 hq2 hq3 gk3 j (by omega)), by omega, by omega, by omega, by omega, by omega⟩, g1⟩
            · refine wpS_bind (wpS_elemB hb (by omega) fun q1 hq1 kq1 => ?_)
              refine wpS_iteB (fun e => wpS_pure (.inl ⟨_, _, rfl, ((L).pb F (by omega) hq1 (fun j hj => hB1 hp hq1 gk1 j (by omega))).fl F (by omega) (by omega) e, g1⟩)) fun ne3 => ?_
              refine wpS_bind (wpS_elemB ha (by omega) fun q2 hq2 kq2 => ?_)
              refine wpS_bind (gallop_s g1.1.1.kind kq2 hb (by omega) (by omega) (F.ub.sub (by omega)) fun k2 hk2 gk3 gk4 => ?_)
              dsimp only
              refine wpS_ite (fun h22 => ?_) (fun h22 => ?_)
              · refine wpS_iteB (fun e => wpS_pure (.inl ⟨_, _, rfl, (((L).pb F (by omega) hq1 (fun j hj => hB1 hp hq1 gk1 j (by omega))).bk F hk2 (by omega) (hA2 F hq2 (by omega) gk4)).fl F (by omega) (by omega) e, g1⟩)) fun ne4 => ?_
                refine wpS_iteB (fun e => wpS_pure (.inl ⟨_, _, rfl, (((L).pb F (by omega) hq1 (fun j hj => hB1 hp hq1 gk1 j (by omega))).bk F hk2 (by omega) (hA2 F hq2 (by omega) gk4)).fn F (by omega) e, g1⟩)) fun ne4b => ?_
                refine wpS_bind (wpS_elemB ha (by omega) fun q3 hq3 kq3 => ?_)
                refine wpS_iteB (fun e => wpS_pure (.inl ⟨_, _, rfl, ((((L).pb F (by omega) hq1 (fun j hj => hB1 hp hq1 gk1 j (by omega))).bk F hk2 (by omega) (hA2 F hq2 (by omega) gk4)).pa F (by omega) hq3 (fun j hj => hB2 hq2 hq3 gk3 j (by omega))).fz F (by omega) e, g1⟩)) fun ne5 => ?_
                refine wpS_ite (fun _ => wpS_pure (.inr ⟨_, _, _, _, _, _, rfl, ⟨(((L).pb F (by omega) hq1 (fun j hj => hB1 hp hq1 gk1 j (by omega))).bk F hk2 (by omega) (hA2 F hq2 (by omega) gk4)).pa F (by omega) hq3 (fun j hj => hB2 hq2 hq3 gk3 j (by omega)), by omega, by omega, by omega, by omega, by omega⟩, g1⟩)) fun _ => wpS_pure ⟨_, _, _, _, _, _, rfl, ⟨(((L).pb F (by omega) hq1 (fun j hj => hB1 hp hq1 gk1 j (by omega))).bk F hk2 (by omega) (hA2 F hq2 (by omega) gk4)).pa F (by omega) hq3 (fun j hj => hB2 hq2 hq3 gk3 j (by omega)), by omega, by omega, by omega, by omega, by omega⟩, g1⟩
              · refine wpS_bind (wpS_elemB ha (by omega) fun q3 hq3 kq3 => ?_)
                refine wpS_iteB (fun e => wpS_pure (.inl ⟨_, _, rfl, (((L).pb F (by omega) hq1 (fun j hj => hB1 hp hq1 gk1 j (by omega))).pa F (by omega) hq3 (fun j hj => hB2 hq2 hq3 gk3 j (by omega))).fz F (by omega) e, g1⟩)) fun ne5 => ?_
                refine wpS_ite (fun _ => wpS_pure (.inr ⟨_, _, _, _, _, _, rfl, ⟨((L).pb F (by omega) hq1 (fun j hj => hB1 hp hq1 gk1 j (by omega))).pa F (by omega) hq3 (fun j hj => hB2 hq2 hq3 gk3 j (by omega)), by omega, by omega, by omega, by omega, by omega⟩, g1⟩)) fun _ => wpS_pure ⟨_, _, _, _, _, _, rfl, ⟨((L).pb F (by omega) hq1 (fun j hj => hB1 hp hq1 gk1 j (by omega))).pa F (by omega) hq3 (fun j hj => hB2 hq2 hq3 gk3 j (by omega)), by omega, by omega, by omega, by omega, by omega⟩, g1⟩
        · rintro c st3 z; exact .inr z
        · rintro c st3 (⟨r, y, rfl, p, g⟩ | ⟨out, na, nb, mg, ac, bc, rfl, m, g⟩)
          · exact wpS_pure ⟨_, _, rfl, p, g⟩
          · exact wpS_bind (wpS_setMin g fun st4 g4 => wpS_pure ⟨_, _, _, _, rfl, m, g4⟩)
end
end SB
set_option Elab.async false
set_option maxRecDepth 100000
set_option maxHeartbeats 4000000
namespace SB
open PySem PyProof.Rows
section
variable {prog : Program} {w : World} {A : Around} {E : Value → Shared → Prop} {s : Shared} {a0 : Array Keyed}
theorem K_ext {xs : Array Keyed} {i j m : Nat} (hm : i + m < j) (hj : j ≤ xs.size) : K (xs.extract i j) m = K xs (i + m) := by
  have h : (xs.extract i j)[m]? = xs[i + m]? := by
    rw [Array.getElem?_extract, if_pos (by omega)]
  exact K_congr h
theorem K_list (xs : Array Keyed) (i : Nat) : K xs i = ((xs.toList[i]?).map ks).getD 0 := by
  unfold K
  rw [Array.getElem?_toList]
  cases xs[i]? <;> rfl
theorem put_up {xs ys out : Array Keyed} {sa m1 m2 e : Nat} (hl : ys.toList = xs.toList.take m1 ++ out.toList ++ xs.toList.drop m2) (h12 : m1 ≤ m2) (h2 : m2 ≤ xs.size) (ho : out.size = m2 - m1) (hs : Srt out.toList)
    (u1 : Up xs sa m1) (u2 : Up xs m2 e) (c1 : ∀ i, sa ≤ i → i < m1 → ∀ p, p ∈ out.toList → K xs i ≤ ks p) (c2 : ∀ j, m2 ≤ j → j < e → ∀ p, p ∈ out.toList → ks p ≤ K xs j)
    (c3 : ∀ i j, sa ≤ i → i < m1 → m2 ≤ j → j < e → K xs i ≤ K xs j) : Up ys sa e ∧ ∀ k, k < m1 ∨ m2 ≤ k → K ys k = K xs k := by
  have lt : (xs.toList.take m1).length = m1 := by rw [List.length_take, Array.length_toList]; omega
  have lo : out.toList.length = m2 - m1 := by rw [Array.length_toList]; exact ho
  have e1 : ∀ k, k < m1 → K ys k = K xs k := fun k hk => by
    rw [K_list, K_list, hl, List.append_assoc, List.getElem?_append_left (by omega), List.getElem?_take_of_lt hk]
  have e2 : ∀ k, m2 ≤ k → K ys k = K xs k := fun k hk => by
    rw [K_list, K_list, hl, List.getElem?_append_right (by rw [List.length_append]; omega), List.getElem?_drop, List.length_append, lt, lo, show m2 + (k - (m1 + (m2 - m1))) = k by omega]
  have e3 : ∀ k, m1 ≤ k → k < m2 → ∃ h : k - m1 < out.toList.length, K ys k = ks (out.toList[k - m1]) := fun k h3 h4 => by
    refine ⟨by omega, ?_⟩
    rw [K_list, hl, List.append_assoc, List.getElem?_append_right (by omega), lt, List.getElem?_append_left (by omega), List.getElem?_eq_getElem (by omega)]
    rfl
  refine ⟨fun i j h3 h4 h5 => ?_, fun k hk => hk.elim (e1 k) (e2 k)⟩
  by_cases i1 : i < m1
  · rw [e1 i i1]
    by_cases j1 : j < m1
    · rw [e1 j j1]; exact u1 i j h3 h4 j1
    by_cases j2 : j < m2
    · obtain ⟨q, e⟩ := e3 j (by omega) j2
      rw [e]; exact c1 i h3 i1 _ (List.getElem_mem _)
    · rw [e2 j (by omega)]; exact c3 i j h3 i1 (by omega) h5
  by_cases i2 : i < m2
  · obtain ⟨q, e⟩ := e3 i (by omega) i2
    rw [e]
    by_cases j2 : j < m2
    · obtain ⟨q2, e'⟩ := e3 j (by omega) j2
      rw [e']
      by_cases eq : i = j
      · subst eq; exact Int.le_refl _
      · exact List.pairwise_iff_getElem.mp hs _ _ q q2 (by omega)
    · rw [e2 j (by omega)]; exact c2 j (by omega) h5 _ (List.getElem_mem _)
  · rw [e2 i (by omega), e2 j (by omega)]; exact u2 i j (by omega) h4 h5
theorem Up.join {xs : Array Keyed} {i m j : Nat} (h1 : Up xs i m) (h2 : Up xs m j) (c : i < m → m < j → K xs (m - 1) ≤ K xs m) : Up xs i j := fun k n q1 q2 q3 => by
  by_cases n1 : n < m
  · exact h1 k n q1 q2 n1
  by_cases k1 : k < m
  · have z1 := h1 k (m - 1) q1 (by omega) (by omega)
    have z2 := h2 m n (Nat.le_refl _) (by omega) q3
    have z3 := c (by omega) (by omega)
    omega
  · exact h2 k n (by omega) q2 q3
def After (xs : Array Keyed) (sa e : Nat) (st' : SortSt) : Prop := Up (arrOf st') sa e ∧ ∀ k, k < sa ∨ e ≤ k → K (arrOf st') k = K xs k
theorem merged_s {xs : Array Keyed} {sa k sb nb k2 : Nat} {out : Array Keyed} {ys : Array Keyed} {q1 q2 : Keyed} (hz : sb + nb ≤ xs.size) (hk : sa + k < sb) (hk2 : k2 ≤ nb) (h1 : 1 ≤ k2) (U1 : Up xs sa sb) (U2 : Up xs sb (sb + nb))
    (e1 : xs[sb]? = some q1) (e2 : xs[sb - 1]? = some q2) (g1 : ∀ i, i < k → Ahead false q1 (K xs (sa + i))) (g4 : ∀ i, k2 ≤ i → i < nb → ¬ Ahead true q2 (K xs (sb + i)))
    (M : Mg (xs.extract (sa + k) sb) (xs.extract sb (sb + k2)) out) (hl : ys.toList = xs.toList.take (sa + k) ++ out.toList ++ xs.toList.drop (sb + k2)) :
    Up ys sa (sb + nb) ∧ ∀ i, i < sa ∨ sb + nb ≤ i → K ys i = K xs i := by
  have ho : out.size = sb + k2 - (sa + k) := by
    rw [← Array.length_toList, M.1.length_eq, List.length_append, Array.length_toList, Array.length_toList, Array.size_extract, Array.size_extract]; omega
  have mem : ∀ p, p ∈ out.toList → (∃ i, sa + k ≤ i ∧ i < sb ∧ K xs i = ks p) ∨ ∃ i, sb ≤ i ∧ i < sb + k2 ∧ K xs i = ks p := fun p hp => by
    rcases List.mem_append.mp (M.1.mem_iff.mp hp) with z | z
    · obtain ⟨i, i1, i2, _, e⟩ := ext_mem z
      exact .inl ⟨i, i1, i2, e⟩
    · obtain ⟨i, i1, i2, _, e⟩ := ext_mem z
      exact .inr ⟨i, i1, i2, e⟩
  have low : ∀ i, sa ≤ i → i < sa + k → K xs i ≤ K xs sb := fun i h3 h4 => by
    have z : K xs (sa + (i - sa)) ≤ ks q1 := g1 (i - sa) (by omega)
    rwa [show sa + (i - sa) = i by omega, ← K_at e1] at z
  have hig : ∀ j, sb + k2 ≤ j → j < sb + nb → K xs (sb - 1) ≤ K xs j := fun j h3 h4 => by
    have z : ¬ K xs (sb + (j - sb)) < ks q2 := g4 (j - sb) (by omega) (by omega)
    rw [show sb + (j - sb) = j by omega, ← K_at e2] at z
    omega
  have c1 : ∀ i, sa ≤ i → i < sa + k → ∀ p, p ∈ out.toList → K xs i ≤ ks p := fun i h3 h4 p hp => by
    rcases mem p hp with ⟨m, m1, m2, e⟩ | ⟨m, m1, m2, e⟩
    · rw [← e]; exact U1 i m h3 (by omega) m2
    · rw [← e]; exact Int.le_trans (low i h3 h4) (U2 _ _ (by omega) m1 (by omega))
  have c2 : ∀ j, sb + k2 ≤ j → j < sb + nb → ∀ p, p ∈ out.toList → ks p ≤ K xs j := fun j h3 h4 p hp => by
    rcases mem p hp with ⟨m, m1, m2, e⟩ | ⟨m, m1, m2, e⟩
    · rw [← e]; exact Int.le_trans (U1 m (sb - 1) (by omega) (by omega) (by omega)) (hig j h3 h4)
    · rw [← e]; exact U2 m j m1 (by omega) h4
  have c3 : ∀ i j, sa ≤ i → i < sa + k → sb + k2 ≤ j → j < sb + nb → K xs i ≤ K xs j := fun i j h3 h4 h5 h6 => Int.le_trans (low i h3 h4) (U2 sb j (by omega) (by omega) h6)
  obtain ⟨r1, r2⟩ := put_up (xs := xs) (ys := ys) (out := out) (sa := sa) (m1 := sa + k) (m2 := sb + k2) (e := sb + nb) hl (by omega) (by omega) ho M.2 (fun i j a b c => U1 i j a b (by omega)) (fun i j a b c => U2 i j (by omega) b c) c1 c2 c3
  exact ⟨r1, fun i hi => r2 i (by omega)⟩
theorem fit_s {xs : Array Keyed} {sa k sb nb k2 : Nat} {q1 q2 : Keyed} (hz : sb + nb ≤ xs.size) (hk : sa + k < sb) (hk2 : k2 ≤ nb) (h1 : 1 ≤ k2) (U1 : Up xs sa sb) (U2 : Up xs sb (sb + nb))
    (e1 : xs[sb]? = some q1) (e2 : xs[sb - 1]? = some q2) (g2 : ∀ i, k ≤ i → i < sb - sa → ¬ Ahead false q1 (K xs (sa + i))) (g3 : ∀ i, i < k2 → Ahead true q2 (K xs (sb + i))) :
    Fit (xs.extract (sa + k) sb) (xs.extract sb (sb + k2)) := by
  have z1 : (xs.extract (sa + k) sb).size = sb - (sa + k) := by rw [Array.size_extract]; omega
  have z2 : (xs.extract sb (sb + k2)).size = k2 := by rw [Array.size_extract]; omega
  refine ⟨fun i j a b c => ?_, fun i j a b c => ?_, fun j hj => ?_, fun j hj => ?_⟩
  · rw [z1] at c
    rw [K_ext (by omega) (by omega), K_ext (by omega) (by omega)]
    exact U1 _ _ (by omega) (by omega) (by omega)
  · rw [z2] at c
    rw [K_ext (by omega) (by omega), K_ext (by omega) (by omega)]
    exact U2 _ _ (by omega) (by omega) (by omega)
  · rw [z1] at hj
    rw [K_ext (by omega) (by omega), K_ext (by omega) (by omega), Nat.add_zero, K_at e1]
    have z : ¬ K xs (sa + (k + j)) ≤ ks q1 := g2 (k + j) (by omega) (by omega)
    rw [show sa + k + j = sa + (k + j) by omega]
    omega
  · rw [z2] at hj
    rw [z1, K_ext (by omega) (by omega), K_ext (by omega) (by omega), show sa + k + (sb - (sa + k) - 1) = sb - 1 by omega, K_at e2]
    exact Int.le_of_lt (show K xs (sb + j) < ks q2 from g3 j hj)
theorem mergeAt_s {i : Nat} {pe : Array (Nat × Nat × Nat)} {st : SortSt} {Q : Bool → SortSt → Prop} {sa na pw sb nb pw2 : Nat} (h0 : IntKeys a0) (hB : G a0 pe st) (h1 : pe[i]? = some (sa, na, pw)) (h2 : pe[i + 1]? = some (sb, nb, pw2))
    (hs : sb = sa + na) (hn1 : 1 ≤ na) (hn2 : 1 ≤ nb) (hz : sb + nb ≤ a0.size) (U1 : Up (arrOf st) sa (sa + na)) (U2 : Up (arrOf st) sb (sb + nb))
    (h : ∀ st', G a0 ((pe.setIfInBounds i (sa, na + nb, pw)).eraseIdxIfInBounds (i + 1)) st' → After (arrOf st) sa (sb + nb) st' → Q true st') : wpS (model prog w) A E s (mergeAt' i) Q st := by
  show wpS _ _ _ _ (_ >>= _) _ _
  refine wpS_bind (wpS_get ?_)
  have hpe : pendingOf st = pe := hB.2
  have hsz := hB.1.size
  have hk := hB.1.keys h0
  rw [show (sortPriv% PySem.Builtin.SortState.pending) st = pe from hB.2, h1, h2]
  dsimp only
  have hxs : arrOf st = arrOf st := rfl
  have hsz2 : ((sortPriv% PySem.Builtin.SortState.a) st).size = a0.size := hsz
  have hpa : ∀ p, (pe.setIfInBounds i (sa, na + nb, pw)).eraseIdxIfInBounds (i + 1) = p → G a0 p (setPending st p) := fun p _ => ⟨⟨hB.1.perm, hB.1.kind, hB.1.failed⟩, rfl⟩
  generalize hp : (pe.setIfInBounds i (sa, na + nb, pw)).eraseIdxIfInBounds (i + 1) = p at *
  have g1 := hpa p rfl
  refine wpS_bind (wpS_set ?_)
  refine wpS_bind (wpS_elemB hk (by omega) fun q1 hq1 kq1 => ?_)
  refine wpS_bind (gallop_s g1.1.kind kq1 hk (by omega) (by omega) U1 fun k hkn gk1 gk2 => ?_)
  dsimp only
  have hzz : sb + nb ≤ (arrOf st).size := by rw [hsz]; exact hz
  refine wpS_iteB (fun e => wpS_pure (h _ g1 ⟨?_, fun _ _ => rfl⟩)) fun ne1 => ?_
  · refine Up.join (m := sb) (by rw [hs]; exact U1) U2 fun _ _ => ?_
    have z : K (arrOf st) (sa + (na - 1)) ≤ ks q1 := gk1 (na - 1) (by omega)
    rwa [show sa + (na - 1) = sb - 1 by omega, ← K_at hq1] at z
  refine wpS_bind (wpS_elemB hk (by omega) fun q2 hq2 kq2 => ?_)
  have hq2' : (arrOf st)[sb - 1]? = some q2 := by rw [← hq2]; congr 1; omega
  refine wpS_bind (gallop_s g1.1.kind kq2 hk (by omega) (by omega) U2 fun k2 hk2 gk3 gk4 => ?_)
  dsimp only
  have fin : ∀ (out : Array Keyed) (st2 : SortSt), k2 ≠ 0 → GX a0 p (arrOf st) st2 → Mg ((arrOf st).extract (sa + k) sb) ((arrOf st).extract sb (sb + k2)) out →
      Q (failedOf (setArr st2 (out.toList.zipIdx.foldl (fun a (x : Keyed × Nat) => a.setIfInBounds (sa + k + x.2) x.1) (arrOf st2)))).isNone (setArr st2 (out.toList.zipIdx.foldl (fun a (x : Keyed × Nat) => a.setIfInBounds (sa + k + x.2) x.1) (arrOf st2))) := by
    intro out st2 ne2 g2 MM
    have p2 := MM.1
    have hf : failedOf st2 = none := g2.1.1.failed
    have hq : Q (failedOf st2).isNone (setArr st2 (out.toList.zipIdx.foldl (fun a (x : Keyed × Nat) => a.setIfInBounds (sa + k + x.2) x.1) (arrOf st2))) := by
      rw [hf]
      refine h _ ⟨⟨?_, g2.1.1.kind, g2.1.1.failed⟩, g2.1.2⟩ ?_
      case refine_2 =>
        refine merged_s (xs := arrOf st) (sa := sa) (k := k) (sb := sb) (k2 := k2) (out := out) hzz (by omega) hk2 (by omega) (by rw [hs]; exact U1) U2 hq1 hq2' gk1 gk4 MM ?_
        show (out.toList.zipIdx.foldl (fun a (x : Keyed × Nat) => a.setIfInBounds (sa + k + x.2) x.1) (arrOf st2)).toList = _
        rw [g2.2]
        have hlen : out.toList.length = sb + k2 - (sa + k) := by
          rw [p2.length_eq, List.length_append, Array.length_toList, Array.length_toList, Array.size_extract, Array.size_extract]; omega
        have e := put_at out.toList 0 (sa + k) (arrOf st) (by omega)
        rw [e, show sa + k + 0 + out.toList.length = sb + k2 by omega, Nat.add_zero]
      refine Array.Perm.trans ?_ g2.1.1.perm
      show (out.toList.zipIdx.foldl (fun a (x : Keyed × Nat) => a.setIfInBounds (sa + k + x.2) x.1) (arrOf st2)).Perm (arrOf st2)
      rw [g2.2]
      rw [Array.perm_iff_toList_perm]
      have hlen : out.toList.length = sb + k2 - (sa + k) := by
        rw [p2.length_eq, List.length_append, Array.length_toList, Array.length_toList, Array.size_extract, Array.size_extract]; omega
      have e := put_at out.toList 0 (sa + k) (arrOf st) (by omega)
      rw [e]
      rw [ext_list, ext_list] at p2
      have e2 : sa + k + 0 + out.toList.length = sb + k2 := by omega
      rw [e2, Nat.add_zero]
      exact three_perm (by omega) (by omega) p2
    exact hq
  refine wpS_iteB (fun e => wpS_pure (h _ g1 ⟨?_, fun _ _ => rfl⟩)) fun ne2 => ?_
  · refine Up.join (m := sb) (by rw [hs]; exact U1) U2 fun _ _ => ?_
    have z : ¬ K (arrOf st) (sb + 0) < ks q2 := gk4 0 (by omega) (by omega)
    rw [Nat.add_zero, ← K_at hq2'] at z
    exact Int.not_lt.mp z
  have FF : Fit ((arrOf st).extract (sa + k) sb) ((arrOf st).extract sb (sb + k2)) := fit_s (nb := nb) hzz (by omega) hk2 (by omega) (by rw [hs]; exact U1) U2 hq1 hq2' (fun i a b => gk2 i a (by omega)) gk3
  refine wpS_ite (fun _ => ?_) fun _ => ?_
  · refine wpS_bind (mergeLo_s (a0 := a0) (xs := arrOf st) ⟨g1, hxs⟩ (keys_ext hk _ _) (keys_ext hk _ _) (by rw [Array.size_extract]; omega) (by rw [Array.size_extract]; omega) FF fun out st2 g2 p2 => ?_)
    refine wpS_bind (wpS_modify (wpS_bind (wpS_get (wpS_pure ?_))))
    exact fin out st2 ne2 g2 p2
  · refine wpS_bind (mergeHi_s (a0 := a0) (xs := arrOf st) ⟨g1, hxs⟩ (keys_ext hk _ _) (keys_ext hk _ _) (by rw [Array.size_extract]; omega) (by rw [Array.size_extract]; omega) FF fun out st2 g2 p2 => ?_)
    refine wpS_bind (wpS_modify (wpS_bind (wpS_get (wpS_pure ?_))))
    exact fin out st2 ne2 g2 p2
end
end SB
set_option Elab.async false
set_option maxRecDepth 100000
set_option maxHeartbeats 4000000
namespace SB
open PySem PyProof.Rows
section
variable {prog : Program} {w : World} {A : Around} {E : Value → Shared → Prop} {s : Shared} {a0 : Array Keyed}
def SU (xs : Array Keyed) : Nat → List (Nat × Nat × Nat) → Nat → Prop
  | s, [], e => s = e
  | s, (a, n, _) :: r, e => a = s ∧ 1 ≤ n ∧ Up xs s (s + n) ∧ SU xs (s + n) r e
theorem SU.le {xs : Array Keyed} : ∀ {s : Nat} {l : List (Nat × Nat × Nat)} {e : Nat}, SU xs s l e → s + l.length ≤ e
  | _, [], _, h => Nat.le_of_eq h
  | s, (_, n, _) :: r, e, h => by have := SU.le h.2.2.2; simp only [List.length_cons]; have := h.2.1; omega
theorem SU.keep {xs ys : Array Keyed} : ∀ {s : Nat} {l : List (Nat × Nat × Nat)} {e : Nat}, SU xs s l e → (∀ k, s ≤ k → k < e → K ys k = K xs k) → SU ys s l e
  | _, [], _, h, _ => h
  | s, (_, n, _) :: r, e, h, hk => by
    have q := SU.le h.2.2.2
    exact ⟨h.1, h.2.1, h.2.2.1.eqK fun k h1 h2 => hk k h1 (by omega), SU.keep h.2.2.2 fun k h1 h2 => hk k (by omega) h2⟩
theorem SU.at {xs : Array Keyed} : ∀ {s : Nat} {l : List (Nat × Nat × Nat)} {e i : Nat} {x : Nat × Nat × Nat}, SU xs s l e → l[i]? = some x → s ≤ x.1 ∧ 1 ≤ x.2.1 ∧ x.1 + x.2.1 ≤ e ∧ Up xs x.1 (x.1 + x.2.1)
  | _, [], _, _, _, _, h1 => by simp at h1
  | s, (a, n, p) :: r, e, 0, x, h, h1 => by
    simp at h1
    subst h1
    have q := SU.le h.2.2.2
    obtain ⟨rfl, h3, h4, h5⟩ := h
    exact ⟨Nat.le_refl _, h3, by show a + n ≤ e; omega, h4⟩
  | s, (a, n, p) :: r, e, i + 1, x, h, h1 => by
    obtain ⟨q1, q2, q3, q4⟩ := SU.at (i := i) (x := x) h.2.2.2 (by simpa using h1)
    exact ⟨by omega, q2, q3, q4⟩
theorem SU.two {xs ys : Array Keyed} : ∀ {s : Nat} {l : List (Nat × Nat × Nat)} {e i : Nat} {x y : Nat × Nat × Nat}, SU xs s l e → l[i]? = some x → l[i + 1]? = some y →
    y.1 = x.1 + x.2.1 ∧ (Up ys x.1 (y.1 + y.2.1) → (∀ k, k < x.1 ∨ y.1 + y.2.1 ≤ k → K ys k = K xs k) → SU ys s ((l.set i (x.1, x.2.1 + y.2.1, x.2.2)).eraseIdx (i + 1)) e)
  | _, [], _, _, _, _, _, h1, _ => by simp at h1
  | _, [_], _, 0, _, _, _, _, h2 => by simp at h2
  | s, (a, n, p) :: (b, m, q) :: r, e, 0, x, y, h, h1, h2 => by
    simp at h1 h2
    subst h1 h2
    obtain ⟨rfl, h3, h6, rfl, h4, h7, h5⟩ := h
    refine ⟨rfl, fun u hk => ?_⟩
    show SU ys a ((a, n + m, p) :: r) e
    have e1 : a + (n + m) = a + n + m := by omega
    refine ⟨rfl, by omega, ?_, ?_⟩
    · rw [e1]; exact u
    · rw [e1]; exact h5.keep fun k h1 h2 => hk k (.inr h1)
  | s, (a, n, p) :: r, e, i + 1, x, y, h, h1, h2 => by
    obtain ⟨rfl, h3, h6, h5⟩ := h
    obtain ⟨q1, q5⟩ := SU.two (ys := ys) (i := i) (x := x) (y := y) h5 (by simpa using h1) (by simpa using h2)
    have q := SU.at (i := i) (x := x) h5 (by simpa using h1)
    exact ⟨q1, fun u hk => ⟨rfl, h3, h6.eqK fun k h1 h2 => hk k (.inl (by omega)), q5 u hk⟩⟩
theorem SU.mod {xs : Array Keyed} (pw : Nat) : ∀ {s : Nat} {l : List (Nat × Nat × Nat)} {e : Nat} (i : Nat), SU xs s l e → SU xs s (l.modify i fun (st, len, _) => (st, len, pw)) e
  | _, [], _, i, h => by cases i <;> exact h
  | _, (_, _, _) :: _, _, 0, h => h
  | _, (_, _, _) :: _, _, i + 1, h => ⟨h.1, h.2.1, h.2.2.1, SU.mod pw i h.2.2.2⟩
theorem SU.snoc {xs : Array Keyed} (n p : Nat) (hn : 1 ≤ n) : ∀ {s : Nat} {l : List (Nat × Nat × Nat)} {e : Nat}, SU xs s l e → Up xs e (e + n) → SU xs s (l ++ [(e, n, p)]) (e + n)
  | s, [], e, h, u => by
    obtain rfl : s = e := h
    exact ⟨rfl, hn, u, rfl⟩
  | _, (_, _, _) :: _, _, h, u => ⟨h.1, h.2.1, h.2.2.1, SU.snoc n p hn h.2.2.2 u⟩
def GS (a0 : Array Keyed) (e : Nat) (st : SortSt) : Prop := SI a0 st ∧ SU (arrOf st) 0 (pendingOf st).toList e
theorem merge_s {i e : Nat} {st : SortSt} {Q : Bool → SortSt → Prop} (h0 : IntKeys a0) (hB : GS a0 e st) (he : e ≤ a0.size) (hi : i + 1 < (pendingOf st).size)
    (h : ∀ st', GS a0 e st' → (pendingOf st').size + 1 = (pendingOf st).size → (∀ k, e ≤ k → K (arrOf st') k = K (arrOf st) k) → Q true st') : wpS (model prog w) A E s (mergeAt' i) Q st := by
  obtain ⟨⟨sa, na, pw⟩, hx⟩ : ∃ x, (pendingOf st)[i]? = some x := ⟨_, getElem?_pos _ i (by omega)⟩
  obtain ⟨⟨sb, nb, pw2⟩, hy⟩ : ∃ x, (pendingOf st)[i + 1]? = some x := ⟨_, getElem?_pos _ (i + 1) hi⟩
  obtain ⟨x1, x2, x3, x4⟩ := hB.2.at (i := i) (x := (sa, na, pw)) (by simpa using hx)
  obtain ⟨y1, y2, y3, y4⟩ := hB.2.at (i := i + 1) (x := (sb, nb, pw2)) (by simpa using hy)
  have q1 := (hB.2.two (ys := arrOf st) (i := i) (x := (sa, na, pw)) (y := (sb, nb, pw2)) (by simpa using hx) (by simpa using hy)).1
  refine mergeAt_s h0 ⟨hB.1, rfl⟩ hx hy q1 x2 y2 (Nat.le_trans y3 he) x4 y4 fun st' g af => h st' ⟨g.1, ?_⟩ ?_ fun k hk => af.2 k (.inr (Nat.le_trans y3 hk))
  · rw [g.2, Array.toList_eraseIdxIfInBounds, Array.toList_setIfInBounds]
    exact (hB.2.two (ys := arrOf st') (i := i) (x := (sa, na, pw)) (y := (sb, nb, pw2)) (by simpa using hx) (by simpa using hy)).2 af.1 af.2
  · rw [g.2, ← Array.length_toList, Array.toList_eraseIdxIfInBounds, Array.toList_setIfInBounds, List.length_eraseIdx, if_pos (by rw [List.length_set, Array.length_toList]; omega), List.length_set, Array.length_toList]
    omega
theorem runs_s {st : SortSt} {Q : Unit → SortSt → Prop} (h0 : IntKeys a0) (hB : SI a0 st) (hp : pendingOf st = #[]) (h : ∀ st', SI a0 st' → Up (arrOf st') 0 a0.size → Q () st') : wpS (model prog w) A E s sortRuns' Q st := by
  rw [sortRuns'_eq]
  refine wpS_bind (wpS_get ?_)
  dsimp only
  rw [hB.size]
  generalize minRun' a0.size a0.size 0 = mr
  refine wpS_bind (wpS_mono (wpS_forRange (I := fun x c st' => ∃ lo, c = (none, lo) ∧ lo ≤ a0.size ∧ x ≤ lo ∧ GS a0 lo st') (Q := fun c st' => ∃ lo, c = (none, lo) ∧ lo = a0.size ∧ GS a0 lo st') ?step ?fin ⟨0, rfl, by omega, by omega, hB, by rw [hp]; rfl⟩) ?post)
  case fin => rintro c st' ⟨lo, rfl, h1, h2, g⟩; exact ⟨lo, rfl, by omega, g⟩
  case step =>
    rintro x c st1 _ hx ⟨lo, rfl, hlo, hxl, g⟩
    dsimp only
    refine wpS_ite (fun hge => wpS_pure ⟨lo, rfl, by omega, g⟩) fun hlt => ?_
    refine wpS_bind (count_s h0 (by omega) (by omega) (pe := pendingOf st1) (ys := arrOf st1) ⟨⟨g.1, rfl⟩, Low.refl _ _⟩ fun m st2 g2 hm1 hm2 hU => ?_)
    have G2 : GS a0 lo st2 := ⟨g2.1.1, by rw [g2.1.2]; exact g.2.keep fun k _ hk => g2.2 k hk⟩
    dsimp only
    refine wpS_ite (fun hmr => ?_) fun hmr => ?_
    · refine wpS_bind (wpS_lift (wpAny_rule ⟨rfl, ?_⟩))
      refine wpS_bind (bins_s h0 (by omega) (by omega) g2 hU fun st' g3 hU3 => ?_)
      have G3 : GS a0 lo st' := ⟨g3.1.1, by rw [g3.1.2]; exact g.2.keep fun k _ hk => g3.2 k hk⟩
      rw [if_neg (by decide)]
      obtain ⟨nn, hnn⟩ : ∃ nn, nn = min (a0.size - lo) mr := ⟨_, rfl⟩
      rw [← hnn]
      have hn1 : 1 ≤ nn := by omega
      have hn2 : lo + nn ≤ a0.size := by omega
      have hV : Up (arrOf st') lo (lo + nn) := by rw [hnn]; exact hU3
      refine wpS_bind (wpS_get ?_)
      have fin : ∀ st2 : SortSt, GS a0 lo st2 → Up (arrOf st2) lo (lo + nn) → GS a0 (lo + nn) (setPending st2 ((pendingOf st2).push (lo, nn, 0))) := fun st2 g2 u2 => by
        refine ⟨⟨g2.1.perm, g2.1.kind, g2.1.failed⟩, ?_⟩
        show SU (arrOf st2) 0 ((pendingOf st2).push (lo, nn, 0)).toList (lo + nn)
        rw [Array.toList_push]
        exact g2.2.snoc nn 0 hn1 u2
      cases hbk : (pendingOf st').back? with
      | none => exact wpS_bind (wpS_modify (wpS_pure ⟨_, rfl, hn2, by omega, fin _ G3 hV⟩))
      | some t =>
        obtain ⟨s1, n1, p1⟩ := t
        dsimp only
        refine wpS_bind (wpS_mono (wpS_forRange (I := fun _ c st2 => c = (none, ()) ∧ GS a0 lo st2 ∧ Up (arrOf st2) lo (lo + nn)) (Q := fun c st2 => c = (none, ()) ∧ GS a0 lo st2 ∧ Up (arrOf st2) lo (lo + nn)) ?_ ?_ ⟨rfl, G3, hV⟩) ?_)
        · rintro y c st2 _ _ ⟨rfl, g2, u2⟩
          refine wpS_bind (wpS_get ?_)
          by_cases hp1 : (pendingOf st2).size > 1
          · rw [if_pos hp1]
            obtain ⟨⟨a1, a2, older⟩, hx⟩ : ∃ x, (pendingOf st2)[(pendingOf st2).size - 2]? = some x := ⟨_, getElem?_pos _ _ (by omega)⟩
            rw [hx]
            dsimp only
            refine wpS_ite (fun _ => wpS_pure ⟨rfl, g2, u2⟩) fun _ => ?_
            refine wpS_bind (merge_s h0 g2 hlo (by omega) fun st3 g3 _ k3 => ?_)
            exact wpS_pure ⟨rfl, g3, u2.eqK fun k h1 _ => k3 k h1⟩
          · rw [if_neg hp1]
            exact wpS_pure ⟨rfl, g2, u2⟩
        · rintro c st2 z; exact z
        · rintro c st2 ⟨rfl, g2, u2⟩
          refine wpS_bind (wpS_modify (wpS_bind (wpS_modify (wpS_pure ⟨_, rfl, hn2, by omega, fin _ ⟨⟨g2.1.perm, g2.1.kind, g2.1.failed⟩, ?_⟩ u2⟩))))
          show SU (arrOf st2) 0 ((pendingOf st2).modify _ _).toList lo
          rw [Array.toList_modify]
          exact g2.2.mod _ _
    · obtain ⟨nn, hnn⟩ : ∃ nn, nn = m := ⟨_, rfl⟩
      rw [← hnn]
      have hn1 : 1 ≤ nn := by omega
      have hn2 : lo + nn ≤ a0.size := by omega
      obtain ⟨st', hst'⟩ : ∃ st', st' = st2 := ⟨_, rfl⟩
      rw [← hst'] at G2 ⊢
      have hV : Up (arrOf st') lo (lo + nn) := by rw [hnn, hst']; exact hU
      refine wpS_bind (wpS_get ?_)
      have fin : ∀ st2 : SortSt, GS a0 lo st2 → Up (arrOf st2) lo (lo + nn) → GS a0 (lo + nn) (setPending st2 ((pendingOf st2).push (lo, nn, 0))) := fun st2 g2 u2 => by
        refine ⟨⟨g2.1.perm, g2.1.kind, g2.1.failed⟩, ?_⟩
        show SU (arrOf st2) 0 ((pendingOf st2).push (lo, nn, 0)).toList (lo + nn)
        rw [Array.toList_push]
        exact g2.2.snoc nn 0 hn1 u2
      cases hbk : (pendingOf st').back? with
      | none => exact wpS_bind (wpS_modify (wpS_pure ⟨_, rfl, hn2, by omega, fin _ G2 hV⟩))
      | some t =>
        obtain ⟨s1, n1, p1⟩ := t
        dsimp only
        refine wpS_bind (wpS_mono (wpS_forRange (I := fun _ c st2 => c = (none, ()) ∧ GS a0 lo st2 ∧ Up (arrOf st2) lo (lo + nn)) (Q := fun c st2 => c = (none, ()) ∧ GS a0 lo st2 ∧ Up (arrOf st2) lo (lo + nn)) ?_ ?_ ⟨rfl, G2, hV⟩) ?_)
        · rintro y c st2 _ _ ⟨rfl, g2, u2⟩
          refine wpS_bind (wpS_get ?_)
          by_cases hp1 : (pendingOf st2).size > 1
          · rw [if_pos hp1]
            obtain ⟨⟨a1, a2, older⟩, hx⟩ : ∃ x, (pendingOf st2)[(pendingOf st2).size - 2]? = some x := ⟨_, getElem?_pos _ _ (by omega)⟩
            rw [hx]
            dsimp only
            refine wpS_ite (fun _ => wpS_pure ⟨rfl, g2, u2⟩) fun _ => ?_
            refine wpS_bind (merge_s h0 g2 hlo (by omega) fun st3 g3 _ k3 => ?_)
            exact wpS_pure ⟨rfl, g3, u2.eqK fun k h1 _ => k3 k h1⟩
          · rw [if_neg hp1]
            exact wpS_pure ⟨rfl, g2, u2⟩
        · rintro c st2 z; exact z
        · rintro c st2 ⟨rfl, g2, u2⟩
          refine wpS_bind (wpS_modify (wpS_bind (wpS_modify (wpS_pure ⟨_, rfl, hn2, by omega, fin _ ⟨⟨g2.1.perm, g2.1.kind, g2.1.failed⟩, ?_⟩ u2⟩))))
          show SU (arrOf st2) 0 ((pendingOf st2).modify _ _).toList lo
          rw [Array.toList_modify]
          exact g2.2.mod _ _
  case post =>
    rintro c st1 ⟨lo, rfl, hlo, g⟩
    have hlo' := hlo
    have hln : (pendingOf st1).size ≤ a0.size := by have := g.2.le; rw [Array.length_toList] at this; omega
    dsimp only
    refine wpS_bind (wpS_mono (wpS_forRange (I := fun x c st2 => c = (none, ()) ∧ GS a0 lo st2 ∧ (pendingOf st2).size + x ≤ a0.size + 1) (Q := fun c st2 => c = (none, ()) ∧ GS a0 lo st2 ∧ (pendingOf st2).size ≤ 1) ?_ ?_ ⟨rfl, g, by omega⟩) ?_)
    · rintro y c st2 _ _ ⟨rfl, g2, n2⟩
      refine wpS_bind (wpS_get ?_)
      refine wpS_ite (fun h1 => wpS_pure ⟨rfl, g2, h1⟩) fun hsz => ?_
      refine wpS_bind (merge_s h0 g2 (by omega) (ite_lt2 (by omega) (by omega)) fun st3 g3 e3 _ => ?_)
      exact wpS_pure ⟨rfl, g3, by omega⟩
    · rintro c st2 ⟨rfl, g2, n2⟩; exact ⟨rfl, g2, by omega⟩
    · rintro c st2 ⟨rfl, g2, n2⟩
      refine wpS_pure (h _ g2.1 ?_)
      have q := g2.2
      rw [← Array.length_toList] at n2
      rw [← hlo]
      match hl : (pendingOf st2).toList with
      | [] =>
        rw [hl] at q
        obtain rfl : 0 = lo := q
        exact fun k m h1 h2 h3 => by omega
      | [(x, n, p)] =>
        rw [hl] at q
        obtain ⟨rfl, h3, h4, h5⟩ := q
        obtain rfl : 0 + n = lo := h5
        exact h4
      | _ :: _ :: _ =>
        rw [hl] at n2
        simp only [List.length_cons] at n2
        omega
theorem sort_s {a : Addr} {vs : List Value} {ns : List Int} {n : Nat} {P : PySem.Fin → Shared → Prop} (ho : s.heap.get? a = some (seqObj "list" vs.toArray n))
    (hI : IntsAre vs ns) (h64 : vs.length ≤ 1000)
    (h : ∀ (out : Array Value) (ns' : List Int), IntsAre out.toList ns' → ns'.Perm ns → ns'.Pairwise (· ≤ ·) → P (.done (.ret .none)) { s with heap := sortedHeap s.heap a vs out }) :
    wpAny (model prog w) A (Builtin.«list.sort» ⟨[.ref a], []⟩) P E s := by
  rw [list_sort_plain]
  have ha : a < s.heap.objs.size := Heap.lt_size ho
  refine wpAny_bind (listItems_at ho rfl ?_)
  refine wpAny_bind (listUpdate_at ho rfl ?_ (by rw [sizeLine_eq]; simp; omega) (by simp))
  obtain ⟨e1, ho1⟩ : ∃ e1, (s.heap.update a (Obj.mapSeq fun _ => #[])).get? a = some (seqObj "list" #[] e1) := ⟨_, get?_update_seq ho (fun _ => #[])⟩
  refine wpAny_bind (seqEpoch_at ho1 rfl ?_)
  refine wpAny_bind (wpAny_newTuple ?_ (by rw [sizeLine_eq]; simp; omega))
  refine wpAny_bind (wpAny_newList ?_)
  refine wpAny_holding ?_
  have ho6 : (((s.heap.update a (Obj.mapSeq fun _ => #[])).push (seqObj "tuple" vs.toArray 0)).push (seqObj "list" #[] 0)).get? a = some (seqObj "list" #[] e1) := by
    rw [Heap.get?_push_ne _ _ _ (by rw [size_push', Heap.size_update]; exact Nat.ne_of_lt (Nat.lt_succ_of_lt ha)), Heap.get?_push_ne _ _ _ (by rw [Heap.size_update]; exact Nat.ne_of_lt ha)]
    exact ho1
  show wpAny (model prog w) A _ P E { s with heap := ((s.heap.update a (Obj.mapSeq fun _ => #[])).push (seqObj "tuple" vs.toArray 0)).push (seqObj "list" #[] 0) }
  dsimp only
  have hsz : vs.toArray.size = vs.length := by simp
  have fin : ∀ st' : SortSt, (arrOf st').Perm (pairsOf vs) → Up (arrOf st') 0 (pairsOf vs).size → P (.done (.ret .none)) { s with heap := sortedHeap s.heap a vs ((arrOf st').map (·.2)) } := by
    intro st' hp hu
    obtain ⟨ns', h1, h2, h3⟩ := sorted_out hI hp fun i j q1 q2 => hu i j (Nat.zero_le _) q1 q2
    exact h _ ns' h1 h2 h3
  by_cases h2 : vs.toArray.size < 2
  · rw [if_pos h2, if_pos h2]
    refine wpAny_bind (wpAny_pure ?_)
    rw [StateT.run_pure]
    refine wpAny_bind (wpAny_pure ?_)
    dsimp only
    refine wpAny_bind (seqEpoch_at ho6 rfl ?_)
    refine wpAny_bind (listUpdate_at ho6 rfl ?_ (hsz2 := by rw [Array.size_map]; show (pairsOf vs).size ≤ _; rw [pairsOf_size, sizeLine_eq]; omega))
    simp only [bne_self_eq_false, Bool.false_eq_true, if_false]
    exact wpAny_pure (fin (SortSt.mk' general' (vs.toArray.zip vs.toArray) #[] 7 none) (Array.Perm.refl _) fun i j _ q1 q2 => by
      rw [pairsOf_size] at q2
      obtain rfl : i = j := by omega
      exact Int.le_refl _)
  · rw [if_neg h2, if_neg h2]
    obtain ⟨v₁, v₂, rest, rfl⟩ : ∃ v₁ v₂ rest, vs = v₁ :: v₂ :: rest := by
      match vs, hsz, h2 with
      | [], _, h2 => simp at h2
      | [_], _, h2 => simp at h2
      | v₁ :: v₂ :: rest, _, _ => exact ⟨v₁, v₂, rest, rfl⟩
    rw [keyKind_ints hI]
    refine wpAny_bind (wpAny_pure ?_)
    refine wpAny_bind (wpAny_mono (runs_s (a0 := pairsOf (v₁ :: v₂ :: rest)) (st := SortSt.mk' oneType' ((v₁ :: v₂ :: rest).toArray.zip (v₁ :: v₂ :: rest).toArray) #[] 7 none)
      (Q := fun _ st' => SI (pairsOf (v₁ :: v₂ :: rest)) st' ∧ Up (arrOf st') 0 (pairsOf (v₁ :: v₂ :: rest)).size)
      hI.intKeys ⟨Array.Perm.refl _, rfl, rfl⟩ rfl fun st' a1 a2 => ⟨a1, a2⟩) ?_ fun _ _ e => e)
    rintro ⟨⟨⟩, st'⟩ s' ⟨rfl, hS, hS2⟩
    have hp := hS.perm
    have hf := hS.failed
    dsimp only
    refine wpAny_bind (seqEpoch_at ho6 rfl ?_)
    refine wpAny_bind (listUpdate_at ho6 rfl ?_ (hsz2 := by refine Nat.le_trans (Nat.le_of_eq ((Array.size_map ..).trans (hp.size_eq.trans (pairsOf_size _)))) ?_; rw [sizeLine_eq]; omega))
    rw [hf]
    simp only [bne_self_eq_false, Bool.false_eq_true, if_false]
    exact wpAny_pure (fin st' hp hS2)
theorem sorted_s {l : Addr} {vs : List Value} {ns : List Int} {Q : Value → Shared → Prop} (hl : s.heap.IsList l vs.toArray) (hI : IntsAre vs ns) (h64 : vs.length ≤ 1000)
    (h : ∀ (out : Array Value) (ns' : List Int), IntsAre out.toList ns' → ns'.Perm ns → ns'.Pairwise (· ≤ ·) → Q (.ref (s.heap.objs.size + 1)) { s with heap := sortedAll s.heap vs out }) :
    wpAny (model prog w) A (call (.builtin "sorted") [.ref l]) Q E s := by
  refine Calls.call_function_entry kind_sorted plain_sorted entry_sorted (args_sorted1 _) ?_
  unfold Builtin.«sorted»
  refine wpAny_bind (m := checkCount "sorted" 1 1 _) (wpAny_pure ?_)
  refine wpAny_bind (collect_list hl ?_ (by rw [sizeLine_eq]; omega))
  refine wpAny_bind (wpAny_newList ?_ (by rw [sizeLine_eq]; omega))
  have hsz : ((s.heap.push (seqObj "list" #[] 0)).update s.heap.objs.size (Obj.mapSeq (· ++ vs.toArray))).objs.size = s.heap.objs.size + 1 := by
    rw [Heap.size_update, size_push']
  have hoL : (((s.heap.push (seqObj "list" #[] 0)).update s.heap.objs.size (Obj.mapSeq (· ++ vs.toArray))).push (seqObj "list" vs.toArray 0)).get? (s.heap.objs.size + 1) = some (seqObj "list" vs.toArray 0) := by
    rw [← hsz]; exact Heap.get?_push_size _ rfl
  show wpAny _ _ _ _ _ { s with heap := ((s.heap.push (seqObj "list" #[] 0)).update s.heap.objs.size (Obj.mapSeq (· ++ vs.toArray))).push (seqObj "list" vs.toArray 0) }
  rw [hsz]
  refine wpAny_bind (wpAny_holding (wpAny_call_entry slot_list_sort ⟨_, hoL, rfl⟩ entry_list_sort (sort_s hoL hI h64 fun out ns' a1 a2 a3 => ⟨_, rfl, ?_⟩) (args_list_sort _)))
  exact wpAny_pure ⟨_, rfl, h out ns' a1 a2 a3⟩
end
end SB
set_option Elab.async false
set_option maxRecDepth 100000
set_option maxHeartbeats 4000000
namespace L2
open PySem PySem.Spec PyProof.Rows
section
variable {X : Cx}
theorem log2_small {y : Int} (h0 : 0 < y) (h : y < 2 ^ 200) : y.natAbs.log2 < 9000 := by
  have h1 : y.natAbs ≠ 0 := by omega
  have h2 : y.natAbs.log2 < 200 := (Nat.log2_lt h1).mpr (by omega)
  omega
theorem op_fdivL : OpR X (binaryOp .FloorDiv) (rI (fun _ j => 0 < j ∧ j < 2 ^ 200) fun i j => .int (i / j)) := opI fun i j _ _ _ _ _ hc q => by
  refine floordiv_int (by omega) ?_ (.inl (PyProof.noPylong_of_log2 (log2_small hc.1 hc.2)))
  rw [Int.fdiv_eq_ediv_of_nonneg i (by omega)]
  exact q
theorem call_sum (hc : X.calm = true) : CallR X (.builtin "sum") (fun xs H Q => ∃ (p : Addr) (ns : List Int), xs = [.ref p] ∧ SqL X.K H p (ns.map V.int) ∧ Q (.int ns.sum) H) := by
  intro pins s σ H xs us Q I r h
  obtain ⟨p, ns, rfl, hq, q⟩ := h
  obtain ⟨u, rfl, rx⟩ := vals1 r
  cases rx
  obtain ⟨its, r', pl, hz⟩ := I.list hq
  have hi := intsAre_of r'
  obtain ⟨xs, e⟩ := hi.allInts.items
  have hns : ns = xs.toList.map (·.1) := by rw [← hi.numsOf, ← nums_intItems, ← e]
  have hl := pl.isList
  rw [e] at hl
  refine sum_intListG (I.ok.hd hc) hl fun h' tk t' hk => ⟨.int ns.sum, H, I.kept hk, ⟨t', ?_⟩, q⟩
  rw [preSum_eq, List.take_of_length_le (by simp), hns]
theorem call_max (hc : X.calm = true) : CallR X (.builtin "max") (fun xs H Q => ∃ (p : Addr) (ns : List Int), xs = [.ref p] ∧ SqL X.K H p (ns.map V.int) ∧ ns ≠ [] ∧ ∀ M, M ∈ ns → (∀ a, a ∈ ns → a ≤ M) → Q (.int M) H) := by
  intro pins s σ H xs us Q I r h
  obtain ⟨p, ns, rfl, hq, hne, q⟩ := h
  obtain ⟨u, rfl, rx⟩ := vals1 r
  cases rx
  obtain ⟨its, r', pl, hz⟩ := I.list hq
  have hi := intsAre_of r'
  obtain ⟨xs, e⟩ := hi.allInts.items
  have hns : ns = xs.toList.map (·.1) := by rw [← hi.numsOf, ← nums_intItems, ← e]
  have hl := pl.isList
  rw [e] at hl
  have hsz : 0 < xs.size := by
    have h3 := List.length_pos_iff.mpr hne; rw [hns, List.length_map, Array.length_toList] at h3; exact h3
  refine max_intList (I.ok.hd hc) hl hsz fun v h' tk hv hk => ?_
  obtain ⟨t, rfl⟩ := intItems_at hv
  obtain ⟨h1, h2⟩ := argBest_gt (numAt xs) (xs.size - 1)
  refine ⟨.int _, H, I.kept hk, ⟨t, rfl⟩, q _ ?_ fun a ha => ?_⟩
  · rw [hns, numAt_eq]; exact getD_mem (by rw [List.length_map, Array.length_toList]; omega)
  · rw [hns] at ha
    obtain ⟨j, hj, rfl⟩ := mem_getD ha
    rw [List.length_map, Array.length_toList] at hj
    rw [← numAt_eq]; exact h2 j (by omega)
theorem call_min (hc : X.calm = true) : CallR X (.builtin "min") (fun xs H Q => ∃ (p : Addr) (ns : List Int), xs = [.ref p] ∧ SqL X.K H p (ns.map V.int) ∧ ns ≠ [] ∧ ∀ M, M ∈ ns → (∀ a, a ∈ ns → M ≤ a) → Q (.int M) H) := by
  intro pins s σ H xs us Q I r h
  obtain ⟨p, ns, rfl, hq, hne, q⟩ := h
  obtain ⟨u, rfl, rx⟩ := vals1 r
  cases rx
  obtain ⟨its, r', pl, hz⟩ := I.list hq
  have hi := intsAre_of r'
  obtain ⟨xs, e⟩ := hi.allInts.items
  have hns : ns = xs.toList.map (·.1) := by rw [← hi.numsOf, ← nums_intItems, ← e]
  have hl := pl.isList
  rw [e] at hl
  have hsz : 0 < xs.size := by
    have h3 := List.length_pos_iff.mpr hne; rw [hns, List.length_map, Array.length_toList] at h3; exact h3
  refine min_intList (I.ok.hd hc) hl hsz fun v h' tk hv hk => ?_
  obtain ⟨t, rfl⟩ := intItems_at hv
  obtain ⟨h1, h2⟩ := argBest_lt (numAt xs) (xs.size - 1)
  refine ⟨.int _, H, I.kept hk, ⟨t, rfl⟩, q _ ?_ fun a ha => ?_⟩
  · rw [hns, numAt_eq]; exact getD_mem (by rw [List.length_map, Array.length_toList]; omega)
  · rw [hns] at ha
    obtain ⟨j, hj, rfl⟩ := mem_getD ha
    rw [List.length_map, Array.length_toList] at hj
    rw [← numAt_eq]; exact h2 j (by omega)
theorem call_sorted : CallR X (.builtin "sorted") (fun xs H Q => ∃ (p : Addr) (ns : List Int), xs = [.ref p] ∧ SqL X.K H p (ns.map V.int) ∧ ns.length ≤ 1000 ∧ ∀ (l : Addr) (ns' : List Int), H l = none → ns'.Perm ns → ns'.Pairwise (· ≤ ·) → Q (.ref l) (upd H l (.lst (ns'.map V.int)))) := by
  intro pins s σ H xs us Q I r h
  obtain ⟨p, ns, rfl, hq, hle, q⟩ := h
  obtain ⟨u, rfl, rx⟩ := vals1 r
  cases rx
  obtain ⟨its, r', pl, hz⟩ := I.list hq
  have hi := intsAre_of r'
  have hlen := r'.length
  rw [List.length_map] at hlen
  refine SB.sorted_s pl.isList hi (by omega) fun out ns' a1 a2 a3 => ?_
  obtain ⟨e, he⟩ := sortedAll_at s.heap its out
  have hn : H (s.heap.objs.size + 1) = none := I.hok.fresh (Nat.le_succ _)
  refine ⟨.ref (s.heap.objs.size + 1), _, ?_, rfl, q _ ns' hn a2 a3⟩
  refine I.laid (t' := s.toks) (fun _ _ => sortedAll_old) (Nat.le_succ _) (show ObjOk X.prog X.w _ _ _ (.lst _) from ⟨?_, out.toList, e, vals_ints a1, he⟩)
  rw [List.length_map, a2.length_eq, sizeLine_eq]; omega
def RV : Nat → Hp → V → PyData → Prop
  | _, _, .non, d => d = .none
  | _, _, .bl b, d => d = .bool b
  | _, _, .int i, d => d = .int i
  | _, _, .str x, d => d = .str x
  | n + 1, H, .ref a, d => (∃ xs ds, Rd H a (.lst xs) ∧ d = .list ds ∧ Paired (RV n H) xs ds) ∨ ∃ xs ds, Rd H a (.tup xs) ∧ d = .tuple ds ∧ Paired (RV n H) xs ds
  | _, _, _, _ => False
structure Shw (d : PyData) : Prop where
  sh : d.showable = true
  nd : d.hasDict = false
  dp : d.depth ≤ 30
  sz : d.shown.length ≤ sizeLine
end
end L2
set_option Elab.async false
set_option maxRecDepth 100000
set_option maxHeartbeats 4000000
namespace L2
open PySem PySem.Spec PyProof.Rows
abbrev cxComp (X : Cx) (pins : List (Addr × Obj)) (N' : List Str) (scope : Scope) (cl : List (Str × Addr)) (C : Addr) (s0 : Shared) (H0 : Hp) (fp : List Addr) : Cx :=
  { X with N := N', s₀ := s0, H₀ := H0, env := compEnvC scope cl C X.env, outer := X.stack, ex := fp, fn := fun _ => false, pn := X.pn ++ pins, xe := fun _ _ => False }
theorem find_names {k : NameKind} : ∀ {names : List (Str × NameKind)} {x : Str}, names.lookup x = some k → (x, k) ∈ names
  | (n, j) :: r, x, h => by
    rw [List.lookup_cons] at h
    cases e : x == n with
    | true =>
      rw [e] at h
      cases h
      rw [eq_of_beq e]
      exact List.mem_cons_self
    | false =>
      rw [e] at h
      exact List.mem_cons_of_mem _ (find_names h)
structure Clo (scope : Scope) (env : Env) (cl : List (Str × Addr)) : Prop where
  eq : closureFor scope env = pure cl
  sub : ∀ x c, cl.lookup x = some c → env.cells.lookup x = some c
  has : ∀ x, (x, NameKind.free) ∈ scope.names → ∃ c, cl.lookup x = some c
theorem clo_go {env : Env} : ∀ (names : List (Str × NameKind)) (acc : List (Str × Addr)), (∀ x, (x, NameKind.free) ∈ names → ∃ c, env.cells.lookup x = some c) → (∀ x c, acc.lookup x = some c → env.cells.lookup x = some c) →
    ∃ cl, (forIn names acc fun (y : Str × NameKind) cs => (if y.2 == NameKind.free then do let c ← cellOf env y.1; pure (ForInStep.yield ((y.1, c) :: cs)) else pure (ForInStep.yield cs) : Sem (ForInStep (List (Str × Addr))))) = pure cl ∧
      (∀ x c, cl.lookup x = some c → env.cells.lookup x = some c) ∧ (∀ x, (x, NameKind.free) ∈ names → ∃ c, cl.lookup x = some c) ∧ ∀ x, (∃ c, acc.lookup x = some c) → ∃ c, cl.lookup x = some c
  | [], acc, _, hs => ⟨acc, rfl, hs, fun _ h => by simp at h, fun _ h => h⟩
  | (n, k) :: r, acc, hh, hs => by
    by_cases hk : k = NameKind.free
    · subst hk
      obtain ⟨c, hc⟩ := hh n List.mem_cons_self
      obtain ⟨cl, e, h1, h2, h3⟩ := clo_go r ((n, c) :: acc) (fun x hx => hh x (List.mem_cons_of_mem _ hx)) (fun x c' hx => by
        rw [List.lookup_cons] at hx
        cases en : x == n with
        | true => rw [en] at hx; cases hx; rw [eq_of_beq en]; exact hc
        | false => rw [en] at hx; exact hs x c' hx)
      refine ⟨cl, ?_, h1, fun x hx => ?_, fun x ⟨c', hx⟩ => ?_⟩
      · rw [List.forIn_cons]
        have ec : cellOf env n = pure c := by unfold cellOf; rw [hc]
        simp only [beq_self_eq_true, if_true, ec, pure_bind]
        exact e
      · rcases List.mem_cons.mp hx with hx | hx
        · cases hx
          exact h3 n ⟨c, by rw [List.lookup_cons]; simp⟩
        · exact h2 x hx
      · refine h3 x ?_
        cases en : x == n with
        | true => exact ⟨c, by rw [List.lookup_cons, en]⟩
        | false => exact ⟨c', by rw [List.lookup_cons, en]; exact hx⟩
    · obtain ⟨cl, e, h1, h2, h3⟩ := clo_go r acc (fun x hx => hh x (List.mem_cons_of_mem _ hx)) hs
      refine ⟨cl, ?_, h1, fun x hx => ?_, h3⟩
      · rw [List.forIn_cons]
        have hb : (k == NameKind.free) = false := by simpa using hk
        simp only [hb, Bool.false_eq_true, if_false, pure_bind]
        exact e
      · rcases List.mem_cons.mp hx with hx | hx
        · cases hx; exact absurd rfl hk
        · exact h2 x hx
theorem clo_mk {scope : Scope} {env : Env} (h : ∀ x, (x, NameKind.free) ∈ scope.names → ∃ c, env.cells.lookup x = some c) : ∃ cl, Clo scope env cl := by
  obtain ⟨cl, e, h1, h2, _⟩ := clo_go (env := env) scope.names [] h (fun x c hx => by simp at hx)
  exact ⟨cl, by unfold closureFor; exact (by simpa using e), h1, h2⟩
def capOk (N' : List Str) (caps : List (Option Nat)) (N : List Str) (names names' : List (Str × NameKind)) : Bool :=
  (N'.length == caps.length) && (N'.zip caps).all (fun p => match p.2 with
    | none => true
    | some j => N[j]? == some p.1 && names'.lookup p.1 == some .free) &&
  names'.all (fun p => p.2 != NameKind.cell && (p.2 != NameKind.free || names.lookup p.1 == some .cell || names.lookup p.1 == some .free) && (p.2 != NameKind.local || names'.lookup p.1 == some .local))
def capSt (caps : List (Option Nat)) (σ : St) : St := caps.map fun o => match o with
  | none => none
  | some j => (σ[j]?).join
theorem relabel_free {env : Env} : ∀ {names : List (Str × NameKind)} {x : Str}, names.lookup x = some .free →
    (names.map fun (n, k) => if (k == NameKind.free && env.scope.kind == .function && env.kindOf n == some .cell) then (n, NameKind.cell) else (n, k)).lookup x = some .cell ∨
    (names.map fun (n, k) => if (k == NameKind.free && env.scope.kind == .function && env.kindOf n == some .cell) then (n, NameKind.cell) else (n, k)).lookup x = some .free
  | (n, k) :: r, x, h => by
    have ih := @relabel_free env r x
    show List.lookup x ((if (k == NameKind.free && env.scope.kind == .function && env.kindOf n == some .cell) = true then (n, NameKind.cell) else (n, k)) :: _) = _ ∨
      List.lookup x ((if (k == NameKind.free && env.scope.kind == .function && env.kindOf n == some .cell) = true then (n, NameKind.cell) else (n, k)) :: _) = _
    cases hx : x == n with
    | true =>
      simp only [List.lookup_cons, hx] at h
      cases h
      by_cases hc : (NameKind.free == NameKind.free && env.scope.kind == .function && env.kindOf n == some .cell) = true
      · rw [if_pos hc]; simp [List.lookup_cons, hx]
      · rw [if_neg hc]; simp [List.lookup_cons, hx]
    | false =>
      simp only [List.lookup_cons, hx] at h
      by_cases hc : (k == NameKind.free && env.scope.kind == .function && env.kindOf n == some .cell) = true
      · rw [if_pos hc]; simp only [List.lookup_cons, hx]; exact ih h
      · rw [if_neg hc]; simp only [List.lookup_cons, hx]; exact ih h
theorem relabel_back {env : Env} : ∀ {names : List (Str × NameKind)} {x : Str}, (∀ p ∈ names, p.2 ≠ .cell) →
    ((names.map fun (n, k) => if (k == NameKind.free && env.scope.kind == .function && env.kindOf n == some .cell) then (n, NameKind.cell) else (n, k)).lookup x = some .cell ∨
     (names.map fun (n, k) => if (k == NameKind.free && env.scope.kind == .function && env.kindOf n == some .cell) then (n, NameKind.cell) else (n, k)).lookup x = some .free) → (x, NameKind.free) ∈ names
  | [], x, _, h => by simp at h
  | (n, k) :: r, x, hc0, h => by
    have ih := @relabel_back env r x (fun p hp => hc0 p (List.mem_cons_of_mem _ hp))
    have hk0 : k ≠ .cell := hc0 (n, k) List.mem_cons_self
    rw [List.map_cons] at h
    generalize (r.map fun (x : Str × NameKind) => match x with | (n, k) => if (k == NameKind.free && env.scope.kind == ScopeKind.function && env.kindOf n == some NameKind.cell) = true then (n, NameKind.cell) else (n, k)) = R at h ih
    dsimp only at h
    by_cases hc : (k == NameKind.free && env.scope.kind == .function && env.kindOf n == some .cell) = true
    · rw [if_pos hc] at h
      cases hx : x == n with
      | true =>
        have hkf : k = .free := by
          rw [Bool.and_eq_true, Bool.and_eq_true] at hc
          exact eq_of_beq hc.1.1
        rw [eq_of_beq hx, hkf]; exact List.mem_cons_self
      | false =>
        rw [List.lookup_cons, hx] at h
        exact List.mem_cons_of_mem _ (ih h)
    · rw [if_neg hc] at h
      cases hx : x == n with
      | true =>
        rw [List.lookup_cons, hx] at h
        rcases h with h | h
        · exact absurd (Option.some.inj h) hk0
        · rw [eq_of_beq hx, Option.some.inj h]; exact List.mem_cons_self
      | false =>
        rw [List.lookup_cons, hx] at h
        exact List.mem_cons_of_mem _ (ih h)
section
variable {X : Cx} {pins : List (Addr × Obj)} {σ : St} {H : Hp} {s : Shared}
theorem comp_start {N' : List Str} {caps : List (Option Nat)} {scope : Scope} {cl : List (Str × Addr)} {fp : List Addr} {h1 : Heap} {tk : Nat} (I : Inv X pins σ H s) (hfp : ∀ b ∈ fp, FpOk X pins H b) (hfo : ∀ b ∈ fp, ∃ o, s.heap.get? b = some o)
    (hcap : capOk N' caps X.N X.env.scope.names scope.names = true) (hkind : scope.kind = .function) (hC : Clo scope X.env cl)
    (hns : h1.Ns (s.heap.objs.size + 1) fun _ => none) (hsb : Heap.SameBut (s.heap.objs.size + 1) ((s.heap.push { cls := .type "list", data := .seq #[] }).push { cls := .type "dict", data := .dict #[] }) h1) :
    Inv (cxComp X pins N' scope cl (s.heap.objs.size + 1) { s with heap := s.heap.push { cls := .type "list", data := .seq #[] } } (upd H s.heap.objs.size (.lst [])) fp) [] (capSt caps σ) (upd H s.heap.objs.size (.lst [])) { s with heap := h1, toks := tk } := by
  have hn : H s.heap.objs.size = none := I.hok.fresh (Nat.le_refl _)
  have hz : (s.heap.push { cls := .type "list", data := .seq #[] }).objs.size = s.heap.objs.size + 1 := Heap.size_push ..
  have up1 : ∀ b o, s.heap.get? b = some o → (s.heap.push { cls := .type "list", data := .seq #[] }).get? b = some o := fun b o e => Heap.get?_push_of_some _ e
  have up2 : ∀ b o, (s.heap.push { cls := .type "list", data := .seq #[] }).get? b = some o → h1.get? b = some o := fun b o e => by
    have hb : b < s.heap.objs.size + 1 := by rw [← hz]; exact Heap.lt_size e
    exact hsb.extBut b o (Nat.ne_of_lt hb) (Heap.get?_push_of_some _ e)
  have I1 : Inv X pins σ (upd H s.heap.objs.size (.lst [])) { s with heap := s.heap.push { cls := .type "list", data := .seq #[] }, toks := s.toks } :=
    I.laid (t' := s.toks) up1 (Nat.le_refl _) (show ObjOk X.prog X.w _ _ _ (.lst []) from ⟨Nat.zero_le _, [], 0, .nil, Heap.get?_push_size _ rfl⟩)
  obtain ⟨hcap1, hcap3⟩ := Bool.and_eq_true_iff.mp hcap
  obtain ⟨hcap1, hcap2⟩ := Bool.and_eq_true_iff.mp hcap1
  have hlen : N'.length = caps.length := by simpa using hcap1
  have hcap3' := List.all_eq_true.mp hcap3
  have nocell : ∀ p ∈ scope.names, p.2 ≠ NameKind.cell := fun p hp => by
    have := hcap3' p hp
    simp only [Bool.and_eq_true, bne_iff_ne] at this
    exact this.1.1
  have hsub := I.stkSub
  have ltS : ∀ b o, s.heap.get? b = some o → b < s.heap.objs.size := fun b o e => Heap.lt_size e
  refine ⟨⟨I.ok.mod, hkind, I.ok.glob, I.ok.blt, Nat.le_of_eq hz, fun x y c e1 e2 => I.ok.inj x y c (hC.sub x c e1) (hC.sub y c e2), fun x hx => ?_, fun x c hf => absurd (show false = true from hf) Bool.false_ne_true, I.ok.hd, I.ok.frames, .inl rfl, fun b hb => ?_, fun b o e => ?_, ?_, fun b o e hb => ?_, fun b hb hf => ?_, ?_, fun b hb => ?_⟩,
    rfl, I.bare, Un.kept up2, ⟨_, hns, fun i x v e1 e2 e3 => ?_⟩, fun x c e => ?_, ?_, fun x c e => ?_, fun p hp => ?_, I1.hok.kept up2, ?_⟩
  · exact hC.has x (relabel_back nocell hx)
  · obtain ⟨o, ho⟩ := hfo b hb
    obtain ⟨f0, f1, f2, f3, f4, f5⟩ := hfp b hb
    exact ⟨Nat.ne_of_lt (Nat.lt_succ_of_lt (ltS b o ho)), fun x c e => f4 x c (hC.sub x c e)⟩
  · have q := I1.bs b o e
    exact q
  · show X.base.objs.size ≤ (s.heap.push _).objs.size
    rw [hz]
    exact Nat.le_trans (Nat.le_trans I.ok.bsz I.sz) (Nat.le_succ _)
  · obtain ⟨f0, f1, f2, f3, f4, f5⟩ := hfp b hb
    rcases f3 with f3 | f3
    · exact I.ok.noex b o e f3
    · exact absurd (Nat.lt_of_lt_of_le (Heap.lt_size e) (Nat.le_trans I.ok.bsz f3)) (Nat.lt_irrefl _)
  · obtain ⟨f0, f1, f2, f3, f4, f5⟩ := hfp b hb
    rcases List.mem_cons.mp (hsub b hf) with z | z
    · exact f1 z
    · exact f2 z
  · exact I1.stack
  · exact I1.stkFree b hb
  · -- the captured names
    have e2' : ∃ o, caps[i]? = some o ∧ (match o with | none => none | some j => (σ[j]?).join) = some v := by
      unfold capSt at e2
      rw [List.getElem?_map] at e2
      cases q : caps[i]? with
      | none => rw [q] at e2; cases e2
      | some o => rw [q] at e2; exact ⟨o, rfl, Option.some.inj e2⟩
    obtain ⟨o, ho, hv⟩ := e2'
    cases o with
    | none => cases hv
    | some j =>
      have hv' : (σ[j]?).join = some v := hv
      have hσ : σ[j]? = some (some v) := by
        cases q : σ[j]? with
        | none => rw [q] at hv'; cases hv'
        | some w => rw [q] at hv'; rw [show w = some v from hv']
      have hzip : (x, some j) ∈ N'.zip caps := by
        refine List.mem_iff_getElem?.mpr ⟨i, ?_⟩
        rw [List.getElem?_zip_eq_some]
        exact ⟨e1, ho⟩
      have q := List.all_eq_true.mp hcap2 _ hzip
      simp only [Bool.and_eq_true, beq_iff_eq] at q
      obtain ⟨q1, q2⟩ := q
      have q3 := hcap3' _ (find_names q2)
      have q4 : X.env.scope.names.lookup x = some .cell ∨ X.env.scope.names.lookup x = some .free := by
        simp only [bne_self_eq_false, Bool.false_or, Bool.and_eq_true, Bool.or_eq_true, beq_iff_eq] at q3
        exact q3.1.2
      obtain ⟨m, _, hl⟩ := I.loc
      obtain ⟨u, ru, lk⟩ := hl j x v q1 hσ (.inr q4)
      refine ⟨u, ru, .inr ⟨relabel_free q2, ?_⟩⟩
      have q5 : X.env.kindOf x = some .cell ∨ X.env.kindOf x = some .free := q4
      rcases lk with ⟨k, _⟩ | ⟨_, c, ec, hc⟩
      · rcases q5 with q5 | q5 <;> (rw [q5] at k; cases k)
      · obtain ⟨c', ec'⟩ := hC.has x (find_names q2)
        have := hC.sub x c' ec'
        rw [ec] at this
        cases this
        obtain ⟨oc, hoc, hdc⟩ := hc
        exact ⟨c, ec', oc, up2 _ _ (up1 _ _ hoc), hdc⟩
  · obtain ⟨v, oc, hoc, hdc⟩ := I.cell x c (hC.sub x c e)
    exact ⟨v, oc, up2 _ _ (up1 _ _ hoc), hdc⟩
  · show upd H _ _ (s.heap.objs.size + 1) = none
    rw [upd_ne (Nat.ne_of_gt (Nat.lt_succ_self _))]
    exact I.hok.fresh (Nat.le_succ _)
  · exact I1.freeC x c (hC.sub x c e)
  · have hp' : p ∈ X.pn ++ pins := by simpa using hp
    obtain ⟨a1, a2, a3, a4, a5⟩ := I1.pin p hp'
    obtain ⟨b1, _, _, _, _⟩ := I.pin p hp'
    refine ⟨up2 _ _ a1, a2, Nat.ne_of_lt (Nat.lt_succ_of_lt (ltS _ _ b1)), fun hf => ?_, a5⟩
    rcases List.mem_cons.mp (hsub p.1 hf) with z | z
    · exact a3 z
    · exact a4 z
  · show (capSt caps σ).length = N'.length
    unfold capSt
    rw [List.length_map, hlen]
theorem comp_back {N' : List Str} {scope : Scope} {cl : List (Str × Addr)} {fp : List Addr} {C : Addr} {pins' : List (Addr × Obj)} {σ' : St} {H' : Hp} {s' : Shared} (I : Inv X pins σ H s) (hfp : ∀ b ∈ fp, FpOk X pins H b)
    (J : Inv (cxComp X pins N' scope cl C { s with heap := s.heap.push { cls := .type "list", data := .seq #[] } } (upd H s.heap.objs.size (.lst [])) fp) pins' σ' H' s') : Inv X pins σ H' s' := by
  have hn : H s.heap.objs.size = none := I.hok.fresh (Nat.le_refl _)
  refine I.call' (ch := fp) J.os ?_ J.hok J.bare fun b hb => ?_
  · exact (Un.laid (fun b o e => Heap.get?_push_of_some _ e) (Nat.le_refl _) hn).trans J.base
  · obtain ⟨f0, f1, f2, f3, f4, f5⟩ := hfp b hb
    exact ⟨f3, f1, f4, f5⟩
end
end L2
namespace L2
open PySem PySem.Spec PyProof.Rows
def PIfs (X : Cx) (ifs : List Expr) (t : TT) : Prop :=
  ∀ (pins : List (Addr × Obj)) (s : Shared) (σ : St) (H : Hp) (Q : Bool → Hp → Prop), Inv X pins σ H s → t σ H Q →
    wpAny (model X.prog X.w) X.A (forIn ifs true fun c r => if r = true then do let ok ← isTrue c X.env (eval c X.env); pure (ForInStep.yield ok) else pure (ForInStep.yield r)) (TP X pins σ Q) X.xe s
def tYes : TT := fun _ H Q => Q true H
theorem pifs_nil {X : Cx} : PIfs X [] tYes := fun _ _ _ H _ I h => wpAny_tests_nil ⟨H, I, h⟩
def compRead (J : It) (D : Addr) (g : TG) (tt : TT) (te : TE) (σ0 : St) (H0 : Hp) (Q : Hp → Prop) : Prop :=
  ∃ W : Nat → Nat → St → Hp → Prop, (∃ m, W 0 m σ0 H0) ∧ ∀ i m σ' H', W i m σ' H' →
    (J.stop i H' ∧ Q H') ∨ (J.go i H' ∧ ∃ N : St → Hp → Prop, (∀ σ' H', N σ' H' → ∃ m', m' < m ∧ W (i + 1) m' σ' H') ∧ ∀ x H2, J.yld i H' x H2 → g x σ' H2 fun σ2 H3 => tt σ2 H3 fun b H4 =>
      if b = true then te σ2 H4 fun v H5 => ∃ ys, H5 D = some (.lst ys) ∧ ys.length < sizeLine ∧ N σ2 (upd H5 D (.lst (ys ++ [v]))) else N σ2 H4)
def tComp (caps : List (Option Nat)) (wi : TI) (g : TG) (tt : TT) (te : TE) : TE := fun σ H Q => wi σ H fun J H1 => ∀ D, H1 D = none → compRead J D g tt te (capSt caps σ) (upd H1 D (.lst [])) fun H2 => Q (.ref D) H2
section
variable {X : Cx} {tg elt iter : Expr} {ifs : List Expr} {scope : Scope} {pos : Pos}
theorem comp_loop {X' : Cx} {fp : List Addr} {it D : Addr} {tn : Nat → Heap → Prop} {J : It} {g : TG} {tt : TT} {te : TE} {σ0 : St} {H0 : Hp} {s : Shared} {R : Result → Shared → Prop} {Qe : Hp → Prop} (hc : X'.calm = true) (hxe : X'.xe = fun _ _ => False)
    (T : Turn X'.prog X'.w X'.K tg J fp it tn) (hg : PG X' tg g) (ht : PIfs X' ifs tt) (he : PE X' elt te) (I : Inv X' [] σ0 H0 s) (hf : ∀ b ∈ fp, FpOk X' [] H0 b) (st : tn 0 s.heap) (q : compRead J D g tt te σ0 H0 Qe)
    (hR : ∀ s' σ' H', Inv X' [] σ' H' s' → Qe H' → R (.ok .next) s') :
    codeAny (model X'.prog X'.w) X'.A (.compLoop (.ListComp elt [⟨tg, iter, ifs, 0⟩] scope pos) 0 (.ref it) (.ref D) X'.env) R s := by
  obtain ⟨W, ⟨m0, w0⟩, turn⟩ := q
  have stat : ∀ {H' : Hp}, (∀ b ∈ fp, H' b = none) → ∀ b ∈ fp, FpOk X' [] H' b := fun hn b hb => ⟨hn b hb, (hf b hb).2⟩
  refine codeAny_loop rfl (fun n s' => ∃ i σ' H', Inv X' [] σ' H' s' ∧ tn i s'.heap ∧ (∀ b ∈ fp, H' b = none) ∧ W i n σ' H') ?_ m0 ⟨0, σ0, H0, I, st, fun b hb => (hf b hb).1, w0⟩
  rintro n s3 ⟨i, σ3, H3, I3, st3, fr3, w3⟩
  show wpAny _ X'.A ((compTurn (.ListComp elt [⟨tg, iter, ifs, 0⟩] scope pos) 0 (.ref it) (.ref D) X'.env).onRaise (fun x => do noteFrame x X'.env; theTreesLotGoes x)) _ _ s3
  refine wpAny_noted ?_
  rw [compTurn_list]
  have no : ∀ {α : Type} {t : Sem α} {Q : α → Shared → Prop} {s' : Shared} {E' : Value → Shared → Prop}, wpAny (model X'.prog X'.w) X'.A t Q X'.xe s' → wpAny (model X'.prog X'.w) X'.A t Q E' s' := fun h => wpAny_mono h (fun _ _ x => x) fun _ _ x => by rw [hxe] at x; exact x.elim
  refine wpAny_bind (wpAny_standAt ?_)
  rcases turn i n σ3 H3 w3 with ⟨stop, qn⟩ | ⟨go, N, hN, step⟩
  · refine wpAny_bind (thn (T.done X' rfl rfl rfl hc i [] s3 σ3 H3 _ I3 (stat fr3) st3 stop) fun r s4 ⟨hr, I4⟩ => ?_)
    subst hr
    exact wpAny_pure (hR _ _ _ I4 qn)
  · refine wpAny_bind (thn (T.item X' rfl rfl rfl hc i [] s3 σ3 H3 _ I3 (stat fr3) st3 go) fun r s4 ⟨u, hr, h4⟩ => ?_)
    subst hr
    refine wpAny_bind (thn h4 fun _ s5 ⟨x, H5, I5, r5, y5, st5, fr5⟩ => ?_)
    have I5' := I5.pinned (stat fr5) (T.obj _ _ st5)
    have again : ∀ {σ7 : St} {H7 : Hp} {s7 : Shared}, Inv X' ([] ++ pinsAt fp s5.heap) σ7 H7 s7 → N σ7 H7 → ∃ m, m < n ∧ ∃ i σ' H', Inv X' [] σ' H' s7 ∧ tn i s7.heap ∧ (∀ b ∈ fp, H' b = none) ∧ W i m σ' H' := fun {σ7 H7 s7} I7 n7 => by
      obtain ⟨m', hm, w7⟩ := hN σ7 H7 n7
      refine ⟨m', hm, i + 1, σ7, H7, I7.unpinned, T.keep _ _ _ st5 fun b hb o e => (I7.pin (b, o) (List.mem_append_right _ (List.mem_append_right _ (mem_pinsAt hb e)))).1, fun b hb => ?_, w7⟩
      obtain ⟨o, e, d⟩ := T.obj _ _ st5 b hb
      exact (I7.pin (b, o) (List.mem_append_right _ (List.mem_append_right _ (mem_pinsAt hb e)))).2.1
    refine wpAny_bind (thn (no (hg _ s5 σ3 H5 x u _ I5' r5 (step x H5 y5))) fun _ s6 ⟨σ6, H6, I6, q6⟩ => ?_)
    refine wpAny_bind (thn (no (ht _ s6 σ6 H6 _ I6 q6)) fun b s7 ⟨H7, I7, q7⟩ => ?_)
    cases b with
    | false => exact wpAny_pure ⟨rfl, again I7 q7⟩
    | true =>
      refine wpAny_bind (wpAny_bind (thn (no (he _ s7 σ6 H7 _ I7 q7)) fun v s8 ⟨y, H8, I8, r8, q8⟩ => ?_))
      obtain ⟨ys, hD, hsz, q8⟩ := q8
      refine wpAny_bind (thn (no (mt_append (X := X') _ s8 σ6 H8 (.ref D) [y] (Value.ref D) [v] (fun _ H9 => N σ6 H9) I8 rfl (.cons r8 .nil) ⟨D, ys, y, rfl, rfl, hD, hsz, q8⟩)) fun _ s9 ⟨z, H9, I9, _, q9⟩ => ?_)
      exact wpAny_pure (wpAny_pure ⟨rfl, again I9 q9⟩)
theorem vis_free {N' : List Str} {caps : List (Option Nat)} {N : List Str} {names names' : List (Str × NameKind)} (h : capOk N' caps N names names' = true) : (∀ p ∈ names', p.2 ≠ NameKind.cell) ∧ (∀ x, (x, NameKind.free) ∈ names' → names.lookup x = some .cell ∨ names.lookup x = some .free) ∧ ∀ p ∈ names', p.2 = .local → names'.lookup p.1 = some .local := by
  have h3 := List.all_eq_true.mp (Bool.and_eq_true_iff.mp h).2
  refine ⟨fun p hp => ?_, fun x hx => ?_, fun p hp hl => ?_⟩
  · have := h3 p hp
    simp only [Bool.and_eq_true, bne_iff_ne] at this
    exact this.1.1
  · have := h3 _ hx
    simp only [bne_self_eq_false, Bool.false_or, Bool.and_eq_true, Bool.or_eq_true, beq_iff_eq] at this
    exact this.1.2
  · have := h3 p hp
    rw [hl] at this
    simp only [bne_self_eq_false, Bool.false_or, Bool.and_eq_true, beq_iff_eq] at this
    exact this.2
theorem comp_block {N' : List Str} {caps : List (Option Nat)} {pins : List (Addr × Obj)} {σ : St} {H : Hp} {s : Shared} {J : It} {fp : List Addr} {it : Addr} {tn : Nat → Heap → Prop} {g : TG} {tt : TT} {te : TE} {cl : List (Str × Addr)} {RR : Value → Addr → Result → Shared → Prop} {Qe : Addr → Hp → Prop}
    (hc : X.calm = true) (hcap : capOk N' caps X.N X.env.scope.names scope.names = true) (hkind : scope.kind = .function) (hC : Clo scope X.env cl)
    (hg : ∀ C s0 H0 fp, PG (cxComp X pins N' scope cl C s0 H0 fp) tg g) (ht : ∀ C s0 H0 fp, PIfs (cxComp X pins N' scope cl C s0 H0 fp) ifs tt) (he : ∀ C s0 H0 fp, PE (cxComp X pins N' scope cl C s0 H0 fp) elt te)
    (I : Inv X pins σ H s) (T : Turn X.prog X.w X.K tg J fp it tn) (st : tn 0 s.heap) (hf : ∀ b ∈ fp, FpOk X pins H b) (q : ∀ D, H D = none → compRead J D g tt te (capSt caps σ) (upd H D (.lst [])) (Qe D))
    (hR : ∀ (D C : Addr) (s' : Shared) (H' : Hp), Inv X pins σ H' s' → Qe D H' → D ≠ C → (∃ o m, s'.heap.get? C = some o ∧ (∀ v, o.data ≠ .cell v) ∧ (∀ h2 : Heap, h2.get? C = some o → h2.Ns C m)) → H' C = none → s.heap.objs.size ≤ C → RR (.ref D) C (.ok .next) s') :
    wpAny (model X.prog X.w) X.A (newList []) (fun acc s₃ => wpAny (model X.prog X.w) X.A (newFunctionEnv scope X.env.globals cl [] X.env.qual none .none (some X.env)) (fun cenv s₄ =>
      codeAny (model X.prog X.w) X.A (.compStart (.ListComp elt [⟨tg, iter, ifs, 0⟩] scope pos) 0 (.ref it) acc { cenv with scope := relabel scope X.env }) (RR acc cenv.locals) s₄) X.xe s₃) X.xe s := by
  refine wpAny_newObj_type (wpAny_newFunctionEnv (vis_free hcap).1 (by intro y hy; simp at hy) (fun h₁ hns₁ hsb₁ => ?_) hkind)
  have hz : (s.heap.push { cls := .type "list", data := .seq #[] }).objs.size = s.heap.objs.size + 1 := Heap.size_push ..
  have hns : h₁.Ns (s.heap.objs.size + 1) fun _ => none := by rw [← hz]; exact hns₁
  have hsb : Heap.SameBut (s.heap.objs.size + 1) ((s.heap.push { cls := .type "list", data := .seq #[] }).push { cls := .type "dict", data := .dict #[] }) h₁ := by rw [← hz]; exact hsb₁
  have hfo : ∀ b ∈ fp, ∃ o, s.heap.get? b = some o := fun b hb => let ⟨o, e, _⟩ := T.obj 0 _ st b hb; ⟨o, e⟩
  have I1 := comp_start (tk := s.toks + ([] : List (Str × Value)).length) I hf hfo hcap hkind hC hns hsb
  have hn : H s.heap.objs.size = none := I.hok.fresh (Nat.le_refl _)
  have up : ∀ b o, s.heap.get? b = some o → h₁.get? b = some o := fun b o e =>
    hsb.extBut b o (Nat.ne_of_lt (Nat.lt_succ_of_lt (Heap.lt_size e))) (Heap.get?_push_of_some _ (Heap.get?_push_of_some _ e))
  have st1 : tn 0 h₁ := T.keep _ _ _ st fun b _ o e => up b o e
  have f1 : ∀ b ∈ fp, FpOk (cxComp X pins N' scope cl (s.heap.objs.size + 1) { s with heap := s.heap.push { cls := .type "list", data := .seq #[] } } (upd H s.heap.objs.size (.lst [])) fp) [] (upd H s.heap.objs.size (.lst [])) b := fun b hb => by
    obtain ⟨a0, a1, a2, a3, a4, a5⟩ := hf b hb
    obtain ⟨o, ho⟩ := hfo b hb
    have hlt := Heap.lt_size ho
    refine ⟨by rw [upd_ne (Nat.ne_of_lt hlt)]; exact a0, Nat.ne_of_lt (Nat.lt_succ_of_lt hlt), fun z => ?_, .inl hb, fun x c e => a4 x c (hC.sub x c e), fun p hp => a5 p (by simpa using hp)⟩
    rcases List.mem_cons.mp (I.stkSub b z) with z | z
    · exact a1 z
    · exact a2 z
  have loop : codeAny (model X.prog X.w) X.A (.compLoop (.ListComp elt [⟨tg, iter, ifs, 0⟩] scope pos) 0 (.ref it) (.ref s.heap.objs.size) (compEnvC scope cl (s.heap.objs.size + 1) X.env))
      (RR (.ref s.heap.objs.size) (s.heap.objs.size + 1)) { s with heap := h₁, toks := s.toks + ([] : List (Str × Value)).length } := by
    refine comp_loop (X' := cxComp X pins N' scope cl (s.heap.objs.size + 1) { s with heap := s.heap.push { cls := .type "list", data := .seq #[] } } (upd H s.heap.objs.size (.lst [])) fp) hc rfl T (hg _ _ _ _) (ht _ _ _ _) (he _ _ _ _) I1 f1 st1 (q _ hn) fun s' σ' H' J' qe => ?_
    have B := comp_back I hf J'
    obtain ⟨m, hnC, _⟩ := J'.loc
    obtain ⟨o, es, ep, ho, hd, r⟩ := id hnC
    exact hR _ _ s' H' B qe (Nat.ne_of_lt (Nat.lt_succ_self _)) ⟨o, m, ho, (fun v z => by rw [hd] at z; cases z), fun h2 e2 => ⟨o, es, ep, e2, hd, r⟩⟩ J'.free (Nat.le_succ _)
  have fin := codeAny_compStart_list loop (T.self _ _ _ _ _ st1 loop)
  have hz2 : (s.heap.push { cls := .type "list", dict := none, data := .seq ([] : List Value).toArray }).objs.size = s.heap.objs.size + 1 := hz
  show codeAny _ _ (.compStart _ 0 _ _ { (newEnv scope (s.heap.push { cls := .type "list", dict := none, data := .seq ([] : List Value).toArray }).objs.size X.env.globals cl X.env.qual none .none (some X.env) _) with scope := relabel scope X.env }) (RR _ (s.heap.push { cls := .type "list", dict := none, data := .seq ([] : List Value).toArray }).objs.size) _
  rw [hz2]
  exact fin
theorem clo_of {N' : List Str} {caps : List (Option Nat)} {pins : List (Addr × Obj)} {σ : St} {H : Hp} {s : Shared} (I : Inv X pins σ H s) (hcap : capOk N' caps X.N X.env.scope.names scope.names = true) : ∃ cl, Clo scope X.env cl :=
  clo_mk fun x hx => I.ok.has x ((vis_free hcap).2.1 x hx)
theorem pe_comp (N' : List Str) (caps : List (Option Nat)) {wi : TI} {g : TG} {tt : TT} {te : TE} (hc : X.calm = true) (hi : PI X tg iter wi)
    (hg : ∀ pins cl C s0 H0 fp, PG (cxComp X pins N' scope cl C s0 H0 fp) tg g) (ht : ∀ pins cl C s0 H0 fp, PIfs (cxComp X pins N' scope cl C s0 H0 fp) ifs tt) (he : ∀ pins cl C s0 H0 fp, PE (cxComp X pins N' scope cl C s0 H0 fp) elt te)
    (hcap : capOk N' caps X.N X.env.scope.names scope.names = true := by rfl) (hkind : scope.kind = .function := by rfl) (hs : ∀ x, foldedSetIterable iter X.env x = pure x := by intro _; rfl) :
    PE X (.ListComp elt [⟨tg, iter, ifs, 0⟩] scope pos) (tComp caps wi g tt te) := by
  intro pins s σ H Q I h
  obtain ⟨cl, hC⟩ := clo_of I hcap
  rw [eval_ListComp]
  refine wpAny_comprehension_free (use := none) rfl hs hC.eq hkind (vis_free hcap).2.2 (thn (hi pins s σ H _ I h) fun v s1 h1 => thn h1 fun itv s2 h2 => ?_)
  obtain ⟨it, fp, tn, J, H2, e, I2, T, st2, f2, q2⟩ := h2
  subst e
  refine comp_block (RR := fun acc C => compPost (model X.prog X.w) X.A X.xe none (EP X pins σ Q) acc C) (Qe := fun D H' => Q (.ref D) H') hc hcap hkind hC (hg pins cl) (ht pins cl) (he pins cl) I2 T st2 f2 q2 fun D C s' H' I' q' hDC hCo hCn hCs => ?_
  obtain ⟨o, m, ho, hd, hns⟩ := hCo
  refine ⟨m, hns _ ho, fun h' hsb => ⟨.ref D, H', ?_, rfl, q'⟩⟩
  obtain ⟨hp', g', d', t', os'⟩ := s'
  have hC0 : X.s₀.heap.objs.size ≤ C := Nat.le_trans I2.sz hCs
  exact I'.turned (t' := t') (it := C) (fun b o hb e => hsb.extBut b o hb e) hCn (fun z => by
    have := I2.lt; rw [← z] at this; exact absurd (Nat.lt_of_lt_of_le this hCs) (Nat.lt_irrefl _)) (.inr hC0) (fun x c e z => by
    obtain ⟨v, q⟩ := I2.cell x c e
    exact absurd (Nat.lt_of_lt_of_le q.lt (by rw [z]; exact hCs)) (Nat.lt_irrefl _)) (fun p hp z => by
    exact absurd (Nat.lt_of_lt_of_le (Heap.lt_size (I2.pin p hp).1) (by rw [z]; exact hCs)) (Nat.lt_irrefl _))
end
end L2
set_option Elab.async false
set_option maxRecDepth 100000
set_option maxHeartbeats 4000000
namespace L2
open PySem PySem.Spec PyProof.Rows
section
variable {X : Cx}
def isTy (t : String) (c : String) : Bool := t == c || (t == "bool" && c == "int")
theorem kit_ty {K : PySem.W.Frag} (t c : String) (ht : t ∈ ["NoneType", "bool", "int", "str", "list", "tuple", "dict"]) (hc : c ∈ ["bool", "int", "str", "list", "tuple", "dict"]) : PySem.W.kitOne K (.type t) (.type c) = some (isTy t c) := by
  simp only [List.mem_cons, List.not_mem_nil, or_false] at ht hc
  rcases ht with rfl | rfl | rfl | rfl | rfl | rfl | rfl <;> rcases hc with rfl | rfl | rfl | rfl | rfl | rfl <;> rfl
theorem call_isinstance : CallR X (.builtin "isinstance") (fun xs H Q => ∃ x t c, xs = [x, .ty c] ∧ TyOf X.K H x (.type t) ∧ t ∈ ["NoneType", "bool", "int", "str", "list", "tuple", "dict"] ∧ c ∈ ["bool", "int", "str", "list", "tuple", "dict"] ∧ Q (.bl (isTy t c)) H) := by
  intro pins s σ H xs us Q I r h
  obtain ⟨x, t, c, rfl, ty, ht, hc, q⟩ := h
  obtain ⟨u, w', rfl, rx, ry⟩ := vals2 r
  cases ry
  exact isinst_ok I rx ty (kit_ty t c ht hc) fun tk => ⟨.bl _, H, I.tok tk, rfl, q⟩
theorem pe_tyn {x : Str} {T : String} {pos : Pos} (hg : Gl X x) (hm : X.mg x = none) (hv : bootBuiltins x = some (.type T)) (hn : x ≠ "__name__" := by decide) (hd : (x == ("__debug__" : Str)) = false := by decide) : PE X (.Name x pos) (tC (.ty T)) :=
  pe_bltn hg hm hv rfl hn hd
end
end L2
namespace L2
open PySem PySem.Spec PyProof.Rows
section
variable {X : Cx}
theorem all_range_eq : ∀ (ns ms : List Int), ns.length = ms.length → ((List.range ns.length).all fun j => decide (ns.getD j 0 = ms.getD j 0)) = decide (ns = ms) := by
  intro ns ms hl
  by_cases h : ns = ms
  · subst h; simp
  · rw [decide_eq_false h]
    cases hc : ((List.range ns.length).all fun j => decide (ns.getD j 0 = ms.getD j 0)) with
    | false => rfl
    | true =>
      exfalso
      apply h
      rw [List.all_eq_true] at hc
      apply List.ext_getElem hl
      intro i h1 h2
      have := hc i (List.mem_range.mpr h1)
      have e := of_decide_eq_true this
      rw [List.getD_eq_getElem?_getD, List.getD_eq_getElem?_getD, List.getElem?_eq_getElem h1, List.getElem?_eq_getElem h2] at e
      exact e
theorem ints_at {ns : List Int} : ∀ {us : List Value}, IntsAre us ns → ∀ (j : Nat) (h : j < us.toArray.size), ∃ t, us.toArray[j] = .int (ns.getD j 0) t := by
  induction ns with
  | nil => intro us h j hj; cases h; simp at hj
  | cons n ns ih =>
    intro us h j hj
    cases h with
    | cons _ t h =>
      cases j with
      | zero => exact ⟨t, by simp⟩
      | succ j =>
        obtain ⟨t', e⟩ := ih h j (by simpa using hj)
        exact ⟨t', by simpa using e⟩
def rEqI (K : PySem.W.Frag) (neg : Bool) : R2 := fun x y H Q => ∃ (p q : Addr) (ns ms : List Int), x = .ref p ∧ y = .ref q ∧ SqL K H p (ns.map V.int) ∧ SqL K H q (ms.map V.int) ∧ Q (.bl (if neg then !decide (ns = ms) else decide (ns = ms))) H
theorem op_eqI {k : Nat} (hr : Room k X.A) : OpR X (compareOp .Eq) (rEqI X.K false) := by
  intro pins s σ H x y v u Q I rx ry h
  obtain ⟨p, q, ns, ms, rfl, rfl, h1, h2, qq⟩ := h
  cases rx; cases ry
  obtain ⟨its, r1, p1, _⟩ := I.list h1
  obtain ⟨its2, r2, p2, _⟩ := I.list h2
  have i1 := intsAre_of r1
  have i2 := intsAre_of r2
  have l1 := r1.length
  have l2 := r2.length
  rw [List.length_map] at l1 l2
  by_cases hl : ns.length = ms.length
  · refine SeqAt.eq_listAt (e := fun j => decide (ns.getD j 0 = ms.getD j 0)) p1.isList p2.isList (by simp only [List.size_toArray]; omega) hr.units0 (fun j a1 a2 => ?_) ?_
    · obtain ⟨t1, e1⟩ := ints_at i1 j a1
      obtain ⟨t2, e2⟩ := ints_at i2 j a2
      rw [e1, e2]
      have := SeqAt.EqAt.int_int (A := X.A.in1) (s := s) (ns.getD j 0) t1 (ms.getD j 0) t2
      rw [Bool.beq_eq_decide_eq] at this
      exact this
    · rw [show its.toArray.size = ns.length by simp only [List.size_toArray]; omega, all_range_eq ns ms hl]
      exact ⟨.bl _, H, I, rfl, qq⟩
  · refine SeqAt.eq_list_lengthsAt p1.isList p2.isList (by simp only [List.size_toArray, bne_iff_ne]; omega) hr.units0 ⟨.bl false, H, I, rfl, ?_⟩
    have : decide (ns = ms) = false := decide_eq_false fun e => hl (by rw [e])
    rw [this] at qq
    exact qq
def Itd (hi : Int) (n : Nat) : It := ⟨fun i _ => i < n, fun i H x H' => H' = H ∧ x = .int (hi - i), fun i _ => n ≤ i⟩
theorem turn_down {P : Program} {w : World} {K : PySem.W.Frag} {tg : Expr} (it : Addr) (hi : Int) (n : Nat) : Turn P w K tg (Itd hi n) [it] it (fun i h => IsRangeIter h it (hi + (i : Nat) * -1) ((n : Int) - (i : Nat)) (-1)) where
  mem := by simp
  obj := fun i h st b hb => by
    have e : b = it := by simpa using hb
    subst e
    exact ⟨_, st, fun v z => by
      have z' : Data.fields _ = Data.cell v := z
      cases z'⟩
  keep := fun i h h' st k => k it (by simp) _ st
  item := by
    intro X hP hw hK hc i pins s σ H E I hf st hg
    subst hP hw hK
    obtain ⟨f0, f1, f2, f3, f4, f5⟩ := hf it (by simp)
    have W := Walks.range (prog := X.prog) (w := X.w) (I.ok.hd hc) it hi (-1) n
    refine W.item i s _ _ hg st fun v h' tk hv st' kk => ?_
    obtain ⟨t, rfl⟩ := hv
    have I1 : Inv X pins σ H { s with heap := h', toks := tk } := I.turned (fun b o hb e => kk b o (by simpa using hb) e) f0 f1 f3 f4 f5
    refine ⟨_, rfl, go_of (s := { s with heap := h', toks := tk }) (n := "range_iterator") st' rfl rfl (by decide) ⟨.int (hi - i), H, I1, ⟨t, ?_⟩, ⟨rfl, rfl⟩, st', fun b hb => (hf b hb).1⟩⟩
    congr 1; omega
  done := by
    intro X hP hw hK hc i pins s σ H E I hf st hg
    subst hP hw hK
    obtain ⟨f0, f1, f2, f3, f4, f5⟩ := hf it (by simp)
    exact wpAny_pyNext_range_end (I.ok.hd hc) st (by have : n ≤ i := hg; omega) fun h' eb => ⟨rfl, I.turned (t' := s.toks) (fun b o hb e => eb b o hb e) f0 f1 f3 f4 f5⟩
  self := fun _ _ _ _ _ st h => wpAny_pyIter_rangeiter st h
theorem rangeSize_down (a b : Int) : Builtin.Range.rangeSize a b (-1) = if b < a then a - b else 0 := by
  unfold Builtin.Range.rangeSize
  simp only [show ¬ ((-1 : Int) > 0) by decide, if_false]
  rw [show (- -1 : Int) = 1 by decide, Int.ediv_one]
  split <;> omega
theorem small_down {a b : Int} (ha : -(2 ^ 61) ≤ a) (ha' : a < 2 ^ 61) (hb : -(2 ^ 61) ≤ b) (hb' : b < 2 ^ 61) : Builtin.Range.small a b (-1) = true := by
  unfold Builtin.Range.small
  rw [rangeSize_down]
  simp only [Builtin.Range.rangeFitsLong, Bool.and_eq_true, Bool.or_eq_true, decide_eq_true_eq, beq_iff_eq, show ¬ ((-1 : Int) > 0) by decide, if_false]
  split <;> omega
def iRngD (ta : TA) : TI := fun σ H R => ta σ H fun vs H1 => ∃ i j : Int, vs = [.int i, .int j, .int (-1)] ∧ (-(2 ^ 61) ≤ i ∧ i < 2 ^ 61 ∧ -(2 ^ 61) ≤ j ∧ j < 2 ^ 61) ∧ R (Itd i (i - j).toNat) H1
theorem pi_down {tg a b c : Expr} {ta : TA} {p pos : Pos} (hg : Gl X "range") (hm : X.mg "range" = none) (ha : PA X [a, b, c] ta) (hs : starEach [a, b, c] X.env = [(false, eval a X.env), (false, eval b X.env), (false, eval c X.env)] := by rfl) (hs2 : starEach [b, c] X.env = [(false, eval b X.env), (false, eval c X.env)] := by rfl) :
    PI X tg (.Call (.Name "range" p) [a, b, c] [] pos) (iRngD ta) := by
  intro pins s σ H R I h
  refine Call_ (ld_blt I hg hm boot_range (PyProof.Rows.callWith_type1 (thn (ha pos pins s σ H _ I h) fun us s1 ⟨vs, H1, I1, r1, q1⟩ => ?_) (by rw [hs, hs2]) (by rw [hs2]; rfl)))
  obtain ⟨i, j, e, ⟨q1, q2, q3, q4⟩, q⟩ := q1
  subst e
  cases r1 with
  | cons r rr =>
    cases rr with
    | cons r' rr =>
      cases rr with
      | cons r'' rr =>
        cases rr
        obtain ⟨t, rfl⟩ := r
        obtain ⟨t', rfl⟩ := r'
        obtain ⟨t'', rfl⟩ := r''
        refine call_range_3 (by decide) ?_ (.inl (PyProof.noPylong_small (by decide)))
        refine wpAny_pyIter_range (IsRange.new ..) (small_down q1 q2 q3 q4) ?_
        have I2 : Inv X pins σ H1 { s1 with heap := s1.heap.push { cls := .type "range", data := .fields #[.int i t, .int j t', .int (-1) t''] }, toks := s1.toks } := I1.kept fun b o e => Heap.get?_push_of_some _ e
        refine ⟨(s1.heap.push { cls := .type "range", data := .fields #[.int i t, .int j t', .int (-1) t''] }).objs.size, [(s1.heap.push { cls := .type "range", data := .fields #[.int i t, .int j t', .int (-1) t''] }).objs.size], _, _, H1, rfl,
          I2.kept (t' := s1.toks) fun b o e => Heap.get?_push_of_some _ e, turn_down _ i (i - j).toNat, ?_, fun b hb => ?_, q⟩
        · have e1 : i + ((0 : Nat) : Int) * -1 = i := by simp
          have e2 : (((i - j).toNat : Nat) : Int) - ((0 : Nat) : Int) = Builtin.Range.rangeSize i j (-1) := by rw [rangeSize_down]; split <;> omega
          show IsRangeIter _ _ (i + ((0 : Nat) : Int) * -1) ((((i - j).toNat : Nat) : Int) - ((0 : Nat) : Int)) (-1)
          rw [e1, e2]
          exact Heap.get?_push_size _ rfl
        · have e : b = (s1.heap.push { cls := .type "range", data := .fields #[.int i t, .int j t', .int (-1) t''] }).objs.size := by simpa using hb
          subst e
          exact I2.fpOk (Nat.le_refl _) (I2.hok.fresh (Nat.le_refl _))
theorem for_down {hi : Int} {n : Nat} {g : TG} {tb : TS} {D : Ends} {σ : St} {H : Hp} (Pv : Nat → St → Hp → Prop) (h0 : Pv 0 σ H)
    (hs : ∀ i σ H, i < n → Pv i σ H → g (.int (hi - i)) σ H fun σ2 H2 => tb { D with nx := Pv (i + 1), ct := Pv (i + 1), bk := D.nx } σ2 H2) (hd : ∀ σ H, Pv n σ H → D.nx σ H) :
    ∃ W : Nat → Nat → St → Hp → Prop, (∃ m, W 0 m σ H) ∧ ∀ i m σ H, W i m σ H →
      ((Itd hi n).stop i H ∧ D.nx σ H) ∨ ((Itd hi n).go i H ∧ ∃ N : St → Hp → Prop, (∀ σ' H', N σ' H' → ∃ m', m' < m ∧ W (i + 1) m' σ' H') ∧ ∀ x H', (Itd hi n).yld i H x H' → g x σ H' fun σ2 H2 => tb { D with nx := N, ct := N, bk := D.nx } σ2 H2) := by
  refine ⟨fun i m σ H => m = n - i ∧ i ≤ n ∧ Pv i σ H, ⟨n, by simp, Nat.zero_le _, h0⟩, ?_⟩
  rintro i m σ H ⟨rfl, hi, p⟩
  by_cases hlt : i < n
  · refine .inr ⟨hlt, Pv (i + 1), fun σ' H' p' => ⟨n - (i + 1), by omega, rfl, hlt, p'⟩, fun x H' y => ?_⟩
    obtain ⟨e, y⟩ := y
    subst e y
    exact hs i σ _ hlt p
  · have e : i = n := by omega
    subst e
    exact .inl ⟨Nat.le_refl _, hd σ H p⟩
theorem comp_range {lo : Int} {n : Nat} {D : Addr} {g : TG} {tt : TT} {te : TE} {σ0 : St} {H0 : Hp} {Q : Hp → Prop} (Pv : Nat → St → Hp → Prop) (h0 : Pv 0 σ0 H0)
    (hs : ∀ i σ H, i < n → Pv i σ H → g (.int (lo + i)) σ H fun σ2 H3 => tt σ2 H3 fun b H4 => if b = true then te σ2 H4 fun v H5 => ∃ ys, H5 D = some (.lst ys) ∧ ys.length < sizeLine ∧ Pv (i + 1) σ2 (upd H5 D (.lst (ys ++ [v]))) else Pv (i + 1) σ2 H4)
    (hd : ∀ σ H, Pv n σ H → Q H) : compRead (Itr lo n) D g tt te σ0 H0 Q := by
  refine ⟨fun i m σ H => m = n - i ∧ i ≤ n ∧ Pv i σ H, ⟨n, by simp, Nat.zero_le _, h0⟩, ?_⟩
  rintro i m σ H ⟨rfl, hi, p⟩
  by_cases hlt : i < n
  · refine .inr ⟨hlt, Pv (i + 1), fun σ' H' p' => ⟨n - (i + 1), by omega, rfl, hlt, p'⟩, fun x H' y => ?_⟩
    obtain ⟨e, y⟩ := y
    subst e y
    exact hs i σ _ hlt p
  · have e : i = n := by omega
    subst e
    exact .inl ⟨Nat.le_refl _, hd σ H p⟩
theorem comp_list {K : PySem.W.Frag} {a : Addr} {xs : List V} {D : Addr} {g : TG} {tt : TT} {te : TE} {σ0 : St} {H0 : Hp} {Q : Hp → Prop} (Pv : Nat → St → Hp → Prop) (h0 : Pv 0 σ0 H0) (hl : ∀ i σ H, i ≤ xs.length → Pv i σ H → SqL K H a xs)
    (hs : ∀ i x σ H, xs[i]? = some x → Pv i σ H → g x σ H fun σ2 H3 => tt σ2 H3 fun b H4 => if b = true then te σ2 H4 fun v H5 => ∃ ys, H5 D = some (.lst ys) ∧ ys.length < sizeLine ∧ Pv (i + 1) σ2 (upd H5 D (.lst (ys ++ [v]))) else Pv (i + 1) σ2 H4)
    (hd : ∀ σ H, Pv xs.length σ H → Q H) : compRead (Itl K a) D g tt te σ0 H0 Q := by
  refine ⟨fun i m σ H => m = xs.length - i ∧ i ≤ xs.length ∧ Pv i σ H, ⟨xs.length, by simp, Nat.zero_le _, h0⟩, ?_⟩
  rintro i m σ H ⟨rfl, hi, p⟩
  have q := hl i σ H hi p
  by_cases hlt : i < xs.length
  · refine .inr ⟨⟨xs, xs[i], q, by simp [hlt]⟩, Pv (i + 1), fun σ' H' p' => ⟨xs.length - (i + 1), by omega, rfl, hlt, p'⟩, fun x H' y => ?_⟩
    obtain ⟨e, y⟩ := y
    subst e
    exact hs i x σ _ (y xs q) p
  · have e : i = xs.length := by omega
    subst e
    exact .inl ⟨⟨xs, q, Nat.le_refl _⟩, hd σ H p⟩
end
end L2
set_option Elab.async false
set_option maxRecDepth 100000
set_option maxHeartbeats 4000000
namespace L2
open PySem PySem.Spec PyProof.Rows
def Ite (K : PySem.W.Frag) (a : Addr) : It :=
  ⟨fun i H => ∃ xs x, SqL K H a xs ∧ xs[i]? = some x,
   fun i H x H' => ∃ (T : Addr) (v : V), H T = none ∧ x = .ref T ∧ H' = upd H T (.tup [.int i, v]) ∧ ∀ xs, SqL K H a xs → xs[i]? = some v,
   fun i H => ∃ xs, SqL K H a xs ∧ xs.length ≤ i⟩
theorem turn_enum {P : Program} {w : World} {K : PySem.W.Frag} {elts : List Expr} {x1 : Nat} {pos : Pos} (a e it : Addr) (hne : e ≠ it) :
    Turn P w K (.Tuple elts x1 pos) (Ite K a) [e, it] e (fun i h => (∃ old, IsEnum h e it i old) ∧ h.IsListIter it a i) where
  mem := by simp
  obj := fun i h st b hb => by
    rcases List.mem_cons.mp hb with rfl | hb
    · obtain ⟨⟨old, q⟩, _⟩ := st
      exact ⟨_, q, fun v z => by
        have z' : Data.fields _ = Data.cell v := z
        cases z'⟩
    · have e' : b = it := by simpa using hb
      subst e'
      obtain ⟨_, o, q, c, d⟩ := st
      exact ⟨o, q, fun v z => by rw [d] at z; cases z⟩
  keep := fun i h h' st k => by
    obtain ⟨⟨old, q⟩, st⟩ := st
    exact ⟨⟨old, k e (by simp) _ q⟩, st.at fun o e => k it (by simp) o e⟩
  item := by
    intro X hP hw hK hc i pins s σ H E I hf st hg
    subst hP hw hK
    obtain ⟨⟨old, he⟩, hit⟩ := st
    obtain ⟨xs, x, hq, hx⟩ := hg
    obtain ⟨its, rv, p, hz⟩ := I.list hq
    obtain ⟨u, hu, ru⟩ := rv.get hx
    obtain ⟨f0, f1, f2, f3, f4, f5⟩ := hf e (by simp)
    obtain ⟨g0, g1, g2, g3, g4, g5⟩ := hf it (by simp)
    refine wpAny_pyNext_enum_item he hit p.isList (x := u) (by simpa using hu) hne fun h₁ heo hit₁ ht₁ hz₁ hk₁ => ?_
    refine ⟨_, rfl, wpAny_letOwnedTupleGo_enum heo fun h₂ he₂ hs₂ => ?_⟩
    replace hs₂ : Heap.SameBut e h₁ h₂ := hs₂
    have hel : e < s.heap.objs.size := Heap.lt_size he
    have hT : H s.heap.objs.size = none := I.hok.fresh (Nat.le_refl _)
    have ht₂ : h₂.get? s.heap.objs.size = some { cls := .type "tuple", data := .seq #[.int i s.toks, u] } := (hs₂.2 _ (Nat.ne_of_gt hel)).trans ht₁
    have kk : ∀ b o, b ≠ e → b ≠ it → s.heap.get? b = some o → h₂.get? b = some o := fun b o h1 h2 q => (hs₂.2 b h1).trans (hk₁ b o h1 h2 q)
    have nT : ∀ b o, s.heap.get? b = some o → b ≠ s.heap.objs.size := fun b o q => Nat.ne_of_lt (Heap.lt_size q)
    have nch : ∀ b, b ∉ [e, it] → b ≠ e ∧ b ≠ it := fun b hb => ⟨fun z => hb (by simp [z]), fun z => hb (by simp [z])⟩
    have nE : ∀ b o, H b = some o → b ≠ e ∧ b ≠ it := fun b o q => ⟨fun z => (by rw [z, f0] at q; cases q), fun z => (by rw [z, g0] at q; cases q)⟩
    have I1 : Inv X pins σ (upd H s.heap.objs.size (.tup [.int i, x])) { s with heap := h₂, gens := s.gens, drawn := s.drawn, toks := s.toks + 1 } := by
      refine I.step (ch := [e, it]) (fun b hb => ?_) (fun b o _ _ hc q _ => kk b o (nch b hc).1 (nch b hc).2 q) (fun b o _ _ hc q _ => ⟨o.slots, kk b o (nch b hc).1 (nch b hc).2 q⟩) (fun b o _ q n => by rw [upd_ne (nT b o q)]; exact n)
        (fun b o hc q => ⟨o, kk b o (nch b hc).1 (nch b hc).2 q⟩) (fun b ys q => by rw [upd_ne (ne_of_none q hT)]; exact q) (fun b o z q => by rw [upd_ne (ne_of_none q hT)]; exact q) (fun b ps q => ⟨#[], by rw [upd_ne (ne_of_none q hT), q]; simp⟩) (fun m hm => ?_) (fun b z q => ?_) I.bare
      · rcases List.mem_cons.mp hb with rfl | hb
        · exact ⟨f3, f1, f4, f5⟩
        · have e' : b = it := by simpa using hb
          subst e'
          exact ⟨g3, g1, g4, g5⟩
      · obtain ⟨o, es, ep, ho, r⟩ := hm
        exact ⟨o, es, ep, kk _ o (Ne.symm f1) (Ne.symm g1) ho, r⟩
      · by_cases hb : b = s.heap.objs.size
        · subst hb
          rw [upd_same] at q
          cases q
          exact ⟨(by show 2 ≤ sizeLine; rw [sizeLine_eq]; decide), [.int i s.toks, u], .cons ⟨_, rfl⟩ (.cons ru .nil), _, ht₂, rfl, 0, rfl⟩
        · rw [upd_ne hb] at q
          refine (I.hok b z q).stay (fun c v hc q' => ?_) (fun c q' => by rw [upd_ne (ne_of_none q' hT)]; exact q') fun c ys q' => by rw [upd_ne (ne_of_none q' hT)]; exact q'
          rcases hc with rfl | hc
          · exact kk c v (nE c z q).1 (nE c z q).2 q'
          · exact kk c v (nE c _ hc).1 (nE c _ hc).2 q'
    refine ⟨.ref s.heap.objs.size, _, I1, rfl, ⟨s.heap.objs.size, x, hT, rfl, rfl, fun ys hy => by rw [I.list_inj hy hq]; exact hx⟩, ⟨⟨u, ?_⟩, ?_⟩, fun b hb => ?_⟩
    · have : ((i + 1 : Nat) : Int) = (i : Int) + 1 := by push_cast; rfl
      rw [this]; exact he₂
    · exact hit₁.extBut hs₂.extBut (Ne.symm hne)
    · have hbl : b < s.heap.objs.size := by
        rcases List.mem_cons.mp hb with rfl | hb
        · exact hel
        · have e' : b = it := by simpa using hb
          subst e'
          obtain ⟨o, q, _⟩ := hit
          exact Heap.lt_size q
      rw [upd_ne (Nat.ne_of_lt hbl)]
      exact (hf b hb).1
  done := by
    intro X hP hw hK hc i pins s σ H E I hf st hg
    subst hP hw hK
    obtain ⟨⟨old, he⟩, hit⟩ := st
    obtain ⟨xs, hq, hx⟩ := hg
    obtain ⟨its, rv, p, hz⟩ := I.list hq
    obtain ⟨g0, g1, g2, g3, g4, g5⟩ := hf it (by simp)
    have hl := rv.length
    exact wpAny_pyNext_enum_end (I.ok.hd hc) he hit p.isList (by simp; omega) fun h' eb => ⟨rfl, I.turned (t' := s.toks) (fun b o hb e => eb b o hb e) g0 g1 g3 g4 g5⟩
  self := fun A i s Q E st h => by
    obtain ⟨⟨old, he⟩, _⟩ := st
    exact wpAny_pyIter_enum he h
section
variable {X : Cx}
def iEnum (K : PySem.W.Frag) (ta : TA) : TI := fun σ H R => ta σ H fun vs H1 => ∃ a, vs = [.ref a] ∧ (∃ xs, SqL K H1 a xs) ∧ R (Ite K a) H1
theorem boot_enum : bootBuiltins "enumerate" = some (.type "enumerate") := by decide +kernel
theorem pi_enum {elts : List Expr} {x1 : Nat} {tpos : Pos} {l : Expr} {ta : TA} {p pos : Pos} (hg : Gl X "enumerate") (hm : X.mg "enumerate" = none) (ha : PA X [l] ta) (hs : starEach [l] X.env = [(false, eval l X.env)] := by rfl) : PI X (.Tuple elts x1 tpos) (.Call (.Name "enumerate" p) [l] [] pos) (iEnum X.K ta) := by
  intro pins s σ H R I h
  refine Call_ (ld_blt I hg hm boot_enum (PyProof.Rows.callWith_type1 (thn (ha pos pins s σ H _ I h) fun us s1 ⟨vs, H1, I1, r1, q1⟩ => ?_) hs rfl))
  obtain ⟨a, e, ⟨xs, hxs⟩, q⟩ := q1
  subst e
  obtain ⟨u, rfl, ru⟩ := vals1 r1
  cases ru
  obtain ⟨its, rv, pl, hz⟩ := I1.list hxs
  refine call_enumerate_list pl.isList fun h' he hit hsz hk => ?_
  have I2 : Inv X pins σ H1 { s1 with heap := h' } := I1.kept (t' := s1.toks) hk
  refine wpAny_pyIter_enum he ⟨s1.heap.objs.size + 1, [s1.heap.objs.size + 1, s1.heap.objs.size], _, Ite X.K a, H1, rfl, I2, turn_enum a _ _ (Nat.ne_of_gt (Nat.lt_succ_self _)), ⟨⟨_, he⟩, hit⟩, fun b hb => ?_, q⟩
  rcases List.mem_cons.mp hb with rfl | hb
  · exact I1.fpOk (Nat.le_succ _) (I1.hok.fresh (Nat.le_succ _))
  · have e' : b = s1.heap.objs.size := by simpa using hb
    subst e'
    exact I1.fpOk (Nat.le_refl _) (I1.hok.fresh (Nat.le_refl _))
theorem for_enum {K : PySem.W.Frag} {a : Addr} {xs : List V} {g : TG} {tb : TS} {D : Ends} {σ : St} {H : Hp} (Pv : Nat → St → Hp → Prop) (h0 : Pv 0 σ H) (hl : ∀ i σ H, i ≤ xs.length → Pv i σ H → SqL K H a xs)
    (hs : ∀ i x σ H T, xs[i]? = some x → Pv i σ H → H T = none → g (.ref T) σ (upd H T (.tup [.int i, x])) fun σ2 H2 => tb { D with nx := Pv (i + 1), ct := Pv (i + 1), bk := D.nx } σ2 H2) (hd : ∀ σ H, Pv xs.length σ H → D.nx σ H) :
    ∃ W : Nat → Nat → St → Hp → Prop, (∃ m, W 0 m σ H) ∧ ∀ i m σ H, W i m σ H →
      ((Ite K a).stop i H ∧ D.nx σ H) ∨ ((Ite K a).go i H ∧ ∃ N : St → Hp → Prop, (∀ σ' H', N σ' H' → ∃ m', m' < m ∧ W (i + 1) m' σ' H') ∧ ∀ x H', (Ite K a).yld i H x H' → g x σ H' fun σ2 H2 => tb { D with nx := N, ct := N, bk := D.nx } σ2 H2) := by
  refine ⟨fun i m σ H => m = xs.length - i ∧ i ≤ xs.length ∧ Pv i σ H, ⟨xs.length, by simp, Nat.zero_le _, h0⟩, ?_⟩
  rintro i m σ H ⟨rfl, hi, p⟩
  have q := hl i σ H hi p
  by_cases hlt : i < xs.length
  · refine .inr ⟨⟨xs, xs[i], q, by simp [hlt]⟩, Pv (i + 1), fun σ' H' p' => ⟨xs.length - (i + 1), by omega, rfl, hlt, p'⟩, fun x H' y => ?_⟩
    obtain ⟨T, v, hT, rfl, rfl, y⟩ := y
    exact hs i v σ H T (y xs q) p hT
  · have e : i = xs.length := by omega
    subst e
    exact .inl ⟨⟨xs, q, Nat.le_refl _⟩, hd σ H p⟩
end
end L2
set_option Elab.async false
set_option maxRecDepth 100000
set_option maxHeartbeats 4000000
namespace L2
open PySem PySem.Spec PyProof.Rows
section
variable {prog : Program} {w : World} {A : Around} {E : Value → Shared → Prop} {s : Shared}
end
end L2
namespace L2
open PySem PySem.Spec PyProof.Rows
section
variable {prog : Program} {w : World} {A : Around} {s : Shared} {R : Result → Shared → Prop}
end
section
variable {prog : Program} {w : World} {A : Around} {E : Value → Shared → Prop} {s : Shared}
end
end L2
namespace L2
open PySem PySem.Spec PyProof.Rows
section
variable {X : Cx} {pins : List (Addr × Obj)} {σ : St} {H H' : Hp} {s : Shared} {h' : Heap}
end
section
variable {X : Cx}
def plainE : Expr → Bool
  | .Starred .. => false
  | _ => true
theorem star_plain {e : Expr} {es : List Expr} {env : Env} (h : plainE e = true) : starEach (e :: es) env = (false, eval e env) :: starEach es env := by
  cases e <;> first | rfl | cases h
theorem pac {e : Expr} {es : List Expr} {te : TE} {t : TA} (ha : PE X e te) (hr : PA X es t) (hp : plainE e = true := by rfl) : PA X (e :: es) (tCons te t) := pa_cons ha hr (star_plain hp)
end
end L2
set_option Elab.async false
set_option maxRecDepth 100000
set_option maxHeartbeats 4000000
namespace L2
open PySem PySem.Spec PyProof.Rows
def Kp (S : List Addr) (H H' : Hp) : Prop := ∀ b o, b ∉ S → H b = some o → H' b = some o
theorem Kp.refl (S : List Addr) (H : Hp) : Kp S H H := fun _ _ _ q => q
theorem Kp.trans {S : List Addr} {H H1 H2 : Hp} (a : Kp S H H1) (b : Kp S H1 H2) : Kp S H H2 := fun c o n q => b c o n (a c o n q)
theorem Same.kp {S : List Addr} {H H' : Hp} (a : Same H H') : Kp S H H' := fun b o _ q => a b o q
theorem Kp.one {x b : Addr} {H H' : Hp} {o : HO} (a : Kp [x] H H') (n : b ≠ x) (q : H b = some o) : H' b = some o := a b o (by simp [n]) q
theorem same_upd {H : Hp} {p : Addr} {o : HO} (h : H p = none) : Same H (upd H p o) := fun c u z => by rw [upd_ne (ne_of_none z h)]; exact z
theorem kp_upd {H : Hp} {p : Addr} {o : HO} : Kp [p] H (upd H p o) := fun c u n z => by rw [upd_ne (by simpa using n)]; exact z
theorem Kp.free {H H' : Hp} {S : List Addr} (a : Kp S H H') {p : Addr} (n : p ∉ S) (h : H' p = none) : H p = none := by
  cases q : H p with
  | none => rfl
  | some o => rw [a p o n q] at h; cases h
section
variable {X : Cx}
theorem PE.imp {e : Expr} {t t' : TE} (h : PE X e t) (i : ∀ σ H Q, t' σ H Q → t σ H Q) : PE X e t' := fun pins s σ H Q I w => h pins s σ H Q I (i σ H Q w)
theorem PI.imp {tg e : Expr} {t t' : TI} (h : PI X tg e t) (i : ∀ σ H Q, t' σ H Q → t σ H Q) : PI X tg e t' := fun pins s σ H Q I w => h pins s σ H Q I (i σ H Q w)
theorem CallR.imp {f : Value} {r r' : List V → Hp → VK → Prop} (h : CallR X f r) (i : ∀ xs H Q, r' xs H Q → r xs H Q) : CallR X f r' := fun pins s σ H xs us Q I rx w => h pins s σ H xs us Q I rx (i xs H Q w)
theorem PS.imp {e : Stmt} {t t' : TS} (h : PS X e t) (i : ∀ D σ H, t' D σ H → t D σ H) : PS X e t' := fun pins s σ H D I w => h pins s σ H D I (i D σ H w)
def gt : St → Nat → Option V
  | [], _ => none
  | o :: _, 0 => o
  | _ :: r, n + 1 => gt r n
theorem gt_some : ∀ {σ : St} {i : Nat} {v : V}, gt σ i = some v → σ[i]? = some (some v)
  | [], _, _, h => by simp [gt] at h
  | o :: _, 0, _, h => by simp [gt] at h; simp [h]
  | _ :: r, n + 1, _, h => by simp [gt] at h; simpa using gt_some h
def mVar (i : Nat) : TE := fun σ H Q => match gt σ i with
  | some v => Q v H
  | none => False
theorem mVar_imp {i : Nat} {σ : St} {H : Hp} {Q : VK} (h : mVar i σ H Q) : tVar i σ H Q := by
  unfold mVar at h
  cases e : gt σ i with
  | none => rw [e] at h; exact h.elim
  | some v => rw [e] at h; exact ⟨v, gt_some e, h⟩
theorem mv (i : Nat) {x : Str} {pos : Pos} (hN : X.N[i]? = some x := by rfl) (hv : Vis X.env.scope x := by first | exact Or.inl rfl | exact Or.inr (Or.inl rfl) | exact Or.inr (Or.inr rfl)) (hd : (x == ("__debug__" : Str)) = false := by decide)
    (hcd : (x == ("__classdict__" : Str)) = false := by decide) : PE X (.Name x pos) (mVar i) := (pe_var hN hv hd hcd).imp fun _ _ _ => mVar_imp
@[irreducible] def hNewL (xs : List V) (H : Hp) (Q : VK) : Prop := xs.length ≤ sizeLine ∧ ∀ p, H p = none → Q (.ref p) (upd H p (.lst xs))
@[irreducible] def hNewT (xs : List V) (H : Hp) (Q : VK) : Prop := xs.length ≤ sizeLine ∧ ∀ p, H p = none → Q (.ref p) (upd H p (.tup xs))
@[irreducible] def hCat (a b : Addr) (H : Hp) (Q : VK) : Prop := ∃ xs ys, H a = some (.lst xs) ∧ H b = some (.lst ys) ∧ xs.length + ys.length ≤ sizeLine ∧ ∀ p, H p = none → Q (.ref p) (upd H p (.lst (xs ++ ys)))
@[irreducible] def hRep (a : Addr) (k : Int) (H : Hp) (Q : VK) : Prop := ∃ xs, H a = some (.lst xs) ∧ -(2 ^ 63) ≤ k ∧ k < 2 ^ 63 ∧ xs.length * k.toNat ≤ sizeLine ∧ ∀ p, H p = none → Q (.ref p) (upd H p (.lst (List.replicate k.toNat xs).flatten))
@[irreducible] def hIx (K : PySem.W.Frag) (a : Addr) (i : Int) (H : Hp) (Q : VK) : Prop := ∃ xs v, (SqL K H a xs ∨ SqT K H a xs) ∧ atI xs i = some v ∧ Q v H
@[irreducible] def hSl (K : PySem.W.Frag) (a : Addr) (lo hi : Option Int) (H : Hp) (Q : VK) : Prop := ∃ xs, SqL K H a xs ∧ ∀ p, H p = none → Q (.ref p) (upd H p (.lst (cutV xs lo hi)))
@[irreducible] def hApp (a : Addr) (y : V) (H : Hp) (Q : VK) : Prop := ∃ xs, H a = some (.lst xs) ∧ xs.length < sizeLine ∧ Q .non (upd H a (.lst (xs ++ [y])))
@[irreducible] def hClr (a : Addr) (H : Hp) (Q : VK) : Prop := ∃ xs, H a = some (.lst xs) ∧ Q .non (upd H a (.lst []))
@[irreducible] def hEqL (K : PySem.W.Frag) (a b : Addr) (H : Hp) (Q : Bool → Hp → Prop) : Prop := ∃ ns ms : List Int, SqL K H a (ns.map V.int) ∧ SqL K H b (ms.map V.int) ∧ Q (decide (ns = ms)) H
@[irreducible] def hSum (K : PySem.W.Frag) (a : Addr) (H : Hp) (Q : VK) : Prop := ∃ ns : List Int, SqL K H a (ns.map V.int) ∧ Q (.int ns.sum) H
@[irreducible] def hMax (K : PySem.W.Frag) (a : Addr) (H : Hp) (Q : VK) : Prop := ∃ ns : List Int, SqL K H a (ns.map V.int) ∧ ns ≠ [] ∧ ∀ M, M ∈ ns → (∀ a, a ∈ ns → a ≤ M) → Q (.int M) H
@[irreducible] def hMin (K : PySem.W.Frag) (a : Addr) (H : Hp) (Q : VK) : Prop := ∃ ns : List Int, SqL K H a (ns.map V.int) ∧ ns ≠ [] ∧ ∀ M, M ∈ ns → (∀ a, a ∈ ns → M ≤ a) → Q (.int M) H
@[irreducible] def hSorted (K : PySem.W.Frag) (a : Addr) (H : Hp) (Q : VK) : Prop := ∃ ns : List Int, SqL K H a (ns.map V.int) ∧ ns.length ≤ 1000 ∧ ∀ (l : Addr) (ns' : List Int), H l = none → ns'.Perm ns → ns'.Pairwise (· ≤ ·) → Q (.ref l) (upd H l (.lst (ns'.map V.int)))
@[irreducible] def hLen (K : PySem.W.Frag) (a : Addr) (H : Hp) (Q : VK) : Prop := ∃ ys, (SqL K H a ys ∨ SqT K H a ys) ∧ Q (.int ys.length) H
@[irreducible] def hIsi (K : PySem.W.Frag) (x : V) (c : String) (H : Hp) (Q : VK) : Prop := ∃ t, TyOf K H x (.type t) ∧ t ∈ ["NoneType", "bool", "int", "str", "list", "tuple", "dict"] ∧ c ∈ ["bool", "int", "str", "list", "tuple", "dict"] ∧ Q (.bl (isTy t c)) H
section
variable {H : Hp} {Q : VK} {K : PySem.W.Frag} {a b : Addr}
theorem i_newL {xs : List V} (h : xs.length ≤ sizeLine) (q : ∀ p H', H p = none → Same H H' → H' p = some (.lst xs) → Q (.ref p) H') : hNewL xs H Q := by
  unfold hNewL; exact ⟨h, fun p hp => q p _ hp (same_upd hp) upd_same⟩
theorem i_newT {xs : List V} (h : xs.length ≤ sizeLine) (q : ∀ p H', H p = none → Same H H' → H' p = some (.tup xs) → Q (.ref p) H') : hNewT xs H Q := by
  unfold hNewT; exact ⟨h, fun p hp => q p _ hp (same_upd hp) upd_same⟩
theorem i_cat {xs ys : List V} (h1 : H a = some (.lst xs)) (h2 : H b = some (.lst ys)) (hl : xs.length + ys.length ≤ sizeLine) (q : ∀ p H', H p = none → Same H H' → H' p = some (.lst (xs ++ ys)) → Q (.ref p) H') : hCat a b H Q := by
  unfold hCat; exact ⟨xs, ys, h1, h2, hl, fun p hp => q p _ hp (same_upd hp) upd_same⟩
theorem i_ix {xs : List V} {i : Int} {v : V} (h : SqL K H a xs ∨ SqT K H a xs) (e : atI xs i = some v) (q : Q v H) : hIx K a i H Q := by unfold hIx; exact ⟨xs, v, h, e, q⟩
theorem i_ixN {xs : List V} {i : Int} {v : V} (k : Nat) (h : H a = some (.lst xs)) (hi : i = k) (e : xs[k]? = some v) (q : Q v H) : hIx K a i H Q := by
  subst hi; exact i_ix (.inl (SqL.of h)) (atI_nat e) q
theorem i_ixT {xs : List V} {i : Int} {v : V} (k : Nat) (h : H a = some (.tup xs)) (hi : i = k) (e : xs[k]? = some v) (q : Q v H) : hIx K a i H Q := by
  subst hi; exact i_ix (.inr (SqT.of h)) (atI_nat e) q
theorem i_ixI {ns : List Int} {i : Int} (h : H a = some (.lst (ns.map V.int))) (h0 : 0 ≤ i) (h1 : i < ns.length) (q : Q (.int (ns.getD i.toNat 0)) H) : hIx K a i H Q := by
  have e : i = ((i.toNat : Nat) : Int) := by omega
  refine i_ixN i.toNat h e (v := .int (ns.getD i.toNat 0)) ?_ q
  have hk : i.toNat < ns.length := by omega
  rw [List.getElem?_map, List.getElem?_eq_getElem hk, List.getD_eq_getElem?_getD, List.getElem?_eq_getElem hk]; rfl
theorem i_len {ys : List V} (h : SqL K H a ys ∨ SqT K H a ys) (q : Q (.int ys.length) H) : hLen K a H Q := by unfold hLen; exact ⟨ys, h, q⟩
theorem i_lenI {ns : List Int} (h : H a = some (.lst (ns.map V.int))) (q : Q (.int ns.length) H) : hLen K a H Q := i_len (.inl (SqL.of h)) (by rw [List.length_map]; exact q)
theorem i_lenL {xs : List V} (h : H a = some (.lst xs)) (q : Q (.int xs.length) H) : hLen K a H Q := i_len (.inl (SqL.of h)) q
theorem i_sum {ns : List Int} (h : SqL K H a (ns.map V.int)) (q : Q (.int ns.sum) H) : hSum K a H Q := by unfold hSum; exact ⟨ns, h, q⟩
theorem i_max {ns : List Int} (h : SqL K H a (ns.map V.int)) (hn : ns ≠ []) (q : ∀ M, M ∈ ns → (∀ a, a ∈ ns → a ≤ M) → Q (.int M) H) : hMax K a H Q := by unfold hMax; exact ⟨ns, h, hn, q⟩
theorem i_min {ns : List Int} (h : SqL K H a (ns.map V.int)) (hn : ns ≠ []) (q : ∀ M, M ∈ ns → (∀ a, a ∈ ns → M ≤ a) → Q (.int M) H) : hMin K a H Q := by unfold hMin; exact ⟨ns, h, hn, q⟩
theorem i_sorted {ns : List Int} (h : SqL K H a (ns.map V.int)) (hn : ns.length ≤ 1000) (q : ∀ p H' (ns' : List Int), ns'.Perm ns → H p = none → Same H H' → H' p = some (.lst (ns'.map V.int)) → Q (.ref p) H') : hSorted K a H Q := by
  unfold hSorted; exact ⟨ns, h, hn, fun l ns' hl hp _ => q l _ ns' hp hl (same_upd hl) upd_same⟩
theorem i_sortedS {ns : List Int} (h : SqL K H a (ns.map V.int)) (hn : ns.length ≤ 1000) (q : ∀ p H' (ns' : List Int), ns'.Perm ns → ns'.Pairwise (· ≤ ·) → H p = none → Same H H' → H' p = some (.lst (ns'.map V.int)) → Q (.ref p) H') : hSorted K a H Q := by
  unfold hSorted; exact ⟨ns, h, hn, fun l ns' hl hp hs => q l _ ns' hp hs hl (same_upd hl) upd_same⟩
theorem i_eqL {Q : Bool → Hp → Prop} {ns ms : List Int} (h1 : SqL K H a (ns.map V.int)) (h2 : SqL K H b (ms.map V.int)) (q : Q (decide (ns = ms)) H) : hEqL K a b H Q := by unfold hEqL; exact ⟨ns, ms, h1, h2, q⟩
theorem i_app {xs : List V} {y : V} (h : H a = some (.lst xs)) (hl : xs.length < sizeLine) (q : ∀ H', Kp [a] H H' → H' a = some (.lst (xs ++ [y])) → Q .non H') : hApp a y H Q := by
  unfold hApp; exact ⟨xs, h, hl, q _ kp_upd upd_same⟩
theorem i_appI {ns : List Int} {z : Int} (h : H a = some (.lst (ns.map V.int))) (hl : ns.length < 100000) (q : ∀ H', Kp [a] H H' → H' a = some (.lst ((ns ++ [z]).map V.int)) → Q .non H') : hApp a (.int z) H Q :=
  i_app h (by rw [List.length_map, sizeLine_eq]; omega) fun H' k e => q H' k (by rw [e, List.map_append]; rfl)
theorem i_sl {xs : List V} {lo hi : Option Int} (h : SqL K H a xs) (q : ∀ p H', H p = none → Same H H' → H' p = some (.lst (cutV xs lo hi)) → Q (.ref p) H') : hSl K a lo hi H Q := by
  unfold hSl; exact ⟨xs, h, fun p hp => q p _ hp (same_upd hp) upd_same⟩
end
def vAdd : R2 := fun x y H Q => match x, y with
  | .int i, .int j => Q (.int (i + j)) H
  | .ref a, .ref b => hCat a b H Q
  | .str i, .str j => i.length + j.length ≤ sizeLine ∧ Q (.str (i ++ j)) H
  | _, _ => False
theorem opAdd : OpR X (binaryOp .Add) vAdd := by
  intro pins s σ H x y v u Q I rx ry h
  cases x <;> cases y <;> first
    | exact (show False from h).elim
    | exact op_add pins s σ H _ _ v u Q I rx ry ⟨_, _, rfl, rfl, h⟩
    | (obtain ⟨h1, h2⟩ := (show _ ∧ _ from h); exact op_add_str pins s σ H _ _ v u Q I rx ry ⟨_, _, rfl, rfl, h1, h2⟩)
    | (have h := (show hCat _ _ H Q from h); unfold hCat at h; obtain ⟨xs, ys, h1, h2, h3, h4⟩ := h; exact op_cat pins s σ H _ _ v u Q I rx ry ⟨_, _, xs, ys, rfl, rfl, h1, h2, h3, h4⟩)
def vSub : R2 := fun x y H Q => match x, y with
  | .int i, .int j => Q (.int (i - j)) H
  | _, _ => False
theorem opSub : OpR X (binaryOp .Sub) vSub := by
  intro pins s σ H x y v u Q I rx ry h
  cases x <;> cases y <;> first
    | exact (show False from h).elim
    | exact op_sub pins s σ H _ _ v u Q I rx ry ⟨_, _, rfl, rfl, h⟩
def vMul : R2 := fun x y H Q => match x, y with
  | .int i, .int j => CMul i j ∧ Q (.int (i * j)) H
  | .ref a, .int k => hRep a k H Q
  | _, _ => False
theorem opMul : OpR X (binaryOp .Mult) vMul := by
  intro pins s σ H x y v u Q I rx ry h
  cases x <;> cases y <;> first
    | exact (show False from h).elim
    | (obtain ⟨h1, h2⟩ := (show CMul _ _ ∧ _ from h); exact op_mul pins s σ H _ _ v u Q I rx ry ⟨_, _, rfl, rfl, h1, h2⟩)
    | (have h := (show hRep _ _ H Q from h); unfold hRep at h; obtain ⟨xs, h1, h2, h3, h4, h5⟩ := h; exact op_rep pins s σ H _ _ v u Q I rx ry ⟨_, _, xs, rfl, rfl, h1, h2, h3, h4, h5⟩)
def vMod : R2 := fun x y H Q => match x, y with
  | .int i, .int j => 0 < j ∧ Q (.int (i % j)) H
  | _, _ => False
theorem opMod : OpR X (binaryOp .Mod) vMod := by
  intro pins s σ H x y v u Q I rx ry h
  cases x <;> cases y <;> first
    | exact (show False from h).elim
    | (obtain ⟨h1, h2⟩ := (show (0 : Int) < _ ∧ _ from h); exact op_mod pins s σ H _ _ v u Q I rx ry ⟨_, _, rfl, rfl, h1, h2⟩)
def vFdiv : R2 := fun x y H Q => match x, y with
  | .int i, .int j => (0 < j ∧ j < 2 ^ 200) ∧ Q (.int (i / j)) H
  | _, _ => False
theorem opFdiv : OpR X (binaryOp .FloorDiv) vFdiv := by
  intro pins s σ H x y v u Q I rx ry h
  cases x <;> cases y <;> first
    | exact (show False from h).elim
    | (obtain ⟨h1, h2⟩ := (show ((0 : Int) < _ ∧ _) ∧ _ from h); exact op_fdivL pins s σ H _ _ v u Q I rx ry ⟨_, _, rfl, rfl, h1, h2⟩)
def vPow : R2 := fun x y H Q => match x, y with
  | .int i, .int j => CPow i j ∧ Q (.int (i ^ j.toNat)) H
  | _, _ => False
theorem opPow : OpR X (binaryOp .Pow) vPow := by
  intro pins s σ H x y v u Q I rx ry h
  cases x <;> cases y <;> first
    | exact (show False from h).elim
    | (obtain ⟨h1, h2⟩ := (show CPow _ _ ∧ _ from h); exact op_pow pins s σ H _ _ v u Q I rx ry ⟨_, _, rfl, rfl, h1, h2⟩)
def vLt (p : Int → Int → Bool) : R2 := fun x y H Q => match x, y with
  | .int i, .int j => Q (.bl (p i j)) H
  | _, _ => False
theorem opCmp {op : CmpOp} {p : Int → Int → Bool} (h0 : OpR X (compareOp op) (rI0 fun i j => .bl (p i j))) : OpR X (compareOp op) (vLt p) := by
  intro pins s σ H x y v u Q I rx ry h
  cases x <;> cases y <;> first
    | exact (show False from h).elim
    | exact h0 pins s σ H _ _ v u Q I rx ry ⟨_, _, rfl, rfl, h⟩
theorem opLt : OpR X (compareOp .Lt) (vLt fun i j => decide (i < j)) := opCmp op_lt
theorem opLe : OpR X (compareOp .LtE) (vLt fun i j => decide (i ≤ j)) := opCmp op_le
theorem opGt : OpR X (compareOp .Gt) (vLt fun i j => decide (j < i)) := opCmp op_gt
theorem opGe : OpR X (compareOp .GtE) (vLt fun i j => decide (j ≤ i)) := opCmp op_ge
theorem dI {i j : Int} : decide (V.int i = V.int j) = decide (i = j) := by simp
theorem dS {i j : Str} : decide (V.str i = V.str j) = decide (i = j) := by simp
theorem dB {i j : Bool} : decide (V.bl i = V.bl j) = decide (i = j) := by simp
def vIsN (n : Bool → Bool) : R2 := fun x y H Q => match y with
  | .non => match x with
    | .non => Q (.bl (n true)) H
    | .int _ => Q (.bl (n false)) H
    | .ref _ => Q (.bl (n false)) H
    | .bl _ => Q (.bl (n false)) H
    | .str _ => Q (.bl (n false)) H
    | _ => False
  | _ => False
theorem opIs : OpR X (compareOp .Is) (vIsN id) := by
  intro pins s σ H x y v u Q I rx ry h
  cases y <;> first
    | exact (show False from h).elim
    | (cases x <;> first
      | exact (show False from h).elim
      | exact op_isN pins s σ H _ _ v u Q I rx ry ⟨rfl, h⟩)
theorem opIsNot : OpR X (compareOp .IsNot) (vIsN not) := by
  intro pins s σ H x y v u Q I rx ry h
  cases y <;> first
    | exact (show False from h).elim
    | (cases x <;> first
      | exact (show False from h).elim
      | exact op_notN pins s σ H _ _ v u Q I rx ry ⟨rfl, h⟩)
def vNeg : V → Hp → VK → Prop := fun x H Q => match x with
  | .int i => Q (.int (-i)) H
  | _ => False
theorem unNeg : UnR X (unaryOp .USub) vNeg := by
  intro pins s σ H x v Q I rx h
  cases x <;> first
    | exact (show False from h).elim
    | exact un_neg pins s σ H _ v Q I rx ⟨_, rfl, h⟩
def vIx (K : PySem.W.Frag) : R2 := fun x y H Q => match x, y with
  | .ref a, .int i => hIx K a i H Q
  | _, _ => False
theorem ixM : IxR X (vIx X.K) := by
  intro value slice pins s σ H x y v u Q I rx ry h
  cases x <;> cases y <;> first
    | exact (show False from h).elim
    | (have h := (show hIx _ _ _ H Q from h)
       unfold hIx at h
       obtain ⟨xs, w, h1 | h1, h2, h3⟩ := h
       · exact ix_list value slice pins s σ H _ _ v u Q I rx ry ⟨_, xs, _, w, rfl, rfl, h1, h2, h3⟩
       · exact ix_tup value slice pins s σ H _ _ v u Q I rx ry ⟨_, xs, _, w, rfl, rfl, h1, h2, h3⟩)
def vSl (K : PySem.W.Frag) : V → Option Int → Option Int → Hp → VK → Prop := fun x lo hi H Q => match x with
  | .ref a => hSl K a lo hi H Q
  | _ => False
theorem slM : SlR X (vSl X.K) := by
  intro pins s σ H x v vl vu lo hi sl Q I rx hs pl pu h
  cases x <;> first
    | exact (show False from h).elim
    | (have h := (show hSl _ _ _ _ H Q from h)
       unfold hSl at h
       obtain ⟨xs, h1, h2⟩ := h
       exact sl_list pins s σ H _ v vl vu lo hi sl Q I rx hs pl pu ⟨_, xs, rfl, h1, h2⟩)
def mPart (t : TE) : TO := fun σ H Q => t σ H fun x H1 => match x with
  | .int i => Q (some i) H1
  | _ => False
theorem po_m {e : Expr} {te : TE} (h : PE X e te) : PO X (some e) (mPart te) := by
  intro pins s σ H Q I hw
  rw [evalPart_some]
  refine thn (h pins s σ H _ I hw) fun u s1 ⟨x, H1, I1, r1, q1⟩ => ?_
  cases x <;> first
    | exact (show False from q1).elim
    | (obtain ⟨t, rfl⟩ := r1; exact ⟨some _, H1, I1, .int _ t, q1⟩)
@[irreducible] def hTru (K : PySem.W.Frag) (a : Addr) (H : Hp) (Q : Bool → Hp → Prop) : Prop := ∃ xs, (SqL K H a xs ∨ SqT K H a xs) ∧ Q (!xs.isEmpty) H
def vTru (K : PySem.W.Frag) (x : V) (H : Hp) (Q : Bool → Hp → Prop) : Prop := match x with
  | .bl b => Q b H
  | .int i => Q (i != 0) H
  | .non => Q false H
  | .ref a => hTru K a H Q
  | _ => False
theorem vTru_imp {K : PySem.W.Frag} {x : V} {H : Hp} {Q : Bool → Hp → Prop} (h : vTru K x H Q) : ∃ k, TruV K x H k ∧ Q k H := by
  cases x <;> first
    | exact (show False from h).elim
    | exact ⟨_, rfl, h⟩
    | (have h := (show hTru _ _ H Q from h)
       unfold hTru at h
       obtain ⟨xs, h1 | h1, h2⟩ := h
       · exact ⟨_, .inl ⟨xs, h1, rfl⟩, h2⟩
       · exact ⟨_, .inr (.inl ⟨xs, h1, rfl⟩), h2⟩)
theorem tru_m {pins : List (Addr × Obj)} {s : Shared} {σ : St} {H : Hp} {x : V} {v : Value} {Q : Bool → Hp → Prop} (I : Inv X pins σ H s) (r : RelV x v) (h : vTru X.K x H Q) : wpAny (model X.prog X.w) X.A (truthy v) (TP X pins σ Q) X.xe s :=
  tru_ok pins s σ H x v Q I r (vTru_imp h)
def mT (K : PySem.W.Frag) (t : TE) : TT := fun σ H Q => t σ H fun x H' => vTru K x H' Q
theorem pt_m {a : Expr} {ta : TE} (ha : PE X a ta) (he : ∀ whole, isTrue a X.env whole = (do let v ← whole; standAt a.pos; holding [v] (truthy v)) := by intro _; rfl) : PT X a (mT X.K ta) := by
  intro pins s σ H Q I h
  exact isTrue_plain (thn (ha pins s σ H _ I h) fun v s1 ⟨x, H1, I1, r1, q1⟩ => tru_m I1 r1 q1) (he _)
def mB (t : TE) : TT := fun σ H Q => t σ H fun x H' => match x with
  | .bl k => Q k H'
  | _ => False
section
variable {a b c : Expr} {ta tb tc : TE} {pos : Pos} {tA tB' : TT} {rest : List Expr}
theorem pt_cm {op : CmpOp} {r : R2} (ho : OpR X (compareOp op) r) (ha : PE X a ta) (hb : PE X b tb) (hm : behindInMarks op b = false) : PT X (.Compare a [op] [b] pos) (mB (tOp r ta tb)) := by
  intro pins s σ H Q I h
  refine wpAny_isTrue_Compare1 (thn (ha pins s σ H _ I h) fun v s1 ⟨x, H1, I1, r1, q1⟩ => thn (hb pins s1 σ H1 _ I1 q1) fun u s2 ⟨y, H2, I2, r2, q2⟩ =>
    thn (ho pins s2 σ H2 x y v u _ I2 r1 r2 q2) fun c s3 ⟨z, H3, I3, r3, q3⟩ => ?_) hm
  cases z <;> first
    | exact (show False from q3).elim
    | (cases r3; exact wpAny_truthy_bool ⟨H3, I3, q3⟩)
def mChain (r r' : R2) (ta tb tc : TE) : TE := fun σ H Q => ta σ H fun x H1 => tb σ H1 fun y H2 => r x y H2 fun z H3 => match z with
  | .bl k => (k = true → tc σ H3 fun w' H4 => r' y w' H4 Q) ∧ (k = false → Q (.bl false) H3)
  | _ => False
theorem pe_chm {op op' : CmpOp} {r r' : R2} (ho : OpR X (compareOp op) r) (ho' : OpR X (compareOp op') r') (ha : PE X a ta) (hb : PE X b tb) (hc : PE X c tc)
    (hm : lastMarks [op, op'] [b, c] = false := by with_unfolding_all rfl) : PE X (.Compare a [op, op'] [b, c] pos) (mChain r r' ta tb tc) := by
  intro pins s σ H Q I h
  refine Compare_chain (thn (ha pins s σ H _ I h) fun v s1 ⟨x, H1, I1, r1, q1⟩ => chain_link (thn (hb pins s1 σ H1 _ I1 q1) fun u s2 ⟨y, H2, I2, r2, q2⟩ =>
    thn (ho pins s2 σ H2 x y v u _ I2 r1 r2 q2) fun d s3 ⟨z, H3, I3, r3, q3⟩ => ?_)) hm
  cases z <;> first
    | exact (show False from q3).elim
    | skip
  rename_i k
  cases r3
  refine wpAny_truthy_bool ?_
  cases k with
  | false => exact ite_ff ⟨.bl false, H3, I3, rfl, q3.2 rfl⟩
  | true => exact ite_tt (chain_last (thn (hc pins s3 σ H3 _ I3 (q3.1 rfl)) fun w' s4 ⟨z', H4, I4, r4, q4⟩ => ho' pins s4 σ H4 y z' u w' Q I4 r2 r4 q4))
def mAnd (t u : TT) : TT := fun σ H Q => t σ H fun c H1 => (c = true → u σ H1 Q) ∧ (c = false → Q false H1)
def mOr (t u : TT) : TT := fun σ H Q => t σ H fun c H1 => (c = true → Q true H1) ∧ (c = false → u σ H1 Q)
theorem pw_am (ha : PT X a tA) (hb : PW X (.BoolOp .And (b :: rest) pos) tB') : PW X (.BoolOp .And (a :: b :: rest) pos) (mAnd tA tB') := by
  intro wh pins s σ H Q I h
  refine isTrue_and (thn (ha pins s σ H _ I h) fun c s1 ⟨H1, I1, q1⟩ => ?_)
  cases c with
  | true => exact hb wh pins s1 σ H1 Q I1 (q1.1 rfl)
  | false => exact ⟨H1, I1, q1.2 rfl⟩
theorem pw_om (ha : PT X a tA) (hb : PW X (.BoolOp .Or (b :: rest) pos) tB') : PW X (.BoolOp .Or (a :: b :: rest) pos) (mOr tA tB') := by
  intro wh pins s σ H Q I h
  refine isTrue_or (thn (ha pins s σ H _ I h) fun c s1 ⟨H1, I1, q1⟩ => ?_)
  cases c with
  | true => exact ⟨H1, I1, q1.1 rfl⟩
  | false => exact hb wh pins s1 σ H1 Q I1 (q1.2 rfl)
def mAndV (K : PySem.W.Frag) (ta tb : TE) : TE := fun σ H Q => ta σ H fun x H1 => vTru K x H1 fun c H2 => (c = true → tb σ H2 Q) ∧ (c = false → Q x H2)
def mNotV (K : PySem.W.Frag) (ta : TE) : TE := fun σ H Q => ta σ H fun x H1 => vTru K x H1 fun c H2 => Q (.bl (!c)) H2
theorem pe_am (ha : PE X a ta) (hb : PE X (.BoolOp .And (b :: rest) pos) tb) : PE X (.BoolOp .And (a :: b :: rest) pos) (mAndV X.K ta tb) := by
  intro pins s σ H Q I h
  refine BoolOp_and (thn (ha pins s σ H _ I h) fun v s1 ⟨x, H1, I1, r1, q1⟩ => ?_)
  refine thn (tru_m I1 r1 q1) fun c s2 ⟨H2, I2, q2⟩ => ?_
  cases c with
  | true => exact hb pins s2 σ H2 Q I2 (q2.1 rfl)
  | false => exact ⟨x, H2, I2, r1, q2.2 rfl⟩
theorem pe_nm (ha : PE X a ta) : PE X (.UnaryOp .Not a pos) (mNotV X.K ta) := by
  intro pins s σ H Q I h
  refine UnaryOp_ (thn (ha pins s σ H _ I h) fun v s1 ⟨x, H1, I1, r1, q1⟩ => ?_)
  exact not_of (thn (tru_m I1 r1 q1) fun c s2 ⟨H2, I2, q2⟩ => ⟨.bl (!c), H2, I2, rfl, q2⟩)
end
section
variable {st : Stmt} {rest : List Stmt} {t u : TS} {e : Expr} {te : TE} {pos : Pos}
def mIfS (c : TT) (t u : TS) : TS := fun D σ H => c σ H fun b H1 => (b = true → t D σ H1) ∧ (b = false → u D σ H1)
theorem ps_ifm {c : Expr} {a b : List Stmt} {tc : TT} (hc : PT X c tc) (ha : PSs X a t) (hb : PSs X b u) : PS X (.If c a b pos) (mIfS tc t u) := by
  intro pins s σ H D I h
  refine wpAny_If (thn (hc pins s σ H _ I h) fun d s1 ⟨H1, I1, q1⟩ => ?_)
  cases d with
  | true => exact ha pins s1 σ H1 D I1 (q1.1 rfl)
  | false => exact hb pins s1 σ H1 D I1 (q1.2 rfl)
def mMid (t u : TS) : TS := fun D σ H => ∃ M : St → Hp → Prop, t { D with nx := M } σ H ∧ ∀ σ' H', M σ' H' → u D σ' H'
theorem pss_mid (h1 : PS X st t) (h2 : PSs X rest u) : PSs X (st :: rest) (mMid t u) := by
  intro pins s σ H D I h
  obtain ⟨M, h, hM⟩ := h
  refine wpAny_execs_cons (thn (h1 pins s σ H { D with nx := M } I h) fun f s1 q => ?_)
  cases f with
  | next =>
    obtain ⟨σ', H', I', q⟩ := q
    exact h2 pins s1 σ' H' D I' (hM _ _ q)
  | ret v => exact q
  | brk => exact q
  | cont => exact q
def mWhile (c : TT) (tb : TS) : TS := fun D σ H => ∃ W : Nat → St → Hp → Prop, (∃ m, W m σ H) ∧ ∀ m σ H, W m σ H →
  c σ H fun b H1 => (b = true → tb { D with nx := fun σ' H' => ∃ m', m' < m ∧ W m' σ' H', ct := fun σ' H' => ∃ m', m' < m ∧ W m' σ' H', bk := D.nx } σ H1) ∧ (b = false → D.nx σ H1)
theorem ps_whm {c : Expr} {body : List Stmt} {tc : TT} {tb : TS} (hp : PassesOwn (model X.prog X.w) X.A X.env X.xe) (hc : PT X c tc) (hb : PSs X body tb) : PS X (.While c body [] pos) (mWhile tc tb) := by
  intro pins s σ H D I h
  obtain ⟨W, ⟨m0, w0⟩, turn⟩ := h
  refine wpAny_While (codeAny_whileLoop (fun n s' => ∃ σ' H', Inv X pins σ' H' s' ∧ W n σ' H') ?_ m0 ⟨σ, H, I, w0⟩)
  rintro n s1 ⟨σ1, H1, I1, w1⟩
  refine wpAny_passesOwn hp (thn (hc pins s1 σ1 H1 _ I1 (turn n σ1 H1 w1)) fun b s2 ⟨H2, I2, q2⟩ => ?_)
  cases b with
  | true =>
    rw [if_pos rfl]
    refine wpAny_passesOwn hp (thn (hb pins s2 σ1 H2 _ I2 (q2.1 rfl)) fun f s3 q3 => ?_)
    cases f with
    | next =>
      obtain ⟨σ3, H3, I3, m', hm, w3⟩ := q3
      exact ⟨m', hm, σ3, H3, I3, w3⟩
    | cont =>
      obtain ⟨σ3, H3, I3, m', hm, w3⟩ := q3
      exact ⟨m', hm, σ3, H3, I3, w3⟩
    | brk => exact q3
    | ret v => exact q3
  | false =>
    rw [if_neg Bool.false_ne_true]
    exact wpAny_execs_nil ⟨σ1, H2, I2, q2.2 rfl⟩
theorem while_m {c : TT} {tb : TS} {D : Ends} {σ : St} {H : Hp} (W : Nat → St → Hp → Prop) (m : Nat) (h0 : W m σ H)
    (hs : ∀ m σ H, W m σ H → c σ H fun b H1 => (b = true → tb { D with nx := fun σ' H' => ∃ m', m' < m ∧ W m' σ' H', ct := fun σ' H' => ∃ m', m' < m ∧ W m' σ' H', bk := D.nx } σ H1) ∧ (b = false → D.nx σ H1)) : mWhile c tb D σ H := ⟨W, ⟨m, h0⟩, hs⟩
def mAug (i : Nat) (te : TE) (ti : TIp) : TS := fun D σ H => match gt σ i with
  | some x => te σ H fun y H1 => ti x y H1 fun z H2 => D.nx (σ.set i (some z)) H2
  | none => False
theorem ps_augm {i : Nat} {x : Str} {e : Expr} {te : TE} {op : Operator} {ti : TIp} {pos' : Pos} (hN : X.N.Nodup) (hi : X.N[i]? = some x) (hx : Loc X.env.scope x) (he : PE X e te) (ho : PIp X op ti) (hf : X.fn x = true ∨ X.env.scope.names.lookup x = some .local := by first | exact .inl rfl | exact .inr rfl | assumption) :
    PS X (.AugAssign (.Name x pos') op e pos) (mAug i te ti) := (ps_aug hN hi hx he ho hf).imp fun D σ H h => by
  unfold mAug at h
  cases e : gt σ i with
  | none => rw [e] at h; exact h.elim
  | some v => rw [e] at h; exact ⟨v, gt_some e, h⟩
def vIpI (f : Int → Int → Int) : TIp := fun x y H Q => match x, y with
  | .int i, .int j => Q (.int (f i j)) H
  | _, _ => False
theorem ipAdd : PIp X .Add (vIpI fun i j => i + j) := by
  intro pins s σ H x y v u Q I r1 r2 h
  cases x <;> cases y <;> first
    | exact (show False from h).elim
    | exact ip_add pins s σ H _ _ v u Q I r1 r2 ⟨_, _, rfl, rfl, h⟩
theorem ipSub : PIp X .Sub (vIpI fun i j => i - j) := by
  intro pins s σ H x y v u Q I r1 r2 h
  cases x <;> cases y <;> first
    | exact (show False from h).elim
    | exact ip_sub pins s σ H _ _ v u Q I r1 r2 ⟨_, _, rfl, rfl, h⟩
end
def mLst (t : TA) : TE := fun σ H Q => t σ H fun xs H1 => hNewL xs H1 Q
def mTup (t : TA) : TE := fun σ H Q => t σ H fun xs H1 => hNewT xs H1 Q
theorem pe_lm {es : List Expr} {t : TA} {pos : Pos} (h : PA X es t) : PE X (.List es pos) (mLst t) := by
  intro pins s σ H Q I w
  refine pe_lst (t := fun σ H Q => t σ H Q) h pins s σ H Q I ?_
  have w' : t σ H fun xs H1 => hNewL xs H1 Q := w
  unfold hNewL at w'
  exact w'
theorem pe_tm {x1 : Nat} {es : List Expr} {t : TA} {pos : Pos} (h : PA X es t) : PE X (.Tuple es x1 pos) (mTup t) := by
  intro pins s σ H Q I w
  refine pe_tup (t := fun σ H Q => t σ H Q) h pins s σ H Q I ?_
  have w' : t σ H fun xs H1 => hNewT xs H1 Q := w
  unfold hNewT at w'
  exact w'
def vApp : V → List V → Hp → VK → Prop := fun x vs H Q => match x, vs with
  | .ref a, [y] => hApp a y H Q
  | _, _ => False
theorem mtApp : MtM X "list.append" vApp := by
  intro pins s σ H x vs v us Q I rx rv h
  unfold vApp at h
  split at h
  · unfold hApp at h; obtain ⟨xs, h1, h2, h3⟩ := h; exact mt_append pins s σ H _ _ v us Q I rx rv ⟨_, xs, _, rfl, rfl, h1, h2, h3⟩
  · exact h.elim
theorem i_tyL {K : PySem.W.Frag} {H : Hp} {a : Addr} {xs : List V} (h : H a = some (.lst xs)) : tyV K "list" (.ref a) H := .inl ⟨rfl, _, SqL.of h⟩
def vSum (K : PySem.W.Frag) : List V → Hp → VK → Prop := fun xs H Q => match xs with
  | [.ref a] => hSum K a H Q
  | _ => False
theorem callSum (hc : X.calm = true) : CallR X (.builtin "sum") (vSum X.K) := (call_sum hc).imp fun xs H Q h => by
  unfold vSum at h; split at h
  · unfold hSum at h; obtain ⟨ns, h1, h2⟩ := h; exact ⟨_, ns, rfl, h1, h2⟩
  · exact h.elim
def vMax (K : PySem.W.Frag) : List V → Hp → VK → Prop := fun xs H Q => match xs with
  | [.ref a] => hMax K a H Q
  | [.int i, .int j] => Q (.int (max i j)) H
  | _ => False
theorem callMax (hc : X.calm = true) : CallR X (.builtin "max") (vMax X.K) := ((call_max hc).or (call_max2 hc)).imp fun xs H Q h => by
  unfold vMax at h; split at h
  · unfold hMax at h; obtain ⟨ns, h1, h2⟩ := h; exact .inl ⟨_, ns, rfl, h1, h2⟩
  · refine .inr ⟨_, _, rfl, ?_⟩
    rename_i i j
    have e : (if j > i then j else i) = max i j := by split <;> omega
    rw [e]; exact h
  · exact h.elim
def vMin (K : PySem.W.Frag) : List V → Hp → VK → Prop := fun xs H Q => match xs with
  | [.ref a] => hMin K a H Q
  | [.int i, .int j] => Q (.int (min i j)) H
  | _ => False
theorem callMin (hc : X.calm = true) : CallR X (.builtin "min") (vMin X.K) := ((call_min hc).or (call_min2 hc)).imp fun xs H Q h => by
  unfold vMin at h; split at h
  · unfold hMin at h; obtain ⟨ns, h1, h2⟩ := h; exact .inl ⟨_, ns, rfl, h1, h2⟩
  · refine .inr ⟨_, _, rfl, ?_⟩
    rename_i i j
    have e : (if j < i then j else i) = min i j := by split <;> omega
    rw [e]; exact h
  · exact h.elim
def vLen (K : PySem.W.Frag) : List V → Hp → VK → Prop := fun xs H Q => match xs with
  | [.ref a] => hLen K a H Q
  | _ => False
theorem callLen : CallR X (.builtin "len") (vLen X.K) := call_len_seq.imp fun xs H Q h => by
  unfold vLen at h; split at h
  · unfold hLen at h; obtain ⟨ys, h1, h2⟩ := h; exact ⟨_, ys, rfl, h1, h2⟩
  · exact h.elim
def vSorted (K : PySem.W.Frag) : List V → Hp → VK → Prop := fun xs H Q => match xs with
  | [.ref a] => hSorted K a H Q
  | _ => False
theorem callSorted : CallR X (.builtin "sorted") (vSorted X.K) := call_sorted.imp fun xs H Q h => by
  unfold vSorted at h; split at h
  · unfold hSorted at h; obtain ⟨ys, h1, h2⟩ := h; exact ⟨_, ys, rfl, h1, h2⟩
  · exact h.elim
def vInt : List V → Hp → VK → Prop := fun xs H Q => match xs with
  | [.int i] => Q (.int i) H
  | [.bl k] => Q (.int (if k then 1 else 0)) H
  | _ => False
theorem callInt : CallR X (.type "int") vInt := call_int1.imp fun xs H Q h => by
  unfold vInt at h; split at h
  · exact .inl ⟨_, rfl, h⟩
  · exact .inr ⟨_, rfl, h⟩
  · exact h.elim
def vIsi (K : PySem.W.Frag) : List V → Hp → VK → Prop := fun xs H Q => match xs with
  | [x, .ty c] => hIsi K x c H Q
  | _ => False
theorem callIsi : CallR X (.builtin "isinstance") (vIsi X.K) := call_isinstance.imp fun xs H Q h => by
  unfold vIsi at h; split at h
  · unfold hIsi at h; obtain ⟨t, h1, h2⟩ := h; exact ⟨_, t, _, rfl, h1, h2⟩
  · exact h.elim
end
section
variable {X : Cx} {tg : Expr}
def mItL (K : PySem.W.Frag) (tl : TE) : TI := fun σ H R => tl σ H fun x H1 => match x with
  | .ref a => (∃ xs, SqL K H1 a xs) ∧ R (Itl K a) H1
  | _ => False
theorem pi_lm {l : Expr} {tl : TE} (hl : PE X l tl) : PI X tg l (mItL X.K tl) := by
  intro pins s σ H R I h
  refine thn (hl pins s σ H _ I h) fun v s1 ⟨x, H1, I1, r1, q1⟩ => ?_
  cases x <;> first
    | exact (show False from q1).elim
    | skip
  rename_i a
  obtain ⟨⟨xs, hq⟩, q⟩ := (show (∃ xs, SqL X.K H1 a xs) ∧ R (Itl X.K a) H1 from q1)
  cases r1
  obtain ⟨its, rv, p, hz⟩ := I1.list hq
  refine wpAny_pyIter_list p.isList ?_
  refine ⟨s1.heap.objs.size, [s1.heap.objs.size], _, _, H1, rfl, I1.kept (t' := s1.toks) fun b o e => Heap.get?_push_of_some _ e, turn_list a _, ⟨_, Heap.get?_push_size _ rfl, rfl, rfl⟩, fun b hb => ?_, q⟩
  have e : b = s1.heap.objs.size := by simpa using hb
  subst e
  exact I1.fpOk (Nat.le_refl _) (I1.hok.fresh (Nat.le_refl _))
def mItT (K : PySem.W.Frag) (tl : TE) : TI := fun σ H R => tl σ H fun x H1 => match x with
  | .ref a => (∃ xs, SqT K H1 a xs) ∧ R (Itt K a) H1
  | _ => False
theorem pi_tm {l : Expr} {tl : TE} (hl : PE X l tl) : PI X tg l (mItT X.K tl) := by
  intro pins s σ H R I h
  refine thn (hl pins s σ H _ I h) fun v s1 ⟨x, H1, I1, r1, q1⟩ => ?_
  cases x <;> first
    | exact (show False from q1).elim
    | skip
  rename_i a
  obtain ⟨⟨xs, hq⟩, q⟩ := (show (∃ xs, SqT X.K H1 a xs) ∧ R (Itt X.K a) H1 from q1)
  cases r1
  obtain ⟨its, rv, p, hz⟩ := I1.tuple hq
  refine wpAny_pyIter_tuple (show s1.heap.IsTuple a its.toArray from p) ?_
  refine ⟨s1.heap.objs.size, [s1.heap.objs.size], _, _, H1, rfl, I1.kept (t' := s1.toks) fun b o e => Heap.get?_push_of_some _ e, turn_tuple a _, ⟨_, Heap.get?_push_size _ rfl, rfl, rfl⟩, fun b hb => ?_, q⟩
  have e : b = s1.heap.objs.size := by simpa using hb
  subst e
  exact I1.fpOk (Nat.le_refl _) (I1.hok.fresh (Nat.le_refl _))
def upA (t : TA) : TA := fun σ H Q => ∃ P : List V → Hp → Prop, t σ H P ∧ ∀ vs H1, P vs H1 → Q vs H1
theorem PA.up {es : List Expr} {t : TA} (h : PA X es t) : PA X es (upA t) := by
  intro pos pins s σ H Q I w
  obtain ⟨P, w, hP⟩ := w
  exact thn (h pos pins s σ H P I w) fun us s1 ⟨vs, H1, I1, r1, q1⟩ => ⟨vs, H1, I1, r1, hP _ _ q1⟩
def mRng1 (ta : TA) : TI := fun σ H R => ta σ H fun vs H1 => match vs with
  | [.int j] => (-(2 ^ 62) ≤ j ∧ j < 2 ^ 62) ∧ R (Itr 0 j.toNat) H1
  | _ => False
def mRngD (ta : TA) : TI := fun σ H R => ta σ H fun vs H1 => match vs with
  | [.int i, .int j, .int k] => k = -1 ∧ (-(2 ^ 61) ≤ i ∧ i < 2 ^ 61 ∧ -(2 ^ 61) ≤ j ∧ j < 2 ^ 61) ∧ R (Itd i (i - j).toNat) H1
  | _ => False
def mEnum (K : PySem.W.Frag) (ta : TA) : TI := fun σ H R => ta σ H fun vs H1 => match vs with
  | [.ref a] => (∃ xs, SqL K H1 a xs) ∧ R (Ite K a) H1
  | _ => False
theorem pi_r1 {a : Expr} {ta : TA} {p pos : Pos} (hg : Gl X "range") (hm : X.mg "range" = none) (ha : PA X [a] ta) (hs : starEach [a] X.env = [(false, eval a X.env)] := by rfl) : PI X tg (.Call (.Name "range" p) [a] [] pos) (mRng1 ta) :=
  (pi_range1 hg hm ha.up hs).imp fun σ H R h => ⟨_, h, fun vs H1 q => by
    split at q
    · exact ⟨_, rfl, q.1.1, q.1.2, q.2⟩
    · exact q.elim⟩
theorem pi_rd {a b c : Expr} {ta : TA} {p pos : Pos} (hg : Gl X "range") (hm : X.mg "range" = none) (ha : PA X [a, b, c] ta) (hs : starEach [a, b, c] X.env = [(false, eval a X.env), (false, eval b X.env), (false, eval c X.env)] := by rfl) (hs2 : starEach [b, c] X.env = [(false, eval b X.env), (false, eval c X.env)] := by rfl) :
    PI X tg (.Call (.Name "range" p) [a, b, c] [] pos) (mRngD ta) := (pi_down hg hm ha.up hs hs2).imp fun σ H R h => ⟨_, h, fun vs H1 q => by
    split at q
    · obtain ⟨rfl, q1, q2⟩ := q; exact ⟨_, _, rfl, q1, q2⟩
    · exact q.elim⟩
theorem pi_en {elts : List Expr} {x1 : Nat} {tpos : Pos} {l : Expr} {ta : TA} {p pos : Pos} (hg : Gl X "enumerate") (hm : X.mg "enumerate" = none) (ha : PA X [l] ta) (hs : starEach [l] X.env = [(false, eval l X.env)] := by rfl) : PI X (.Tuple elts x1 tpos) (.Call (.Name "enumerate" p) [l] [] pos) (mEnum X.K ta) :=
  (pi_enum hg hm ha.up hs).imp fun σ H R h => ⟨_, h, fun vs H1 q => by
    split at q
    · exact ⟨_, rfl, q.1, q.2⟩
    · exact q.elim⟩
@[irreducible] def hUnp (K : PySem.W.Frag) (a : Addr) (n : Nat) (H : Hp) (Q : List V → Prop) : Prop := ∃ xs, SqT K H a xs ∧ xs.length = n ∧ Q xs
theorem i_unp {K : PySem.W.Frag} {a : Addr} {n : Nat} {H : Hp} {Q : List V → Prop} {xs : List V} (h : H a = some (.tup xs)) (hl : xs.length = n) (q : Q xs) : hUnp K a n H Q := by unfold hUnp; exact ⟨xs, SqT.of h, hl, q⟩
def gTm (K : PySem.W.Frag) (n : Nat) (t : TGs) : TG := fun v σ H Q => match v with
  | .ref a => hUnp K a n H fun xs => t xs σ H Q
  | _ => False
theorem pg_tm {es : List Expr} {k : Nat} {t : TGs} {n : Nat} {pos : Pos} (hc : X.calm = true) (h : PGs X es t)
    (hn : (assignEach es X.env).length = n := by rfl) (hst : (assignEach es X.env).findIdx? (·.1) = none := by rfl) : PG X (.Tuple es k pos) (gTm X.K n t) := by
  intro pins s σ H v u Q I r hw
  cases v <;> first
    | exact (show False from hw).elim
    | skip
  rename_i a
  have hw := (show hUnp X.K a n H _ from hw)
  unfold hUnp at hw
  obtain ⟨xs, h1, h2, h3⟩ := hw
  exact pg_tup hc h hn hst pins s σ H _ u Q I r ⟨a, xs, rfl, h1, h2, h3⟩
def gNm : TGs := fun vs σ H Q => match vs with
  | [] => Q σ H
  | _ => False
def gCm (t : TG) (u : TGs) : TGs := fun vs σ H Q => match vs with
  | v :: r => t v σ H fun σ' H' => u r σ' H' Q
  | [] => False
theorem pgs_nm : PGs X [] gNm := by
  intro pins s σ H vs us Q I r h
  cases vs with
  | nil => exact pgs_nil pins s σ H _ us Q I r ⟨rfl, h⟩
  | cons v vs => exact (show False from h).elim
theorem pgs_cm {e : Expr} {es : List Expr} {t : TG} {u : TGs} (h1 : PG X e t) (h2 : PGs X es u)
    (hs : (assignEach (e :: es) X.env).map (·.2) = assign e X.env :: (assignEach es X.env).map (·.2) := by rfl) : PGs X (e :: es) (gCm t u) := by
  intro pins s σ H vs us Q I r h
  cases vs with
  | nil => exact (show False from h).elim
  | cons v vs => exact pgs_cons h1 h2 hs pins s σ H _ us Q I r ⟨v, vs, rfl, h⟩
end
theorem dec2 {p A B : Prop} [Decidable p] (h1 : p → A) (h2 : ¬ p → B) : (decide p = true → A) ∧ (decide p = false → B) := ⟨fun h => h1 (of_decide_eq_true h), fun h => h2 (of_decide_eq_false h)⟩
theorem ndec2 {p A B : Prop} [Decidable p] (h1 : ¬ p → A) (h2 : p → B) : ((!decide p) = true → A) ∧ ((!decide p) = false → B) := ⟨fun h => h1 (by simpa using h), fun h => h2 (by simpa using h)⟩
theorem bT {A B : Prop} (h : A) : (true = true → A) ∧ (true = false → B) := ⟨fun _ => h, fun z => nomatch z⟩
theorem bF {A B : Prop} (h : B) : (false = true → A) ∧ (false = false → B) := ⟨fun z => (nomatch z), fun _ => h⟩
theorem b2 {b : Bool} {A B : Prop} (h1 : b = true → A) (h2 : b = false → B) : (b = true → A) ∧ (b = false → B) := ⟨h1, h2⟩
theorem bIs {b : Bool} {A B : Prop} (hb : b = true) (h : A) : (b = true → A) ∧ (b = false → B) := ⟨fun _ => h, fun z => by rw [hb] at z; cases z⟩
theorem bNo {b : Bool} {A B : Prop} (hb : b = false) (h : B) : (b = true → A) ∧ (b = false → B) := ⟨fun z => (by rw [hb] at z; cases z), fun _ => h⟩
theorem dNo {p A B : Prop} [Decidable p] (hp : ¬ p) (h : B) : (decide p = true → A) ∧ (decide p = false → B) := bNo (decide_eq_false hp) h
end L2
set_option linter.all false
set_option Elab.async false
set_option maxRecDepth 100000
set_option maxHeartbeats 4000000
namespace L2
open PySem PySem.Spec PyProof.Rows
section
variable {X : Cx}
theorem any_plain {pos : Pos} {env : Env} : ∀ {es : List Expr}, es.all plainE = true → (backTo pos (starEach es env)).any (·.1) = false
  | [], _ => rfl
  | e :: es, h => by
    rw [List.all_cons, Bool.and_eq_true] at h
    rw [star_plain h.1]
    have := any_plain (pos := pos) (env := env) h.2
    simp only [backTo, List.map_cons, List.any_cons] at this ⊢
    rw [this]; rfl
theorem star_plains {env : Env} : ∀ {es : List Expr}, es.all plainE = true → starEach es env = es.map fun e => (false, eval e env)
  | [], _ => rfl
  | e :: es, h => by
    rw [List.all_cons, Bool.and_eq_true] at h
    rw [star_plain h.1, star_plains h.2]; rfl
def noComp : Expr → Bool
  | .ListComp .. => false
  | .SetComp .. => false
  | .DictComp .. => false
  | _ => true
theorem swaps_plain {e : Expr} {t : Option Expr} {n : Nat} {env : Env} (h : noComp e = true) : swapsWith e t n env = pure false := by
  cases e <;> first | rfl | cases h
theorem ps_st {i : Nat} {x : Str} {e : Expr} {te : TE} {pos pos' : Pos} (hN : X.N.Nodup) (hi : X.N[i]? = some x) (hx : Loc X.env.scope x) (he : PE X e te) (hs : noComp e = true := by rfl) (hf : X.fn x = true ∨ X.env.scope.names.lookup x = some .local := by first | exact .inl rfl | exact .inr rfl | assumption) :
    PS X (.Assign [.Name x pos'] e pos) (tAsg te (gName i)) := ps_set hN hi hx he (swaps_plain hs) hf
theorem ps_ex {e : Expr} {te : TE} {pos : Pos} (he : PE X e te) (hs : noComp e = true := by rfl) : PS X (.Expr e pos) (tDrop te) := ps_expr he (swaps_plain hs)
structure Def (P : Program) (w : World) (K : PySem.W.Frag) (mg : Str → Option Value) (base : Heap) (k : Nat) (x : Str) (ps : List Str) (sp : Sp) : Prop where
  ex : ∃ f fd, FnOk P w K mg base CX0 k f fd ps sp ∧ Binds K fd ps [] ∧ PySem.W.keepIn K (.ref f) = true ∧ mg x = some (.ref f)
theorem pe_def {k j : Nat} {x : Str} {ps : List Str} {sp : Sp} {e : Expr} {es : List Expr} {t : TA} {p pos : Pos} (D : Def X.prog X.w X.K X.mg X.base k x ps sp) (hr : Room j X.A) (hj : k ≤ j) (hg : Gl X x) (ha : PA X (e :: es) t) (hp : (e :: es).all plainE = true := by rfl) (hdb : (x == ("__debug__" : Str)) = false := by decide) :
    PE X (.Call (.Name x p) (e :: es) [] pos) (tCall sp [] E0 t) := by
  obtain ⟨f, fd, F, b, kp, m⟩ := D.ex
  rw [List.all_cons, Bool.and_eq_true] at hp
  exact pe_call F (hr.mono hj) hg m kp b .nil pass0 ha (hdb := hdb) (he := star_plain hp.1) (hpl := any_plain hp.2)
theorem pe_cB {x : Str} {id : String} {r : List V → Hp → VK → Prop} {e : Expr} {es : List Expr} {t : TA} {p pos : Pos} (hc : CallR X (.builtin id) r) (hg : Gl X x) (hm : X.mg x = none) (hv : bootBuiltins x = some (.builtin id)) (ha : PA X (e :: es) t) (hp : (e :: es).all plainE = true := by rfl) (hn : x ≠ "__name__" := by decide) (hdb : (x == ("__debug__" : Str)) = false := by decide) :
    PE X (.Call (.Name x p) (e :: es) [] pos) (tCB r t) := by
  rw [List.all_cons, Bool.and_eq_true] at hp
  exact pe_callB hc hg hm hv ha hn hdb (star_plain hp.1) (any_plain hp.2)
theorem pe_cT {x : Str} {T : String} {r : List V → Hp → VK → Prop} {e : Expr} {es : List Expr} {t : TA} {p pos : Pos} (hc : CallR X (.type T) r) (hg : Gl X x) (hm : X.mg x = none) (hv : bootBuiltins x = some (.type T)) (ha : PA X (e :: es) t) (hp : (e :: es).all plainE = true := by rfl) (hn : x ≠ "__name__" := by decide) (hdb : (x == ("__debug__" : Str)) = false := by decide) :
    PE X (.Call (.Name x p) (e :: es) [] pos) (tCB r t) := by
  rw [List.all_cons, Bool.and_eq_true] at hp
  exact pe_callTy hc hg hm hv ha hn hdb (star_plain hp.1) (any_plain hp.2)
theorem few_plain {cpos : Pos} {e : Expr} {env : Env} (hp : plainE e = true) : ((backTo cpos (starEach [e] env)).all (fun x => !x.1) && (backToKw cpos (keywordEach [] env)).all (fun x => x.1.isSome)
      && decide (([e] : List Expr).length + ([] : List Keyword).length + (if ([] : List Keyword).isEmpty then 0 else 1) < 30)) = true := by
  rw [star_plain hp]; rfl
theorem pe_m1 {o e : Expr} {to te : TE} {name : Str} {apos cpos : Pos} {T id : String} {r : V → List V → Hp → VK → Prop} (pa : PlainAttrs T) (slot : Slot T name id) (hty : typeOf (.builtin id) = pure (.type "method_descriptor")) (hm : MtR X id r) (ho : PE X o to) (ha : PE X e te)
    (hp : plainE e = true := by rfl) (hbase : attributeBase o name X.env (eval o X.env) = eval o X.env := by rfl) (hline : (apos.endLine == cpos.line) = true := by rfl) :
    PE X (.Call (.Attribute o name apos) [e] [] cpos) (tBM X.K T r to (tCons te tNil)) :=
  pe_bm pa slot hty hm ho (pac ha pa_nil hp) hbase (few_plain hp) hline (star_plain hp) rfl
theorem pi_k1 {tg a : Expr} {ta : TA} {p pos : Pos} (hg : Gl X "range") (hm : X.mg "range" = none) (ha : PA X [a] ta) (hp : plainE a = true := by rfl) : PI X tg (.Call (.Name "range" p) [a] [] pos) (mRng1 ta) := pi_r1 hg hm ha (star_plain hp)
theorem pi_k3 {tg a b c : Expr} {ta : TA} {p pos : Pos} (hg : Gl X "range") (hm : X.mg "range" = none) (ha : PA X [a, b, c] ta) (hp : [a, b, c].all plainE = true := by rfl) : PI X tg (.Call (.Name "range" p) [a, b, c] [] pos) (mRngD ta) := by
  have h2 : [b, c].all plainE = true := by simp only [List.all_cons, List.all_nil, Bool.and_true, Bool.and_eq_true] at hp ⊢; exact hp.2
  exact pi_rd hg hm ha (star_plains hp) (star_plains h2)
theorem pi_ke {elts : List Expr} {x1 : Nat} {tpos : Pos} {l : Expr} {ta : TA} {p pos : Pos} (hg : Gl X "enumerate") (hm : X.mg "enumerate" = none) (ha : PA X [l] ta) (hp : plainE l = true := by rfl) : PI X (.Tuple elts x1 tpos) (.Call (.Name "enumerate" p) [l] [] pos) (mEnum X.K ta) := pi_en hg hm ha (star_plain hp)
def noSet : Expr → Bool
  | .Set .. => false
  | _ => true
theorem fold_plain {e : Expr} {env : Env} (h : noSet e = true) : ∀ x, foldedSetIterable e env x = pure x := by
  intro x; cases e <;> first | rfl | cases h
theorem ps_fr {tg iter : Expr} {body : List Stmt} {wi : TI} {g : TG} {tb : TS} {pos : Pos} (hp : PassesOwn (model X.prog X.w) X.A X.env X.xe) (hc : X.calm = true) (hi : PI X tg iter wi) (hg : PG X tg g) (hb : PSs X body tb)
    (hs : noSet iter = true := by rfl) : PS X (.For tg iter body [] pos) (tFor wi g tb) := ps_for hp hc hi hg hb (fold_plain hs)
def plainG : Expr → Bool
  | .Starred .. => false
  | _ => true
theorem assign_plain {e : Expr} {es : List Expr} {env : Env} (h : plainG e = true) : assignEach (e :: es) env = (false, assign e env) :: assignEach es env := by
  cases e <;> first | rfl | cases h
theorem pgs_c {e : Expr} {es : List Expr} {t : TG} {u : TGs} (h1 : PG X e t) (h2 : PGs X es u) (hp : plainG e = true := by rfl) : PGs X (e :: es) (gCm t u) := pgs_cm h1 h2 (by rw [assign_plain hp]; rfl)
theorem assign_plains {env : Env} : ∀ {es : List Expr}, es.all plainG = true → (assignEach es env).length = es.length ∧ (assignEach es env).findIdx? (·.1) = none
  | [], _ => ⟨rfl, rfl⟩
  | e :: es, h => by
    rw [List.all_cons, Bool.and_eq_true] at h
    obtain ⟨h1, h2⟩ := assign_plains (env := env) h.2
    rw [assign_plain h.1]
    refine ⟨by rw [List.length_cons, h1, List.length_cons], ?_⟩
    rw [List.findIdx?_cons, h2]; rfl
theorem pg_t {es : List Expr} {k : Nat} {t : TGs} {pos : Pos} (hc : X.calm = true) (h : PGs X es t) (hp : es.all plainG = true := by rfl) : PG X (.Tuple es k pos) (gTm X.K es.length t) := pg_tm hc h (assign_plains hp).1 (assign_plains hp).2
end
end L2
set_option linter.all false
set_option Elab.async false
set_option maxRecDepth 100000
set_option maxHeartbeats 4000000
namespace L2
open PySem PySem.Spec PyProof.Rows
structure QE (X : Cx) (e : Expr) (t : TE) : Prop where
  h : PE X e t
structure QT (X : Cx) (e : Expr) (t : TT) : Prop where
  h : PT X e t
structure QW (X : Cx) (e : Expr) (t : TT) : Prop where
  h : PW X e t
structure QA (X : Cx) (es : List Expr) (t : TA) : Prop where
  h : PA X es t
  p : es.all plainE = true
structure QS (X : Cx) (st : Stmt) (t : TS) : Prop where
  h : PS X st t
structure QB (X : Cx) (st : List Stmt) (t : TS) : Prop where
  h : PSs X st t
structure QG (X : Cx) (e : Expr) (t : TG) : Prop where
  h : PG X e t
structure QGs (X : Cx) (es : List Expr) (t : TGs) : Prop where
  h : PGs X es t
  p : es.all plainG = true
structure QI (X : Cx) (tg e : Expr) (t : TI) : Prop where
  h : PI X tg e t
structure QIf (X : Cx) (es : List Expr) (t : TT) : Prop where
  h : PIfs X es t
structure QO (X : Cx) (e : Option Expr) (t : TO) : Prop where
  h : PO X e t
section
variable {X : Cx} {e a b c o tg : Expr} {es rest : List Expr} {te ta tb tc to : TE} {t : TA} {pos p p2 : Pos} {st : Stmt} {sts : List Stmt} {x : Str}
theorem qb_nil : QB X [] tNext := ⟨pss_nil⟩
theorem qb_one {u : TS} (h : QS X st u) : QB X [st] u := ⟨pss_one h.h⟩
theorem qb_cons {u v : TS} (h1 : QS X st u) (h2 : QB X sts v) : QB X (st :: sts) (tSeq u v) := ⟨pss_cons h1.h h2.h⟩
theorem qb_mid {u v : TS} (h1 : QS X st u) (h2 : QB X sts v) : QB X (st :: sts) (mMid u v) := ⟨pss_mid h1.h h2.h⟩
theorem qs_never : QS X st tNever := ⟨ps_never⟩
theorem qs_ret (h : QE X e te) : QS X (.Return (some e) pos) (tRet te) := ⟨ps_ret h.h⟩
theorem qs_ex (h : QE X e te) (hs : noComp e = true := by rfl) : QS X (.Expr e pos) (tDrop te) := ⟨ps_ex h.h hs⟩
theorem qs_set {i : Nat} (hN : X.N.Nodup) (hi : X.N[i]? = some x) (hx : Loc X.env.scope x) (hf : X.fn x = true ∨ X.env.scope.names.lookup x = some .local) (he : QE X e te) (hs : noComp e = true := by rfl) :
    QS X (.Assign [.Name x p] e pos) (tAsg te (gName i)) := ⟨ps_st hN hi hx he.h hs hf⟩
theorem qs_asg {g : TG} (he : QE X e te) (hg : QG X tg g) (hs : noComp e = true := by rfl) (hw : swappedStores [tg] e X.env = pure none := by rfl) (hp : plainG tg = true := by rfl) : QS X (.Assign [tg] e pos) (tAsg te g) :=
  ⟨ps_asg he.h hg.h (swaps_plain hs) hw (by rw [assign_plain hp]; rfl)⟩
theorem qs_aug {i : Nat} {op : Operator} {ti : TIp} (hN : X.N.Nodup) (hi : X.N[i]? = some x) (hx : Loc X.env.scope x) (hf : X.fn x = true ∨ X.env.scope.names.lookup x = some .local) (he : QE X e te) (ho : PIp X op ti) : QS X (.AugAssign (.Name x p) op e pos) (mAug i te ti) :=
  ⟨ps_augm hN hi hx he.h ho hf⟩
theorem qs_if {s1 s2 : List Stmt} {tc : TT} {u v : TS} (hc : QT X c tc) (ha : QB X s1 u) (hb : QB X s2 v) : QS X (.If c s1 s2 pos) (mIfS tc u v) := ⟨ps_ifm hc.h ha.h hb.h⟩
theorem qs_while {tc : TT} {u : TS} (hp : PassesOwn (model X.prog X.w) X.A X.env X.xe) (hc : QT X c tc) (hb : QB X sts u) : QS X (.While c sts [] pos) (mWhile tc u) := ⟨ps_whm hp hc.h hb.h⟩
theorem qs_for {wi : TI} {g : TG} {u : TS} (hp : PassesOwn (model X.prog X.w) X.A X.env X.xe) (hc : X.calm = true) (hi : QI X tg e wi) (hg : QG X tg g) (hb : QB X sts u) (hs : noSet e = true := by rfl) : QS X (.For tg e sts [] pos) (tFor wi g u) := ⟨ps_fr hp hc hi.h hg.h hb.h hs⟩
theorem qg_name {i : Nat} (hN : X.N.Nodup) (hi : X.N[i]? = some x) (hx : Loc X.env.scope x) (hf : X.fn x = true ∨ X.env.scope.names.lookup x = some .local) : QG X (.Name x pos) (gName i) := ⟨pg_name hN hi hx hf⟩
theorem qgs_nil : QGs X [] gNm := ⟨pgs_nm, rfl⟩
theorem qgs_cons {g : TG} {u : TGs} (h1 : QG X e g) (h2 : QGs X es u) (hp : plainG e = true := by rfl) : QGs X (e :: es) (gCm g u) := ⟨pgs_c h1.h h2.h hp, by rw [List.all_cons, hp, h2.p]; rfl⟩
theorem qg_tup {k : Nat} {u : TGs} (hc : X.calm = true) (h : QGs X es u) : QG X (.Tuple es k pos) (gTm X.K es.length u) := ⟨pg_t hc h.h h.p⟩
theorem qi_list (h : QE X e te) : QI X tg e (mItL X.K te) := ⟨pi_lm h.h⟩
theorem qi_tup (h : QE X e te) : QI X tg e (mItT X.K te) := ⟨pi_tm h.h⟩
theorem qi_r1 (hg : Gl X "range") (hm : X.mg "range" = none) (h : QA X [a] t) : QI X tg (.Call (.Name "range" p) [a] [] pos) (mRng1 t) := ⟨pi_k1 hg hm h.h (by have := h.p; simpa using this)⟩
theorem qi_r3 (hg : Gl X "range") (hm : X.mg "range" = none) (h : QA X [a, b, c] t) : QI X tg (.Call (.Name "range" p) [a, b, c] [] pos) (mRngD t) := ⟨pi_k3 hg hm h.h h.p⟩
theorem qi_enum {k : Nat} (hg : Gl X "enumerate") (hm : X.mg "enumerate" = none) (h : QA X [a] t) : QI X (.Tuple es k p2) (.Call (.Name "enumerate" p) [a] [] pos) (mEnum X.K t) := ⟨pi_ke hg hm h.h (by have := h.p; simpa using this)⟩
theorem qa_nil : QA X [] tNil := ⟨pa_nil, rfl⟩
theorem qa_cons (h1 : QE X e te) (h2 : QA X es t) (hp : plainE e = true := by rfl) : QA X (e :: es) (tCons te t) := ⟨pac h1.h h2.h hp, by rw [List.all_cons, hp, h2.p]; rfl⟩
theorem qv (i : Nat) (hN : X.N[i]? = some x) (hv : Vis X.env.scope x) (hd : (x == ("__debug__" : Str)) = false := by decide) (hcd : (x == ("__classdict__" : Str)) = false := by decide) : QE X (.Name x pos) (mVar i) := ⟨mv i hN hv hd hcd⟩
theorem qe_int {i : Int} {j : Nat} : QE X (.Constant (.int i) j pos) (tC (.int i)) := ⟨pe_int⟩
theorem qe_bl {i : Bool} {j : Nat} : QE X (.Constant (.bool i) j pos) (tC (.bl i)) := ⟨pe_bl⟩
theorem qe_non {j : Nat} : QE X (.Constant .none j pos) (tC .non) := ⟨pe_non⟩
theorem qe_str {i : Str} {j : Nat} : QE X (.Constant (.str i) j pos) (tC (.str i)) := ⟨pe_str⟩
theorem qe_ty {T : String} (hg : Gl X x) (hm : X.mg x = none) (hv : bootBuiltins x = some (.type T)) (hn : x ≠ "__name__" := by decide) (hd : (x == ("__debug__" : Str)) = false := by decide) : QE X (.Name x pos) (tC (.ty T)) := ⟨pe_tyn hg hm hv hn hd⟩
theorem qe_op {op : Operator} {r : R2} (ho : OpR X (binaryOp op) r) (ha : QE X a ta) (hb : QE X b tb) : QE X (.BinOp a op b pos) (tOp r ta tb) := ⟨pe_op ho ha.h hb.h⟩
theorem qe_un {op : UnaryOp} {r : V → Hp → VK → Prop} (ho : UnR X (unaryOp op) r) (ha : QE X a ta) : QE X (.UnaryOp op a pos) (tUn r ta) := ⟨pe_un ho ha.h⟩
theorem qe_not (ha : QE X a ta) : QE X (.UnaryOp .Not a pos) (mNotV X.K ta) := ⟨pe_nm ha.h⟩
theorem qe_cmp {op : CmpOp} {r : R2} (ho : OpR X (compareOp op) r) (ha : QE X a ta) (hb : QE X b tb) (h1 : op ≠ .In := by decide) (h2 : op ≠ .NotIn := by decide) : QE X (.Compare a [op] [b] pos) (tOp r ta tb) := ⟨pe_cmpR ho ha.h hb.h (nomark b h1 h2)⟩
theorem qe_chain {op op' : CmpOp} {r r' : R2} (ho : OpR X (compareOp op) r) (ho' : OpR X (compareOp op') r') (ha : QE X a ta) (hb : QE X b tb) (hc : QE X c tc) (hm : lastMarks [op, op'] [b, c] = false := by with_unfolding_all rfl) : QE X (.Compare a [op, op'] [b, c] pos) (mChain r r' ta tb tc) := ⟨pe_chm ho ho' ha.h hb.h hc.h hm⟩
theorem qe_one {op : BoolOp} (h : QE X a ta) : QE X (.BoolOp op [a] pos) ta := ⟨pe_one h.h⟩
theorem qe_and (ha : QE X a ta) (hb : QE X (.BoolOp .And (b :: rest) pos) tb) : QE X (.BoolOp .And (a :: b :: rest) pos) (mAndV X.K ta tb) := ⟨pe_am ha.h hb.h⟩
theorem qe_lst (h : QA X es t) : QE X (.List es pos) (mLst t) := ⟨pe_lm h.h⟩
theorem qe_tup {k : Nat} (h : QA X es t) : QE X (.Tuple es k pos) (mTup t) := ⟨pe_tm h.h⟩
theorem qo_none : QO X none tNoPart := ⟨po_none⟩
theorem qo_some (h : QE X e te) : QO X (some e) (mPart te) := ⟨po_m h.h⟩
theorem qe_slice {lo hi : Option Expr} {tl th : TO} (he : QE X e te) (hl : QO X lo tl) (hu : QO X hi th) : QE X (.Subscript e (.Slice lo hi none p2) pos) (tSl (vSl X.K) te tl th) := ⟨pe_slice slM he.h hl.h hu.h⟩
theorem qe_ix (ha : QE X a ta) (hb : QE X b tb) (hs : PlainIx b) : QE X (.Subscript a b pos) (tOp (vIx X.K) ta tb) := ⟨pe_ix ixM ha.h hb.h hs⟩
theorem qe_def {k j : Nat} {ps : List Str} {sp : Sp} (D : Def X.prog X.w X.K X.mg X.base k x ps sp) (hr : Room j X.A) (hj : k ≤ j) (hg : Gl X x) (ha : QA X (e :: es) t) (hdb : (x == ("__debug__" : Str)) = false := by decide) : QE X (.Call (.Name x p) (e :: es) [] pos) (tCall sp [] E0 t) := ⟨pe_def D hr hj hg ha.h ha.p hdb⟩
theorem qe_cB {id : String} {r : List V → Hp → VK → Prop} (hc : CallR X (.builtin id) r) (hg : Gl X x) (hm : X.mg x = none) (hv : bootBuiltins x = some (.builtin id)) (ha : QA X (e :: es) t) (hn : x ≠ "__name__" := by decide) (hdb : (x == ("__debug__" : Str)) = false := by decide) : QE X (.Call (.Name x p) (e :: es) [] pos) (tCB r t) := ⟨pe_cB hc hg hm hv ha.h ha.p hn hdb⟩
theorem qe_cT {T : String} {r : List V → Hp → VK → Prop} (hc : CallR X (.type T) r) (hg : Gl X x) (hm : X.mg x = none) (hv : bootBuiltins x = some (.type T)) (ha : QA X (e :: es) t) (hn : x ≠ "__name__" := by decide) (hdb : (x == ("__debug__" : Str)) = false := by decide) : QE X (.Call (.Name x p) (e :: es) [] pos) (tCB r t) := ⟨pe_cT hc hg hm hv ha.h ha.p hn hdb⟩
theorem qe_m1 {name : Str} {T id : String} {r : V → List V → Hp → VK → Prop} (pa : PlainAttrs T) (slot : Slot T name id) (hty : typeOf (.builtin id) = pure (.type "method_descriptor")) (hm : MtR X id r) (ho : QE X o to) (ha : QE X e te)
    (hp : plainE e = true := by rfl) (hbase : attributeBase o name X.env (eval o X.env) = eval o X.env := by rfl) (hline : (p.endLine == pos.line) = true := by rfl) : QE X (.Call (.Attribute o name p) [e] [] pos) (tBM X.K T r to (tCons te tNil)) := ⟨pe_m1 pa slot hty hm ho.h ha.h hp hbase hline⟩
theorem qt_cmp {op : CmpOp} {r : R2} (ho : OpR X (compareOp op) r) (ha : QE X a ta) (hb : QE X b tb) (h1 : op ≠ .In := by decide) (h2 : op ≠ .NotIn := by decide) : QT X (.Compare a [op] [b] pos) (mB (tOp r ta tb)) := ⟨pt_cm ho ha.h hb.h (nomark b h1 h2)⟩
theorem qw_and1 {tA : TT} (ha : QT X a tA) : QW X (.BoolOp .And [a] pos) tA := ⟨pw_and1 ha.h⟩
theorem qw_or1 {tA : TT} (ha : QT X a tA) : QW X (.BoolOp .Or [a] pos) tA := ⟨pw_or1 ha.h⟩
theorem qw_and {tA tB' : TT} (ha : QT X a tA) (hb : QW X (.BoolOp .And (b :: rest) pos) tB') : QW X (.BoolOp .And (a :: b :: rest) pos) (mAnd tA tB') := ⟨pw_am ha.h hb.h⟩
theorem qw_or {tA tB' : TT} (ha : QT X a tA) (hb : QW X (.BoolOp .Or (b :: rest) pos) tB') : QW X (.BoolOp .Or (a :: b :: rest) pos) (mOr tA tB') := ⟨pw_om ha.h hb.h⟩
theorem QW.pt {tA : TT} (h : QW X a tA) : QT X a tA := ⟨h.h.pt⟩
theorem qt_not {tA : TT} (ha : QT X a tA) : QT X (.UnaryOp .Not a pos) (tNot tA) := ⟨pt_not ha.h⟩
theorem qt_val (ha : QE X a ta) (he : ∀ whole, isTrue a X.env whole = (do let v ← whole; standAt a.pos; holding [v] (truthy v)) := by intro _; rfl) : QT X a (mT X.K ta) := ⟨pt_m ha.h he⟩
theorem qif_nil : QIf X [] tYes := ⟨pifs_nil⟩
theorem qe_comp (N' : List Str) (caps : List (Option Nat)) {elt iter : Expr} {ifs : List Expr} {scope : Scope} {wi : TI} {g : TG} {tt : TT} (hc : X.calm = true) (hi : QI X tg iter wi)
    (hg : ∀ pins cl C s0 H0 fp, QG (cxComp X pins N' scope cl C s0 H0 fp) tg g) (ht : ∀ pins cl C s0 H0 fp, QIf (cxComp X pins N' scope cl C s0 H0 fp) ifs tt) (he : ∀ pins cl C s0 H0 fp, QE (cxComp X pins N' scope cl C s0 H0 fp) elt te)
    (hcap : capOk N' caps X.N X.env.scope.names scope.names = true := by kernel_rfl) (hkind : scope.kind = .function := by rfl) (hs : noSet iter = true := by rfl) :
    QE X (.ListComp elt [⟨tg, iter, ifs, 0⟩] scope pos) (tComp caps wi g tt te) :=
  ⟨pe_comp N' caps hc hi.h (fun a b c d e f => (hg a b c d e f).h) (fun a b c d e f => (ht a b c d e f).h) (fun a b c d e f => (he a b c d e f).h) hcap hkind (fold_plain hs)⟩
end
theorem Fun.okq {P : Program} {w : World} {K : PySem.W.Frag} {mg : Str → Option Value} {base : Heap} {x qual : Str} {st : Stmt} {f : Addr} {fd : FuncData} {N ps : List Str} {k : Nat} {sp : Sp} (F : Fun K x qual st f fd) (S : FnScope N ps (defScope st)) (len : ∀ vs H Q E, sp vs H Q E → vs.length = ps.length)
    (hbody : ∀ (cdv : Value) (A : Around) (outer : List Env) (s : Shared) (H : Hp) (vs : List V) (Q : VK) (E : XK), Room k (A.deeper (envOfC qual (defScope st) s.heap.objs.size f cdv)) → sp vs H Q E →
      ∃ T : { t : TS // QB (cxOf CX0 P w K mg base N qual (defScope st) f cdv A outer s H E).nox (defBody st) t }, T.1 { nx := fun _ H' => Q .non H', rt := Q } (start N vs) H) : FnOk P w K mg base CX0 (k + 1) f fd ps sp :=
  F.ok S len fun cdv A outer s H vs Q E hr h => let ⟨T, q⟩ := hbody cdv A outer s H vs Q E hr h; ⟨T.1, T.2.h, q⟩
end L2
set_option linter.all false
set_option Elab.async false
set_option maxRecDepth 100000
set_option maxHeartbeats 4000000
namespace L2
open PySem PySem.Spec PyProof.Rows
def upE (t : TE) : TE := fun σ H Q => ∃ P : VK, t σ H P ∧ ∀ v H1, P v H1 → Q v H1
def upT (t : TT) : TT := fun σ H Q => ∃ P : Bool → Hp → Prop, t σ H P ∧ ∀ v H1, P v H1 → Q v H1
def upG (t : TG) : TG := fun v σ H Q => ∃ P : St → Hp → Prop, t v σ H P ∧ ∀ σ1 H1, P σ1 H1 → Q σ1 H1
section
variable {X : Cx} {e a b c tg : Expr} {te : TE} {pos p p2 : Pos} {x : Str}
theorem QE.up (h : QE X e te) : QE X e (upE te) := ⟨by
  intro pins s σ H Q I w
  obtain ⟨P, w, hP⟩ := w
  exact thn (h.h pins s σ H P I w) fun u s1 ⟨v, H1, I1, r1, q1⟩ => ⟨v, H1, I1, r1, hP _ _ q1⟩⟩
theorem QIf.up {es : List Expr} {tt : TT} (h : QIf X es tt) : QIf X es (upT tt) := ⟨by
  intro pins s σ H Q I w
  obtain ⟨P, w, hP⟩ := w
  exact thn (h.h pins s σ H P I w) fun u s1 ⟨H1, I1, q1⟩ => ⟨H1, I1, hP _ _ q1⟩⟩
theorem QG.up {g : TG} (h : QG X e g) : QG X e (upG g) := ⟨by
  intro pins s σ H v u Q I r w
  obtain ⟨P, w, hP⟩ := w
  exact thn (h.h pins s σ H v u P I r w) fun u s1 ⟨σ1, H1, I1, q1⟩ => ⟨σ1, H1, I1, hP _ _ q1⟩⟩
theorem qe_cp (N' : List Str) (caps : List (Option Nat)) {elt iter : Expr} {ifs : List Expr} {scope : Scope} {wi : TI} {g : TG} {tt : TT} (hc : X.calm = true) (hi : QI X tg iter wi)
    (hg : ∀ pins cl C s0 H0 fp, QG (cxComp X pins N' scope cl C s0 H0 fp) tg g) (ht : ∀ pins cl C s0 H0 fp, QIf (cxComp X pins N' scope cl C s0 H0 fp) ifs tt) (he : ∀ pins cl C s0 H0 fp, QE (cxComp X pins N' scope cl C s0 H0 fp) elt te)
    (hcap : capOk N' caps X.N X.env.scope.names scope.names = true := by kernel_rfl) (hkind : scope.kind = .function := by rfl) (hs : noSet iter = true := by rfl) :
    QE X (.ListComp elt [⟨tg, iter, ifs, 0⟩] scope pos) (tComp caps wi (upG g) (upT tt) (upE te)) :=
  qe_comp N' caps hc hi (fun a b c d e f => (hg a b c d e f).up) (fun a b c d e f => (ht a b c d e f).up) (fun a b c d e f => (he a b c d e f).up) hcap hkind hs
end
def Turn1 (g : TG) (tt : TT) (te : TE) (D : Addr) (ys : List V) (x : V) (σ : St) (H : Hp) (N : St → Hp → List V → Prop) : Prop :=
  g x σ H fun σ2 H3 => tt σ2 H3 fun b H4 => (b = true → te σ2 H4 fun v H5 => H5 D = some (.lst ys) ∧ ys.length < sizeLine ∧ ∀ H6, Kp [D] H5 H6 → H6 D = some (.lst (ys ++ [v])) → N σ2 H6 (ys ++ [v])) ∧ (b = false → H4 D = some (.lst ys) ∧ N σ2 H4 ys)
theorem turn1_ok {g : TG} {tt : TT} {te : TE} {D : Addr} {ys : List V} {x : V} {σ : St} {H : Hp} {N : St → Hp → List V → Prop} {M : St → Hp → Prop} (h : Turn1 g tt te D ys x σ H N) (hM : ∀ σ H ys, H D = some (.lst ys) → N σ H ys → M σ H) :
    upG g x σ H fun σ2 H3 => upT tt σ2 H3 fun b H4 => if b = true then upE te σ2 H4 fun v H5 => ∃ ys, H5 D = some (.lst ys) ∧ ys.length < sizeLine ∧ M σ2 (upd H5 D (.lst (ys ++ [v]))) else M σ2 H4 := by
  refine ⟨_, h, fun σ2 H3 h => ⟨_, h, fun b H4 h => ?_⟩⟩
  cases b with
  | true => exact iteT ⟨_, h.1 rfl, fun v H5 q => ⟨ys, q.1, q.2.1, hM _ _ _ upd_same (q.2.2 _ kp_upd upd_same)⟩⟩
  | false => exact iteF (hM _ _ _ (h.2 rfl).1 (h.2 rfl).2)
section
variable {g : TG} {tt : TT} {te : TE} {σ0 : St} {H1 : Hp} {Q : Addr → Hp → Prop} {K : PySem.W.Frag}
theorem comp_rng {lo : Int} {n : Nat} (R : Nat → Addr → St → Hp → List V → Prop)
    (h0 : ∀ D H', H1 D = none → Same H1 H' → H' D = some (.lst []) → R 0 D σ0 H' [])
    (hs : ∀ i D σ H ys, i < n → H1 D = none → R i D σ H ys → H D = some (.lst ys) → Turn1 g tt te D ys (.int (lo + i)) σ H (R (i + 1) D))
    (hd : ∀ D σ H ys, H1 D = none → R n D σ H ys → H D = some (.lst ys) → Q D H) : ∀ D, H1 D = none → compRead (Itr lo n) D (upG g) (upT tt) (upE te) σ0 (upd H1 D (.lst [])) fun H2 => Q D H2 := by
  intro D hD
  refine comp_range (fun i σ H => ∃ ys, H D = some (.lst ys) ∧ R i D σ H ys) ⟨[], upd_same, h0 D _ hD (same_upd hD) upd_same⟩ ?_ ?_
  · rintro i σ H hi ⟨ys, e, r⟩
    exact turn1_ok (hs i D σ H ys hi hD r e) fun σ H ys e r => ⟨ys, e, r⟩
  · rintro σ H ⟨ys, e, r⟩
    exact hd D σ H ys hD r e
theorem comp_lst {a : Addr} (xs : List V) (R : Nat → Addr → St → Hp → List V → Prop)
    (h0 : ∀ D H', H1 D = none → Same H1 H' → H' D = some (.lst []) → R 0 D σ0 H' [])
    (hl : ∀ i D σ H ys, H1 D = none → R i D σ H ys → SqL K H a xs)
    (hs : ∀ i x D σ H ys, xs[i]? = some x → H1 D = none → R i D σ H ys → H D = some (.lst ys) → Turn1 g tt te D ys x σ H (R (i + 1) D))
    (hd : ∀ D σ H ys, H1 D = none → R xs.length D σ H ys → H D = some (.lst ys) → Q D H) : ∀ D, H1 D = none → compRead (Itl K a) D (upG g) (upT tt) (upE te) σ0 (upd H1 D (.lst [])) fun H2 => Q D H2 := by
  intro D hD
  refine comp_list (xs := xs) (fun i σ H => ∃ ys, H D = some (.lst ys) ∧ R i D σ H ys) ⟨[], upd_same, h0 D _ hD (same_upd hD) upd_same⟩ ?_ ?_ ?_
  · rintro i σ H _ ⟨ys, e, r⟩
    exact hl i D σ H ys hD r
  · rintro i x σ H hi ⟨ys, e, r⟩
    exact turn1_ok (hs i x D σ H ys hi hD r e) fun σ H ys e r => ⟨ys, e, r⟩
  · rintro σ H ⟨ys, e, r⟩
    exact hd D σ H ys hD r e
end
end L2
namespace L2
open PySem
theorem Kp.new {S : List Addr} {H H5 H6 : Hp} {D : Addr} (k : Kp S H H5) (k6 : Kp [D] H5 H6) (hD : H D = none) : Kp S H H6 := fun b o n q => k6.one (ne_of_none q hD) (k b o n q)
theorem Same.new {H H5 H6 : Hp} {D : Addr} (k : Same H H5) (k6 : Kp [D] H5 H6) (hD : H D = none) : Same H H6 := fun b o q => k6.one (ne_of_none q hD) (k b o q)
theorem Kp.same {S : List Addr} {H H5 H6 : Hp} (k : Kp S H H5) (s : Same H5 H6) : Kp S H H6 := fun b o n q => s b o (k b o n q)
theorem sz_of {n : Nat} (h : n ≤ 100000) : n ≤ sizeLine := by rw [sizeLine_eq]; omega
theorem sz_lt {n : Nat} (h : n ≤ 100000) : n < sizeLine := by rw [sizeLine_eq]; omega
theorem map_snoc (zs : List Int) (z : Int) : zs.map V.int ++ [V.int z] = (zs ++ [z]).map V.int := by rw [List.map_append]; rfl
theorem vints_at {zs : List Int} {i : Nat} {x : V} (h : (zs.map V.int)[i]? = some x) : ∃ z, x = .int z ∧ zs[i]? = some z ∧ z ∈ zs := by
  rw [List.getElem?_map] at h
  cases e : zs[i]? with
  | none => rw [e] at h; cases h
  | some z =>
    rw [e] at h
    exact ⟨z, (Option.some.inj h).symm, rfl, List.mem_of_getElem? e⟩
end L2
set_option linter.all false
set_option Elab.async false
set_option maxRecDepth 100000
set_option maxHeartbeats 4000000
namespace L2
open PySem PySem.Spec PyProof.Rows
section
variable {g : TG} {tb : TS} {D : Ends} {σ : St} {H : Hp} {K : PySem.W.Frag}
theorem for_en {a : Addr} (xs : List V) (Pv : Nat → St → Hp → Prop) (h0 : Pv 0 σ H) (hl : ∀ i σ H, i ≤ xs.length → Pv i σ H → SqL K H a xs)
    (hs : ∀ i x σ H T H', xs[i]? = some x → Pv i σ H → H T = none → Same H H' → H' T = some (.tup [.int i, x]) → g (.ref T) σ H' fun σ2 H2 => tb { D with nx := Pv (i + 1), ct := Pv (i + 1), bk := D.nx } σ2 H2) (hd : ∀ σ H, Pv xs.length σ H → D.nx σ H) :
    ∃ W : Nat → Nat → St → Hp → Prop, (∃ m, W 0 m σ H) ∧ ∀ i m σ H, W i m σ H →
      ((Ite K a).stop i H ∧ D.nx σ H) ∨ ((Ite K a).go i H ∧ ∃ N : St → Hp → Prop, (∀ σ' H', N σ' H' → ∃ m', m' < m ∧ W (i + 1) m' σ' H') ∧ ∀ x H', (Ite K a).yld i H x H' → g x σ H' fun σ2 H2 => tb { D with nx := N, ct := N, bk := D.nx } σ2 H2) :=
  for_enum (xs := xs) Pv h0 hl (fun i x σ H T hx p hT => hs i x σ H T _ hx p hT (same_upd hT) upd_same) hd
end
theorem take_snoc {α : Type} {l : List α} {i : Nat} {x : α} (h : l[i]? = some x) : l.take (i + 1) = l.take i ++ [x] := by rw [List.take_add_one, h]; rfl
theorem i_isi {K : PySem.W.Frag} {H : Hp} {Q : VK} {x : V} {t c : String} (ty : TyOf K H x (.type t)) (ht : t ∈ ["NoneType", "bool", "int", "str", "list", "tuple", "dict"]) (hc : c ∈ ["bool", "int", "str", "list", "tuple", "dict"]) (q : Q (.bl (isTy t c)) H) : hIsi K x c H Q := by
  unfold hIsi; exact ⟨t, ty, ht, hc, q⟩
end L2
set_option linter.all false
set_option Elab.async false
set_option maxRecDepth 100000
set_option maxHeartbeats 4000000
namespace L2
open PySem PySem.Spec PyProof.Rows
def Itz (K : PySem.W.Frag) (a b : Addr) : It :=
  ⟨fun i H => ∃ xs ys x y, SqL K H a xs ∧ SqL K H b ys ∧ xs[i]? = some x ∧ ys[i]? = some y,
   fun i H v H' => ∃ (T : Addr) (x y : V), H T = none ∧ v = .ref T ∧ H' = upd H T (.tup [x, y]) ∧ (∀ xs, SqL K H a xs → xs[i]? = some x) ∧ ∀ ys, SqL K H b ys → ys[i]? = some y,
   fun i H => ∃ xs ys, SqL K H a xs ∧ SqL K H b ys ∧ (xs.length ≤ i ∨ ys.length ≤ i)⟩
theorem turn_zip {P : Program} {w : World} {K : PySem.W.Frag} {elts : List Expr} {x1 : Nat} {pos : Pos} (a b z TI TO i1 i2 : Addr) (D : ZipApart z TI TO i1 i2 a b) :
    Turn P w K (.Tuple elts x1 pos) (Itz K a b) [z, TI, TO, i1, i2] z (fun i h => IsZip h z TI TO .none ∧ IsPair h TI (.ref i1) (.ref i2) ∧ (∃ p q, IsPair h TO p q) ∧ h.IsListIter i1 a i ∧ h.IsListIter i2 b i) where
  mem := by simp
  obj := fun i h st c hc => by
    obtain ⟨hz, hTI, ⟨p, q, hTO⟩, h1, h2⟩ := st
    simp only [List.mem_cons, List.not_mem_nil, or_false] at hc
    rcases hc with rfl | rfl | rfl | rfl | rfl
    · exact ⟨_, hz, fun v x => by have x' : Data.fields _ = Data.cell v := x; cases x'⟩
    · exact ⟨_, hTI, fun v x => by have x' : Data.seq _ _ = Data.cell v := x; cases x'⟩
    · exact ⟨_, hTO, fun v x => by have x' : Data.seq _ _ = Data.cell v := x; cases x'⟩
    · obtain ⟨o, q, _, d⟩ := h1; exact ⟨o, q, fun v x => by rw [d] at x; cases x⟩
    · obtain ⟨o, q, _, d⟩ := h2; exact ⟨o, q, fun v x => by rw [d] at x; cases x⟩
  keep := fun i h h' st k => by
    obtain ⟨hz, hTI, ⟨p, q, hTO⟩, h1, h2⟩ := st
    exact ⟨k z (by simp) _ hz, k TI (by simp) _ hTI, ⟨p, q, k TO (by simp) _ hTO⟩, h1.at fun o e => k i1 (by simp) o e, h2.at fun o e => k i2 (by simp) o e⟩
  item := by
    intro X hP hw hK hc i pins s σ H E I hf st hg
    subst hP hw hK
    obtain ⟨hz, hTI, ⟨p, q, hTO⟩, h1, h2⟩ := st
    obtain ⟨xs, ys, x, y, hqx, hqy, hx, hy⟩ := hg
    obtain ⟨its, rv, pl, hsz⟩ := I.list hqx
    obtain ⟨jts, rw', ql, hsz'⟩ := I.list hqy
    obtain ⟨u, hu, ru⟩ := rv.get hx
    obtain ⟨t, ht, rt⟩ := rw'.get hy
    refine wpAny_pyNext_zip_item D hz hTI hTO h1 h2 pl.isList ql.isList (x := u) (y := t) (by simpa using hu) (by simpa using ht) fun h₁ a1 a2 a3 a4 a5 a6 hk₁ => ?_
    refine ⟨_, rfl, wpAny_letOwnedTupleGo_zip a1 fun h₂ hz₂ hs₂ => ?_⟩
    replace hs₂ : Heap.SameBut z h₁ h₂ := hs₂
    have hT : H s.heap.objs.size = none := I.hok.fresh (Nat.le_refl _)
    have lt : ∀ {c o}, s.heap.get? c = some o → c ≠ s.heap.objs.size := fun e => Nat.ne_of_lt (Heap.lt_size e)
    have ht₂ : h₂.get? s.heap.objs.size = some { cls := .type "tuple", data := .seq #[u, t] } := (hs₂.2 _ (Ne.symm (lt hz))).trans a5
    have nch : ∀ c, c ∉ [z, TI, TO, i1, i2] → c ≠ z ∧ c ≠ TI ∧ c ≠ TO ∧ c ≠ i1 ∧ c ≠ i2 := fun c hc => by simpa using hc
    have kk : ∀ c o, c ∉ [z, TI, TO, i1, i2] → s.heap.get? c = some o → h₂.get? c = some o := fun c o hc e => by
      obtain ⟨n1, n2, n3, n4, n5⟩ := nch c hc
      exact (hs₂.2 c n1).trans (hk₁ c o n1 n3 n4 n5 e)
    have nE : ∀ c o, H c = some o → c ∉ [z, TI, TO, i1, i2] := fun c o e hc => by rw [(hf c hc).1] at e; cases e
    have I1 : Inv X pins σ (upd H s.heap.objs.size (.tup [x, y])) { s with heap := h₂, gens := s.gens, drawn := s.drawn, toks := s.toks } := by
      refine I.step (ch := [z, TI, TO, i1, i2]) (fun c hc => ?_) (fun c o _ _ hc e _ => kk c o hc e) (fun c o _ _ hc e _ => ⟨o.slots, kk c o hc e⟩) (fun c o _ e n => by rw [upd_ne (lt e)]; exact n)
        (fun c o hc e => ⟨o, kk c o hc e⟩) (fun c zs e => by rw [upd_ne (ne_of_none e hT)]; exact e) (fun c o u e => by rw [upd_ne (ne_of_none e hT)]; exact e) (fun c ps e => ⟨#[], by rw [upd_ne (ne_of_none e hT), e]; simp⟩) (fun m hm => ?_) (fun c v e => ?_) I.bare
      · obtain ⟨f0, f1, f2, f3, f4, f5⟩ := hf c hc; exact ⟨f3, f1, f4, f5⟩
      · obtain ⟨o, es, ep, ho, r⟩ := hm
        exact ⟨o, es, ep, kk _ o (fun hc => (hf _ hc).2.1 rfl) ho, r⟩
      · by_cases hb : c = s.heap.objs.size
        · subst hb
          rw [upd_same] at e
          cases e
          exact ⟨(by show 2 ≤ sizeLine; rw [sizeLine_eq]; decide), [u, t], .cons ru (.cons rt .nil), _, ht₂, rfl, 0, rfl⟩
        · rw [upd_ne hb] at e
          refine (I.hok c v e).stay (fun d o hd q' => ?_) (fun d q' => by rw [upd_ne (ne_of_none q' hT)]; exact q') fun d zs q' => by rw [upd_ne (ne_of_none q' hT)]; exact q'
          rcases hd with rfl | hd
          · exact kk d o (nE d v e) q'
          · exact kk d o (nE d _ hd) q'
    refine ⟨.ref s.heap.objs.size, _, I1, rfl, ⟨s.heap.objs.size, x, y, hT, rfl, rfl, fun zs hz => by rw [I.list_inj hz hqx]; exact hx, fun zs hz => by rw [I.list_inj hz hqy]; exact hy⟩, ⟨hz₂, ?_, ⟨u, t, ?_⟩, ?_, ?_⟩, fun c hc => ?_⟩
    · exact hs₂.extBut _ _ D.TIz (hk₁ _ _ D.TIz D.TITO D.TIi1 D.TIi2 hTI)
    · exact hs₂.extBut _ _ D.TOz a2
    · exact a3.extBut hs₂.extBut D.i1z
    · exact a4.extBut hs₂.extBut D.i2z
    · have hcl : c < s.heap.objs.size := by
        simp only [List.mem_cons, List.not_mem_nil, or_false] at hc
        rcases hc with rfl | rfl | rfl | rfl | rfl
        · exact Heap.lt_size hz
        · exact Heap.lt_size hTI
        · exact Heap.lt_size hTO
        · obtain ⟨o, e, _⟩ := h1; exact Heap.lt_size e
        · obtain ⟨o, e, _⟩ := h2; exact Heap.lt_size e
      rw [upd_ne (Nat.ne_of_lt hcl)]
      exact (hf c hc).1
  done := by
    intro X hP hw hK hc i pins s σ H E I hf st hg
    subst hP hw hK
    obtain ⟨hz, hTI, ⟨p, q, hTO⟩, h1, h2⟩ := st
    obtain ⟨xs, ys, hqx, hqy, hx⟩ := hg
    obtain ⟨its, rv, pl, hsz⟩ := I.list hqx
    obtain ⟨jts, rw', ql, hsz'⟩ := I.list hqy
    have hl := rv.length
    have hl' := rw'.length
    refine wpAny_pyNext_zip_end (I.ok.hd hc) D hz hTI hTO h1 h2 pl.isList ql.isList (by simp; omega) fun h' hk => ⟨rfl, ?_⟩
    have kk : ∀ c o, c ∉ [z, TI, TO, i1, i2] → s.heap.get? c = some o → h'.get? c = some o := fun c o hc e => by
      obtain ⟨n1, n2, n3, n4, n5⟩ : c ≠ z ∧ c ≠ TI ∧ c ≠ TO ∧ c ≠ i1 ∧ c ≠ i2 := by simpa using hc
      exact hk c o n1 n3 n4 n5 e
    have nE : ∀ c o, H c = some o → c ∉ [z, TI, TO, i1, i2] := fun c o e hc => by rw [(hf c hc).1] at e; cases e
    refine I.step (g' := s.gens) (d' := s.drawn) (t' := s.toks) (ch := [z, TI, TO, i1, i2]) (fun c hc => ?_) (fun c o _ _ hc e _ => kk c o hc e) (fun c o _ _ hc e _ => ⟨o.slots, kk c o hc e⟩) (fun c o _ e n => n)
        (fun c o hc e => ⟨o, kk c o hc e⟩) (fun c zs e => e) (fun c o u e => e) (fun c ps e => ⟨#[], by rw [e]; simp⟩) (fun m hm => ?_) (fun c v e => ?_) I.bare
    · obtain ⟨f0, f1, f2, f3, f4, f5⟩ := hf c hc; exact ⟨f3, f1, f4, f5⟩
    · obtain ⟨o, es, ep, ho, r⟩ := hm
      exact ⟨o, es, ep, kk _ o (fun hc => (hf _ hc).2.1 rfl) ho, r⟩
    · refine (I.hok c v e).stay (fun d o hd q' => ?_) (fun d q' => q') fun d zs q' => q'
      rcases hd with rfl | hd
      · exact kk d o (nE d v e) q'
      · exact kk d o (nE d _ hd) q'
  self := fun A i s Q E st h => wpAny_pyIter_zip st.1 h
theorem zip_apart (n a b : Nat) (ha : a < n) (hb : b < n) : ZipApart (n + 4) (n + 2) (n + 3) n (n + 1) a b :=
  ⟨show (n + 2 : Nat) ≠ n + 4 by omega, show (n + 3 : Nat) ≠ n + 4 by omega, show (n : Nat) ≠ n + 4 by omega, show (n + 1 : Nat) ≠ n + 4 by omega, show (n + 2 : Nat) ≠ n + 3 by omega, show (n + 2 : Nat) ≠ n by omega, show (n + 2 : Nat) ≠ n + 1 by omega, show (n + 3 : Nat) ≠ n by omega, show (n + 3 : Nat) ≠ n + 1 by omega, show (n : Nat) ≠ n + 1 by omega,
   show (a : Nat) ≠ n + 4 by omega, show (a : Nat) ≠ n + 3 by omega, show (a : Nat) ≠ n by omega, show (a : Nat) ≠ n + 1 by omega, show (b : Nat) ≠ n + 4 by omega, show (b : Nat) ≠ n + 3 by omega, show (b : Nat) ≠ n by omega, show (b : Nat) ≠ n + 1 by omega⟩
theorem boot_zip : bootBuiltins "zip" = some (.type "zip") := by decide +kernel
section
variable {X : Cx}
def mZip (K : PySem.W.Frag) (ta : TA) : TI := fun σ H R => ta σ H fun vs H1 => match vs with
  | [.ref a, .ref b] => (∃ xs, SqL K H1 a xs) ∧ (∃ ys, SqL K H1 b ys) ∧ R (Itz K a b) H1
  | _ => False
theorem qi_zip {es : List Expr} {k : Nat} {tpos : Pos} {l m : Expr} {ta : TA} {p pos : Pos} (hg : Gl X "zip") (hm : X.mg "zip" = none) (ha : QA X [l, m] ta) : QI X (.Tuple es k tpos) (.Call (.Name "zip" p) [l, m] [] pos) (mZip X.K ta) := ⟨by
  intro pins s σ H R I h
  have hp := ha.p
  have h2 : [m].all plainE = true := by simp only [List.all_cons, List.all_nil, Bool.and_true, Bool.and_eq_true] at hp ⊢; exact hp.2
  have h1 : plainE l = true := by simp only [List.all_cons, List.all_nil, Bool.and_true, Bool.and_eq_true] at hp; exact hp.1
  refine Call_ (ld_blt I hg hm boot_zip (PyProof.Rows.callWith_type1 (thn (ha.h pos pins s σ H _ I h) fun us s1 ⟨vs, H1, I1, r1, q1⟩ => ?_) (star_plain h1) (any_plain h2)))
  dsimp only at q1
  split at q1
  · rename_i a b
    obtain ⟨⟨xs, hxs⟩, ⟨ys, hys⟩, q⟩ := q1
    cases r1 with
    | cons ra rr =>
      cases rr with
      | cons rb rr =>
        cases rr
        cases ra
        cases rb
        obtain ⟨its, rv, pl, hz⟩ := I1.list hxs
        obtain ⟨jts, rw', ql, hz'⟩ := I1.list hys
        refine call_zip_2 pl.isList ql.isList fun h' a1 a2 a3 a4 a5 a6 hk => ?_
        have I2 : Inv X pins σ H1 { s1 with heap := h' } := I1.kept (t' := s1.toks) hk
        have la : a < s1.heap.objs.size := by obtain ⟨o, e, _⟩ := pl.isList; exact Heap.lt_size e
        have lb : b < s1.heap.objs.size := by obtain ⟨o, e, _⟩ := ql.isList; exact Heap.lt_size e
        have D : ZipApart (s1.heap.objs.size + 4) (s1.heap.objs.size + 2) (s1.heap.objs.size + 3) s1.heap.objs.size (s1.heap.objs.size + 1) a b := by
          exact zip_apart _ a b la lb
        refine wpAny_pyIter_zip a1 ⟨s1.heap.objs.size + 4, _, _, Itz X.K a b, H1, rfl, I2, turn_zip a b _ _ _ _ _ D, ⟨a1, a2, ⟨_, _, a3⟩, a4, a5⟩, fun c hc => ?_, q⟩
        have hc' : s1.heap.objs.size ≤ c := by
          simp only [List.mem_cons, List.not_mem_nil, or_false] at hc
          rcases hc with rfl | rfl | rfl | rfl | rfl
          · exact Nat.le_add_right _ _
          · exact Nat.le_add_right _ _
          · exact Nat.le_add_right _ _
          · exact Nat.le_refl _
          · exact Nat.le_add_right _ _
        exact I1.fpOk hc' (I1.hok.fresh hc')
  · exact q1.elim⟩
end
section
variable {g : TG} {tt : TT} {te : TE} {σ0 : St} {H1 : Hp} {Q : Addr → Hp → Prop} {K : PySem.W.Frag}
theorem comp_zip {a b : Addr} (xs ys : List V) (hlen : xs.length = ys.length) (R : Nat → Addr → St → Hp → List V → Prop)
    (h0 : ∀ D H', H1 D = none → Same H1 H' → H' D = some (.lst []) → R 0 D σ0 H' [])
    (hl : ∀ i D σ H zs, H1 D = none → R i D σ H zs → SqL K H a xs ∧ SqL K H b ys)
    (hs : ∀ i x y T D σ H H' zs, xs[i]? = some x → ys[i]? = some y → H1 D = none → R i D σ H zs → H D = some (.lst zs) → H T = none → Same H H' → H' T = some (.tup [x, y]) → Turn1 g tt te D zs (.ref T) σ H' (R (i + 1) D))
    (hd : ∀ D σ H zs, H1 D = none → R xs.length D σ H zs → H D = some (.lst zs) → Q D H) : ∀ D, H1 D = none → compRead (Itz K a b) D (upG g) (upT tt) (upE te) σ0 (upd H1 D (.lst [])) fun H2 => Q D H2 := by
  intro D hD
  refine ⟨fun i m σ H => m = xs.length - i ∧ i ≤ xs.length ∧ ∃ zs, H D = some (.lst zs) ∧ R i D σ H zs, ⟨xs.length, by simp, Nat.zero_le _, [], upd_same, h0 D _ hD (same_upd hD) upd_same⟩, ?_⟩
  rintro i m σ H ⟨rfl, hi, zs, e, r⟩
  obtain ⟨q1, q2⟩ := hl i D σ H zs hD r
  by_cases hlt : i < xs.length
  · have hlt2 : i < ys.length := by omega
    refine .inr ⟨⟨xs, ys, xs[i], ys[i], q1, q2, by simp [hlt], by simp [hlt2]⟩, fun σ H => ∃ zs, H D = some (.lst zs) ∧ R (i + 1) D σ H zs, fun σ' H' p' => ⟨xs.length - (i + 1), by omega, rfl, hlt, p'⟩, fun x H' y => ?_⟩
    obtain ⟨T, v, w', hT, rfl, rfl, y1, y2⟩ := y
    exact turn1_ok (hs i v w' T D σ H _ zs (y1 xs q1) (y2 ys q2) hD r e hT (same_upd hT) upd_same) fun σ H zs e r => ⟨zs, e, r⟩
  · have ei : i = xs.length := by omega
    subst ei
    exact .inl ⟨⟨xs, ys, q1, q2, .inl (Nat.le_refl _)⟩, hd D σ H zs hD r e⟩
end
end L2
set_option linter.all false
set_option Elab.async false
set_option maxRecDepth 100000
set_option maxHeartbeats 4000000
namespace L2
open PySem PySem.Spec PyProof.Rows
section
variable {X : Cx} {K : PySem.W.Frag} {e a b c o tg : Expr} {es rest : List Expr} {te ta tb tc to : TE} {t : TA} {pos p p2 : Pos} {x : Str}
theorem kg_tup {k : Nat} {u : TGs} (hK : X.K = K) (hc : X.calm = true) (h : QGs X es u) : QG X (.Tuple es k pos) (gTm K es.length u) := hK ▸ qg_tup hc h
theorem ki_list (hK : X.K = K) (h : QE X e te) : QI X tg e (mItL K te) := hK ▸ qi_list h
theorem ki_tup (hK : X.K = K) (h : QE X e te) : QI X tg e (mItT K te) := hK ▸ qi_tup h
theorem ki_enum {k : Nat} (hK : X.K = K) (hg : Gl X "enumerate") (hm : X.mg "enumerate" = none) (h : QA X [a] t) : QI X (.Tuple es k p2) (.Call (.Name "enumerate" p) [a] [] pos) (mEnum K t) := hK ▸ qi_enum hg hm h
theorem ki_zip {k : Nat} (hK : X.K = K) (hg : Gl X "zip") (hm : X.mg "zip" = none) (h : QA X [a, b] t) : QI X (.Tuple es k p2) (.Call (.Name "zip" p) [a, b] [] pos) (mZip K t) := hK ▸ qi_zip hg hm h
theorem ke_not (hK : X.K = K) (ha : QE X a ta) : QE X (.UnaryOp .Not a pos) (mNotV K ta) := hK ▸ qe_not ha
theorem ke_and (hK : X.K = K) (ha : QE X a ta) (hb : QE X (.BoolOp .And (b :: rest) pos) tb) : QE X (.BoolOp .And (a :: b :: rest) pos) (mAndV K ta tb) := hK ▸ qe_and ha hb
theorem ke_slice {lo hi : Option Expr} {tl th : TO} (hK : X.K = K) (he : QE X e te) (hl : QO X lo tl) (hu : QO X hi th) : QE X (.Subscript e (.Slice lo hi none p2) pos) (tSl (vSl K) te tl th) := hK ▸ qe_slice he hl hu
theorem ke_ix (hK : X.K = K) (ha : QE X a ta) (hb : QE X b tb) (hs : PlainIx b) : QE X (.Subscript a b pos) (tOp (vIx K) ta tb) := hK ▸ qe_ix ha hb hs
theorem ke_m1 {name : Str} {T id : String} {r : V → List V → Hp → VK → Prop} (hK : X.K = K) (pa : PlainAttrs T) (slot : Slot T name id) (hty : typeOf (.builtin id) = pure (.type "method_descriptor")) (hm : MtR X id r) (ho : QE X o to) (ha : QE X e te)
    (hp : plainE e = true := by rfl) (hbase : attributeBase o name X.env (eval o X.env) = eval o X.env := by rfl) (hline : (p.endLine == pos.line) = true := by rfl) : QE X (.Call (.Attribute o name p) [e] [] pos) (tBM K T r to (tCons te tNil)) := hK ▸ qe_m1 pa slot hty hm ho ha hp hbase hline
theorem kt_val (hK : X.K = K) (ha : QE X a ta) (he : ∀ whole, isTrue a X.env whole = (do let v ← whole; standAt a.pos; holding [v] (truthy v)) := by intro _; rfl) : QT X a (mT K ta) := hK ▸ qt_val ha he
theorem kSum (hK : X.K = K) (hc : X.calm = true) : CallR X (.builtin "sum") (vSum K) := hK ▸ callSum hc
theorem kMax (hK : X.K = K) (hc : X.calm = true) : CallR X (.builtin "max") (vMax K) := hK ▸ callMax hc
theorem kMin (hK : X.K = K) (hc : X.calm = true) : CallR X (.builtin "min") (vMin K) := hK ▸ callMin hc
theorem kLen (hK : X.K = K) : CallR X (.builtin "len") (vLen K) := hK ▸ callLen
theorem kSorted (hK : X.K = K) : CallR X (.builtin "sorted") (vSorted K) := hK ▸ callSorted
theorem kIsi (hK : X.K = K) : CallR X (.builtin "isinstance") (vIsi K) := hK ▸ callIsi
def vClr : V → List V → Hp → VK → Prop := fun x vs H Q => match x, vs with
  | .ref a, [] => hClr a H Q
  | _, _ => False
end
section
variable {X : Cx}
theorem paired_at {α β : Type} {R : α → β → Prop} : ∀ {xs : List α} {ys : List β}, Paired R xs ys → ∀ (j : Nat) {x : α} {y : β}, xs[j]? = some x → ys[j]? = some y → R x y
  | _, _, .nil, j, _, _, h, _ => by simp at h
  | _, _, .cons r t, 0, _, _, h1, h2 => by simp at h1 h2; subst h1; subst h2; exact r
  | _, _, .cons r t, j + 1, _, _, h1, h2 => paired_at t j (by simpa using h1) (by simpa using h2)
theorem all_true (n : Nat) : ((List.range n).all fun _ => true) = true := by simp
theorem seq_same {pins : List (Addr × Obj)} {σ : St} {H : Hp} {s : Shared} {n : Nat} {A : Around} {xs ys : List V} {us vs : List Value} {ds : List PyData}
    (ih : ∀ (x y : V) (u v : Value) (d : PyData), RV n H x d → RV n H y d → RelV x u → RelV y v → SeqAt.EqAt A s u v true) (p1 : Paired (RV n H) xs ds) (p2 : Paired (RV n H) ys ds) (r1 : Vals xs us) (r2 : Vals ys vs) :
    us.toArray.size = vs.toArray.size ∧ ∀ j (h1 : j < us.toArray.size) (h2 : j < vs.toArray.size), SeqAt.EqAt A s us.toArray[j] vs.toArray[j] ((fun _ => true) j) := by
  have l1 := Paired.length p1
  have l2 := Paired.length p2
  have l3 := Paired.length r1
  have l4 := Paired.length r2
  refine ⟨by simp only [List.size_toArray]; omega, fun j h1 h2 => ?_⟩
  have h1' : j < us.length := by simpa using h1
  have h2' : j < vs.length := by simpa using h2
  have hx : j < xs.length := by omega
  have hy : j < ys.length := by omega
  have hd : j < ds.length := by omega
  exact ih xs[j] ys[j] _ _ ds[j] (paired_at p1 j (List.getElem?_eq_getElem hx) (List.getElem?_eq_getElem hd)) (paired_at p2 j (List.getElem?_eq_getElem hy) (List.getElem?_eq_getElem hd))
    (paired_at r1 j (List.getElem?_eq_getElem hx) (by simp [h1'])) (paired_at r2 j (List.getElem?_eq_getElem hy) (by simp [h2']))
inductive RdP (n : Nat) (H : Hp) (h : Heap) (a : Addr) : PyData → Prop where
  | lst {xs : List V} {us : List Value} {ds : List PyData} (p : Paired (RV n H) xs ds) (r : Vals xs us) (l : h.IsList a us.toArray) : RdP n H h a (.list ds)
  | tup {xs : List V} {us : List Value} {ds : List PyData} (p : Paired (RV n H) xs ds) (r : Vals xs us) (l : h.IsTuple a us.toArray) : RdP n H h a (.tuple ds)
theorem rdP_of {pins : List (Addr × Obj)} {σ : St} {H : Hp} {s : Shared} (I : Inv X pins σ H s) {n : Nat} {a : Addr} {d : PyData} (h : RV (n + 1) H (.ref a) d) : RdP n H s.heap a d := by
  rcases (show (∃ xs ds, Rd H a (.lst xs) ∧ d = .list ds ∧ Paired (RV n H) xs ds) ∨ ∃ xs ds, Rd H a (.tup xs) ∧ d = .tuple ds ∧ Paired (RV n H) xs ds from h) with ⟨xs, ds, h1, rfl, h3⟩ | ⟨xs, ds, h1, rfl, h3⟩
  · obtain ⟨us, r, p, _⟩ := I.list (.inl h1)
    exact .lst h3 r p.isList
  · obtain ⟨us, r, p, _⟩ := I.tuple (.inl h1)
    exact .tup h3 r p
def flatD : V → Option PyData
  | .non => some .none
  | .bl b => some (.bool b)
  | .int i => some (.int i)
  | .str x => some (.str x)
  | _ => none
theorem rv_scal {n : Nat} {H : Hp} {x : V} {d : PyData} (h : RV n H x d) (hx : ∀ a, x ≠ .ref a) : flatD x = some d := by
  cases x with
  | non => have e : d = .none := by cases n <;> exact h
           rw [e]; rfl
  | bl b => have e : d = .bool b := by cases n <;> exact h
            rw [e]; rfl
  | int i => have e : d = .int i := by cases n <;> exact h
             rw [e]; rfl
  | str i => have e : d = .str i := by cases n <;> exact h
             rw [e]; rfl
  | ref a => exact absurd rfl (hx a)
  | byt b => cases n <;> exact (show False from h).elim
  | flt b => cases n <;> exact (show False from h).elim
  | ty b => cases n <;> exact (show False from h).elim
theorem rv_ref {n : Nat} {H : Hp} {a : Addr} {d : PyData} (h : RV n H (.ref a) d) : (∃ ds, d = .list ds) ∨ ∃ ds, d = .tuple ds := by
  cases n with
  | zero => exact (show False from h).elim
  | succ n =>
    rcases (show (∃ xs ds, Rd H a (.lst xs) ∧ d = .list ds ∧ Paired (RV n H) xs ds) ∨ ∃ xs ds, Rd H a (.tup xs) ∧ d = .tuple ds ∧ Paired (RV n H) xs ds from h) with ⟨xs, ds, _, e, _⟩ | ⟨xs, ds, _, e, _⟩
    · exact .inl ⟨ds, e⟩
    · exact .inr ⟨ds, e⟩
theorem flat_no {x : V} {d : PyData} (h : flatD x = some d) : (∀ ds, d ≠ .list ds) ∧ ∀ ds, d ≠ .tuple ds := by
  cases x <;> simp [flatD] at h <;> subst h <;> exact ⟨fun ds e => (by cases e), fun ds e => (by cases e)⟩
theorem flat_inj {x y : V} {d : PyData} (h1 : flatD x = some d) (h2 : flatD y = some d) : x = y := by
  cases x <;> simp [flatD] at h1 <;> subst h1 <;> cases y <;> simp [flatD] at h2 <;> first | rfl | (subst h2; rfl)
theorem both_flat {n : Nat} {H : Hp} {x y : V} {d : PyData} (h1 : RV n H x d) (h2 : RV n H y d) (hx : ∀ a, x ≠ .ref a) : x = y := by
  have f1 := rv_scal h1 hx
  refine flat_inj f1 (rv_scal h2 fun b e => ?_)
  subst e
  rcases rv_ref h2 with ⟨ds, e⟩ | ⟨ds, e⟩
  · exact (flat_no f1).1 ds e
  · exact (flat_no f1).2 ds e
theorem rel_same {x : V} {u v : Value} {d : PyData} {A : Around} {s : Shared} (hf : flatD x = some d) (r1 : RelV x u) (r2 : RelV x v) : SeqAt.EqAt A s u v true := by
  cases x with
  | non => cases r1; cases r2; exact SeqAt.EqAt.same _
  | bl b => cases r1; cases r2; exact SeqAt.EqAt.same _
  | int i =>
    obtain ⟨t, rfl⟩ := r1
    obtain ⟨t', rfl⟩ := r2
    have := SeqAt.EqAt.int_int (A := A) (s := s) i t i t'
    rw [beq_self_eq_true] at this
    exact this
  | str i =>
    obtain ⟨t, rfl⟩ := r1
    obtain ⟨t', rfl⟩ := r2
    have := SeqAt.EqAt.str_str (A := A) (s := s) i t i t'
    rw [beq_self_eq_true] at this
    exact this
  | _ => cases hf
theorem rv_flat {n : Nat} {H : Hp} {x y : V} {u v : Value} {d : PyData} {A : Around} {s : Shared} (h1 : RV n H x d) (h2 : RV n H y d) (r1 : RelV x u) (r2 : RelV y v) (hx : ∀ a, x ≠ .ref a) : SeqAt.EqAt A s u v true := by
  have e := both_flat h1 h2 hx
  subst e
  exact rel_same (rv_scal h1 hx) r1 r2
theorem eqAt_rv {pins : List (Addr × Obj)} {σ : St} {H : Hp} {s : Shared} (I : Inv X pins σ H s) : ∀ (n : Nat) (A : Around), A.units + n < cLine → ∀ (x y : V) (u v : Value) (d : PyData), RV n H x d → RV n H y d → RelV x u → RelV y v → SeqAt.EqAt A s u v true := by
  intro n
  induction n with
  | zero =>
    intro A hA x y u v d h1 h2 r1 r2
    refine rv_flat h1 h2 r1 r2 fun a e => ?_
    subst e
    exact (show False from h1)
  | succ n ih =>
    intro A hA x y u v d h1 h2 r1 r2
    by_cases hx : ∃ a, x = .ref a
    · obtain ⟨a, rfl⟩ := hx
      by_cases hy : ∃ b, y = .ref b
      · obtain ⟨b, rfl⟩ := hy
        cases r1
        cases r2
        by_cases hab : a = b
        · subst hab; exact SeqAt.EqAt.same _
        have ih' := ih A.in1 (by show A.units + 1 + n < cLine; omega)
        have hu : A.units < cLine := by omega
        cases rdP_of I h1 with
        | lst p1 q1 l1 =>
          cases rdP_of I h2 with
          | lst p2 q2 l2 =>
            obtain ⟨z1, z2⟩ := seq_same (pins := pins) (σ := σ) ih' p1 p2 q1 q2
            have := SeqAt.RcAt.lists (A := A) l1 l2 z1 hu z2
            rw [all_true] at this
            exact SeqAt.EqAt.of_refs hab this
        | tup p1 q1 l1 =>
          cases rdP_of I h2 with
          | tup p2 q2 l2 =>
            obtain ⟨z1, z2⟩ := seq_same (pins := pins) (σ := σ) ih' p1 p2 q1 q2
            have := SeqAt.RcAt.tuples (A := A) l1 l2 hu z2
            rw [all_true, z1, beq_self_eq_true] at this
            exact SeqAt.EqAt.of_refs hab this
      · exact absurd ⟨a, (both_flat h2 h1 fun b e => hy ⟨b, e⟩)⟩ hy
    · exact rv_flat h1 h2 r1 r2 fun a e => hx ⟨a, e⟩
@[irreducible] def hEqR (K : PySem.W.Frag) (a b : Addr) (H : Hp) (Q : Bool → Hp → Prop) : Prop := hEqL K a b H Q ∨ ∃ n d, n ≤ 20 ∧ RV (n + 1) H (.ref a) d ∧ RV (n + 1) H (.ref b) d ∧ Q true H
theorem i_eqI {K : PySem.W.Frag} {a b : Addr} {H : Hp} {Q : Bool → Hp → Prop} {ns ms : List Int} (h1 : SqL K H a (ns.map V.int)) (h2 : SqL K H b (ms.map V.int)) (q : Q (decide (ns = ms)) H) : hEqR K a b H Q := by unfold hEqR; exact .inl (i_eqL h1 h2 q)
def vEqG (K : PySem.W.Frag) (n : Bool → Bool) : R2 := fun x y H Q => match x, y with
  | .int i, .int j => Q (.bl (n (decide (i = j)))) H
  | .str i, .str j => Q (.bl (n (decide (i = j)))) H
  | .bl i, .bl j => Q (.bl (n (decide (i = j)))) H
  | .non, .non => Q (.bl (n true)) H
  | .non, .int _ => Q (.bl (n false)) H
  | .int _, .non => Q (.bl (n false)) H
  | .non, .bl _ => Q (.bl (n false)) H
  | .bl _, .non => Q (.bl (n false)) H
  | .ref a, .ref b => hEqR K a b H fun r H' => Q (.bl (n r)) H'
  | _, _ => False
theorem kEqG {K : PySem.W.Frag} {k : Nat} (hK : X.K = K) (hr : Room k X.A) : OpR X (compareOp .Eq) (vEqG K id) := by
  subst hK
  intro pins s σ H x y v u Q I rx ry h
  cases x <;> cases y <;> first
    | exact (show False from h).elim
    | exact op_eq pins s σ H _ _ v u Q I rx ry ⟨rfl, by rw [dI]; exact h⟩
    | exact op_eq pins s σ H _ _ v u Q I rx ry ⟨rfl, by rw [dS]; exact h⟩
    | exact op_eq pins s σ H _ _ v u Q I rx ry ⟨rfl, by rw [dB]; exact h⟩
    | exact op_eq pins s σ H _ _ v u Q I rx ry ⟨rfl, h⟩
    | skip
  rename_i a b
  have h := (show hEqR X.K a b H _ from h)
  unfold hEqR at h
  rcases h with h | ⟨n, d, hn, h1, h2, q⟩
  · unfold hEqL at h; obtain ⟨xs, ys, h1, h2, h3⟩ := h; exact op_eqI hr pins s σ H _ _ v u Q I rx ry ⟨_, _, xs, ys, rfl, rfl, h1, h2, h3⟩
  · cases rx
    cases ry
    have hu := hr.units
    have ih := eqAt_rv I n X.A.in1 (by show X.A.units + 1 + n < cLine; omega)
    cases rdP_of I h1 with
    | lst p1 q1 l1 =>
      cases rdP_of I h2 with
      | lst p2 q2 l2 =>
        obtain ⟨z1, z2⟩ := seq_same (pins := pins) (σ := σ) ih p1 p2 q1 q2
        exact SeqAt.eq_listAt l1 l2 z1 (by omega) z2 (by rw [all_true]; exact ⟨.bl true, H, I, rfl, q⟩)
    | tup p1 q1 l1 =>
      cases rdP_of I h2 with
      | tup p2 q2 l2 =>
        obtain ⟨z1, z2⟩ := seq_same (pins := pins) (σ := σ) ih p1 p2 q1 q2
        exact SeqAt.eq_tupleAt l1 l2 (by omega) z2 (by rw [all_true, z1, beq_self_eq_true]; exact ⟨.bl true, H, I, rfl, q⟩)
theorem kNeG {K : PySem.W.Frag} {k : Nat} (hK : X.K = K) (hr : Room k X.A) : OpR X (compareOp .NotEq) (vEqG K not) := by
  subst hK
  intro pins s σ H x y v u Q I rx ry h
  cases x <;> cases y <;> first
    | exact (show False from h).elim
    | exact op_ne pins s σ H _ _ v u Q I rx ry ⟨rfl, by rw [dI]; exact h⟩
    | exact op_ne pins s σ H _ _ v u Q I rx ry ⟨rfl, by rw [dS]; exact h⟩
    | exact op_ne pins s σ H _ _ v u Q I rx ry ⟨rfl, by rw [dB]; exact h⟩
    | exact op_ne pins s σ H _ _ v u Q I rx ry ⟨rfl, h⟩
    | skip
  rename_i a b
  have h := (show hEqR X.K a b H _ from h)
  unfold hEqR at h
  have hu := hr.units
  rcases h with h | ⟨n, d, hn, h1, h2, q⟩
  · unfold hEqL at h
    obtain ⟨ns, ms, h1, h2, qq⟩ := h
    cases rx; cases ry
    obtain ⟨its, r1, p1, _⟩ := I.list h1
    obtain ⟨its2, r2, p2, _⟩ := I.list h2
    have i1 := intsAre_of r1
    have i2 := intsAre_of r2
    have l1 := r1.length
    have l2 := r2.length
    rw [List.length_map] at l1 l2
    by_cases hl : ns.length = ms.length
    · refine SeqAt.RcNeAt.lists (e := fun j => decide (ns.getD j 0 = ms.getD j 0)) p1.isList p2.isList (by simp only [List.size_toArray]; omega) hr.units0 (fun j a1 a2 => ?_) _ _ _ _ ?_
      · obtain ⟨t1, e1⟩ := ints_at i1 j a1
        obtain ⟨t2, e2⟩ := ints_at i2 j a2
        rw [e1, e2]
        have := SeqAt.EqAt.int_int (A := X.A.in1) (s := s) (ns.getD j 0) t1 (ms.getD j 0) t2
        rw [Bool.beq_eq_decide_eq] at this
        exact this
      · rw [show its.toArray.size = ns.length by simp only [List.size_toArray]; omega, all_range_eq ns ms hl]
        exact ⟨.bl _, H, I, rfl, qq⟩
    · refine SeqAt.RcNeAt.lists_lengths p1.isList p2.isList (by simp only [List.size_toArray, bne_iff_ne]; omega) hr.units0 _ _ _ _ ⟨.bl true, H, I, rfl, ?_⟩
      have : decide (ns = ms) = false := decide_eq_false fun e => hl (by rw [e])
      rw [this] at qq
      exact qq
  · cases rx
    cases ry
    have ih := eqAt_rv I n X.A.in1 (by show X.A.units + 1 + n < cLine; omega)
    cases rdP_of I h1 with
    | lst p1 q1 l1 =>
      cases rdP_of I h2 with
      | lst p2 q2 l2 =>
        obtain ⟨z1, z2⟩ := seq_same (pins := pins) (σ := σ) ih p1 p2 q1 q2
        exact SeqAt.RcNeAt.lists l1 l2 z1 (by omega) z2 _ _ _ _ (by rw [all_true]; exact ⟨.bl false, H, I, rfl, q⟩)
    | tup p1 q1 l1 =>
      cases rdP_of I h2 with
      | tup p2 q2 l2 =>
        obtain ⟨z1, z2⟩ := seq_same (pins := pins) (σ := σ) ih p1 p2 q1 q2
        exact SeqAt.RcNeAt.tuples l1 l2 (by omega) z2 _ _ _ _ (by rw [all_true, z1, beq_self_eq_true]; exact ⟨.bl false, H, I, rfl, q⟩)
end
end L2
set_option linter.all false
set_option Elab.async false
set_option maxRecDepth 100000
set_option maxHeartbeats 4000000
namespace L2
open PySem PySem.Spec PyProof.Rows
section
variable {X : Cx}
@[irreducible] def hRng (i j : Int) (H : Hp) (Q : VK) : Prop := ∀ p, H p = none → Q (.ref p) (upd H p (.rng i j))
def mRngV (ta : TA) : TE := fun σ H Q => ta σ H fun vs H1 => match vs with
  | [.int i, .int j] => hRng i j H1 Q
  | _ => False
theorem qe_range2 {a b : Expr} {t : TA} {p pos : Pos} (hg : Gl X "range") (hm : X.mg "range" = none) (ha : QA X [a, b] t) : QE X (.Call (.Name "range" p) [a, b] [] pos) (mRngV t) := ⟨by
  intro pins s σ H Q I h
  have hp := ha.p
  have h2 : [b].all plainE = true := by simp only [List.all_cons, List.all_nil, Bool.and_true, Bool.and_eq_true] at hp ⊢; exact hp.2
  have h1 : plainE a = true := by simp only [List.all_cons, List.all_nil, Bool.and_true, Bool.and_eq_true] at hp; exact hp.1
  refine Call_ (ld_blt I hg hm boot_range (PyProof.Rows.callWith_type1 (thn (ha.h pos pins s σ H _ I h) fun us s1 ⟨vs, H1, I1, r1, q1⟩ => ?_) (star_plain h1) (any_plain h2)))
  dsimp only at q1
  split at q1
  · rename_i i j
    cases r1 with
    | cons ra rr =>
      cases rr with
      | cons rb rr =>
        cases rr
        obtain ⟨ta, rfl⟩ := ra
        obtain ⟨tb, rfl⟩ := rb
        unfold hRng at q1
        have hn : H1 s1.heap.objs.size = none := I1.hok.fresh (Nat.le_refl _)
        refine call_range_2 ⟨.ref s1.heap.objs.size, upd H1 s1.heap.objs.size (.rng i j), ?_, rfl, q1 _ hn⟩
        exact I1.laid (t' := s1.toks + 1) (fun b o e => Heap.get?_push_of_some _ e) (Nat.le_refl _) ⟨_, _, _, Heap.get?_push_size _ rfl⟩
  · exact q1.elim⟩
@[irreducible] def hListR (a : Addr) (H : Hp) (Q : VK) : Prop := ∃ lo hi : Int, H a = some (.rng lo hi) ∧ (-(2 ^ 62) ≤ lo ∧ lo < 2 ^ 62 ∧ -(2 ^ 62) ≤ hi ∧ hi < 2 ^ 62) ∧ (hi - lo).toNat ≤ 100000 ∧
  ∀ l, H l = none → Q (.ref l) (upd H l (.lst ((List.range (hi - lo).toNat).map fun (k : Nat) => V.int (lo + (k : Int)))))
def vListR : List V → Hp → VK → Prop := fun xs H Q => match xs with
  | [.ref a] => hListR a H Q
  | _ => False
theorem vals_items {lo : Int} : ∀ {n : Nat} {us : List Value}, us.length = n → (∀ (j : Nat) (v : Value), us[j]? = some v → ∃ t, v = Value.int (lo + (j : Int) * 1) t) → Vals ((List.range n).map fun (k : Nat) => V.int (lo + (k : Int))) us := by
  intro n
  induction n generalizing lo with
  | zero => intro us hl _; have : us = [] := List.length_eq_zero_iff.mp hl; subst this; exact .nil
  | succ n ih =>
    intro us hl h
    cases us with
    | nil => cases hl
    | cons u us =>
      rw [List.range_succ_eq_map, List.map_cons, List.map_map]
      refine .cons ?_ ?_
      · obtain ⟨t, e⟩ := h 0 u rfl
        refine ⟨t, ?_⟩
        rw [e]; simp
      · have := ih (lo := lo + 1) (us := us) (by simpa using hl) fun j v hv => by
          obtain ⟨t, e⟩ := h (j + 1) v (by simpa using hv)
          refine ⟨t, ?_⟩
          rw [e]; congr 1; push_cast; omega
        have e : (fun (k : Nat) => V.int (lo + ((k : Nat) : Int))) ∘ Nat.succ = fun (k : Nat) => V.int (lo + 1 + (k : Int)) := by
          funext k; simp only [Function.comp_apply]; congr 1; push_cast; omega
        rw [e]; exact this
theorem kListR (hc : X.calm = true) : CallR X (.type "list") vListR := by
  intro pins s σ H xs us Q I r h
  unfold vListR at h
  split at h
  · rename_i a
    unfold hListR at h
    obtain ⟨lo, hi, ha, ⟨h1, h2, h3, h4⟩, hl, q⟩ := h
    obtain ⟨u, rfl, ru⟩ := vals1 r
    cases ru
    obtain ⟨t, u, v, e⟩ := (show ObjOk X.prog X.w H s.heap a (.rng lo hi) from I.hok a _ ha)
    have hn : Builtin.Range.rangeSize lo hi 1 = ((hi - lo).toNat : Nat) := by rw [rangeSize_one]; split <;> omega
    refine call_list_range (I.ok.hd hc) (show IsRange s.heap a lo hi 1 t u v from e) (small_one h1 h2 h3 h4) hn (by omega) fun h' tk acc c' hk hS hacc => ?_
    have hf : H s.heap.objs.size = none := I.hok.fresh (Nat.le_refl _)
    refine ⟨.ref s.heap.objs.size, _, ?_, rfl, q _ hf⟩
    refine I.laid hk (Nat.le_refl _) (show ObjOk X.prog X.w _ _ _ (.lst _) from ⟨?_, acc.toList, c', vals_items (by rw [Array.length_toList]; exact hacc.1) fun j v hv => hacc.2 j v (by simpa using hv), by simpa using hS⟩)
    rw [List.length_map, List.length_range]; exact sz_of hl
  · exact h.elim
theorem i_rngV {i j : Int} {H : Hp} {Q : VK} (q : ∀ p H', H p = none → Same H H' → H' p = some (.rng i j) → Q (.ref p) H') : hRng i j H Q := by unfold hRng; exact fun p hp => q p _ hp (same_upd hp) upd_same
theorem i_listR {a : Addr} {lo hi : Int} {H : Hp} {Q : VK} (h : H a = some (.rng lo hi)) (hb : -(2 ^ 62) ≤ lo ∧ lo < 2 ^ 62 ∧ -(2 ^ 62) ≤ hi ∧ hi < 2 ^ 62) (hl : (hi - lo).toNat ≤ 100000)
    (q : ∀ p H', H p = none → Same H H' → H' p = some (.lst (((List.range (hi - lo).toNat).map fun (k : Nat) => lo + (k : Int)).map V.int)) → Q (.ref p) H') : hListR a H Q := by
  unfold hListR; exact ⟨lo, hi, h, hb, hl, fun l hl' => q l _ hl' (same_upd hl') (by rw [upd_same, List.map_map]; rfl)⟩
end
end L2
set_option linter.all false
set_option Elab.async false
set_option maxRecDepth 100000
set_option maxHeartbeats 4000000
namespace L2
open PySem PySem.Spec PyProof.Rows
section
variable {X : Cx} {e st : Expr} {te : TE} {ts : TO} {p2 pos : Pos} {K : PySem.W.Frag}
@[irreducible] def hRev (K : PySem.W.Frag) (a : Addr) (H : Hp) (Q : VK) : Prop := ∃ xs, SqL K H a xs ∧ ∀ p, H p = none → Q (.ref p) (upd H p (.lst xs.reverse))
theorem i_rev {a : Addr} {H : Hp} {Q : VK} {xs : List V} (h : SqL K H a xs) (q : ∀ p H', H p = none → Same H H' → H' p = some (.lst xs.reverse) → Q (.ref p) H') : hRev K a H Q := by
  unfold hRev; exact ⟨xs, h, fun p hp => q p _ hp (same_upd hp) upd_same⟩
def mRev (K : PySem.W.Frag) (te : TE) (ts : TO) : TE := fun σ H Q => te σ H fun x H1 => ts σ H1 fun s H2 => match x, s with
  | .ref a, some k => k = -1 ∧ hRev K a H2 Q
  | _, _ => False
theorem Vals.rev : ∀ {xs : List V} {us : List Value}, Vals xs us → Vals xs.reverse us.reverse
  | _, _, .nil => .nil
  | _, _, .cons r t => by rw [List.reverse_cons, List.reverse_cons]; exact (Vals.rev t).append (.cons r .nil)
theorem qe_rev (hK : X.K = K) (he : QE X e te) (hs : QO X (some st) ts) (hsub : ∀ v sl, subscripted (.Slice none none (some st) p2) false v sl = operate [v, sl] (getItem v sl) := by intro _ _; rfl) : QE X (.Subscript e (.Slice none none (some st) p2) pos) (mRev K te ts) := ⟨by
  subst hK
  intro pins s σ H Q I h
  refine Subscript_ (thn (he.h pins s σ H _ I h) fun v s1 ⟨x, H1, I1, r1, q1⟩ => ?_)
  refine wpAny_Slice ?_
  rw [evalPart_none]
  refine wpAny_pure ?_
  refine wpAny_pure ?_
  refine thn (hs.h pins s1 σ H1 _ I1 q1) fun vk s2 ⟨k, H2, I2, pk, q2⟩ => ?_
  have I3 : Inv X pins σ H2 { s2 with heap := s2.heap.push { cls := .type "slice", data := .fields #[.none, .none, vk] } } := I2.kept (t' := s2.toks) fun b ob q => Heap.get?_push_of_some _ q
  cases x with
  | ref a =>
    cases k with
    | none => exact (show False from q2).elim
    | some k =>
      obtain ⟨rfl, q⟩ := (show k = -1 ∧ hRev X.K a H2 Q from q2)
      unfold hRev at q
      obtain ⟨xs, hx, q⟩ := q
      cases r1
      obtain ⟨its, r, ht, hz⟩ := I3.list hx
      have hlen := r.length
      have hg : wpAny (model X.prog X.w) X.A (getItem (.ref a) (.ref s2.heap.objs.size)) (EP X pins σ Q) X.xe { s2 with heap := s2.heap.push { cls := .type "slice", data := .fields #[.none, .none, vk] } } := by
        refine wpAny_getItem_list_slice ht.isList (Heap.IsSliceOf.new ..) .none .none pk (by decide) ?_ (by rw [List.size_toArray]; omega)
        rw [PySem.W.krv_pick]
        refine ⟨.ref _, _, I3.laid (t' := s2.toks) (o := .lst xs.reverse) (fun b ob q => Heap.get?_push_of_some _ q) (Nat.le_refl _) ?_, rfl, q _ (I3.hok.fresh (Nat.le_refl _))⟩
        exact ⟨by rw [List.length_reverse]; exact hz, _, 0, Vals.rev r, Heap.get?_push_size _ rfl⟩
      exact tail_any (ops := [.ref a, .ref s2.heap.objs.size]) (ht.isList.typeIs) slot_list_getitem.lookup hg (hsub _ _)
  | _ => exact (show False from q2).elim⟩
end
end L2
set_option linter.all false
set_option Elab.async false
set_option maxRecDepth 100000
set_option maxHeartbeats 4000000
namespace L2
open PySem PySem.Spec PyProof.Rows
section
variable {X : Cx} {K : PySem.W.Frag} {e t1 t2 : Expr} {es : List Expr} {te : TE} {pos p p2 : Pos}
end
end L2
set_option linter.all false
set_option Elab.async false
set_option maxRecDepth 100000
set_option maxHeartbeats 4000000
namespace L2
open PySem PySem.Spec PyProof.Rows
section
variable {X : Cx}
@[irreducible] def hPopAt (a : Addr) (i : Int) (H : Hp) (Q : VK) : Prop := ∃ xs k y, H a = some (.lst xs) ∧ -(2 ^ 63) ≤ i ∧ i < 2 ^ 63 ∧ seqIndex? i xs.length = some k ∧ xs[k]? = some y ∧ Q y (upd H a (.lst (xs.eraseIdx k)))
def vPopAt : V → List V → Hp → VK → Prop := fun x vs H Q => match x, vs with
  | .ref a, [.int i] => hPopAt a i H Q
  | _, _ => False
theorem mtPopAt : MtM X "list.pop" vPopAt := by
  intro pins s σ H x vs v us Q I rx rv h
  unfold vPopAt at h
  split at h
  · unfold hPopAt at h; obtain ⟨xs, k, y, h1, h2, h3, h4, h5, h6⟩ := h; exact mt_popAt pins s σ H _ _ v us Q I rx rv ⟨_, xs, _, k, y, rfl, rfl, h1, h2, h3, h4, h5, h6⟩
  · exact h.elim
theorem i_popAt {a : Addr} {i : Int} {H : Hp} {Q : VK} {xs : List V} {y : V} (k : Nat) (h : H a = some (.lst xs)) (hi : i = k) (hk : k < 1000000) (e : xs[k]? = some y) (q : ∀ H', Kp [a] H H' → H' a = some (.lst (xs.eraseIdx k)) → Q y H') : hPopAt a i H Q := by
  have hl : k < xs.length := (List.getElem?_eq_some_iff.mp e).1
  subst hi
  unfold hPopAt
  refine ⟨xs, k, y, h, by omega, by omega, ?_, e, q _ kp_upd upd_same⟩
  unfold seqIndex?
  have e1 : ¬ ((k : Int) < 0) := by omega
  simp only [if_neg e1]
  rw [if_pos (by simp; omega)]
  simp
def vAbs : List V → Hp → VK → Prop := fun xs H Q => match xs with
  | [.int i] => Q (.int (if i < 0 then -i else i)) H
  | _ => False
theorem callAbs : CallR X (.builtin "abs") vAbs := call_abs.imp fun xs H Q h => by
  unfold vAbs at h; split at h
  · exact ⟨_, rfl, h⟩
  · exact h.elim
end
end L2
set_option linter.all false
set_option Elab.async false
set_option maxRecDepth 100000
set_option maxHeartbeats 4000000
namespace L2
open PySem PySem.Spec PyProof.Rows
section
variable {g : TG} {tt : TT} {te : TE} {σ0 : St} {H1 : Hp} {Q : Addr → Hp → Prop} {K : PySem.W.Frag}
end
end L2
set_option linter.all false
set_option Elab.async false
set_option maxRecDepth 100000
set_option maxHeartbeats 4000000
namespace L2
open PySem PySem.Spec PyProof.Rows
section
variable {X : Cx}
@[irreducible] def hIndex (a : Addr) (z : Int) (H : Hp) (Q : VK) : Prop := ∃ (ns : List Int) (j : Nat), H a = some (.lst (ns.map V.int)) ∧ ns[j]? = some z ∧ (∀ i, i < j → ns[i]? ≠ some z) ∧ Q (.int j) H
def vIndex : V → List V → Hp → VK → Prop := fun x vs H Q => match x, vs with
  | .ref a, [.int z] => hIndex a z H Q
  | _, _ => False
def isInt (z : Int) : Value → Bool
  | .int a _ => a == z
  | _ => false
theorem mtIndex : MtM X "list.index" vIndex := by
  intro pins s σ H x vs v us Q I rx rv h
  unfold vIndex at h
  split at h
  · rename_i a z
    unfold hIndex at h
    obtain ⟨ns, j, hH, hj, hno, q⟩ := h
    cases rx
    obtain ⟨u, rfl, ru⟩ := rv.one
    obtain ⟨t, rfl⟩ := ru
    obtain ⟨zl, its, n, r, hl, e⟩ := I.lstM hH
    rw [List.length_map] at hl zl
    have it : ∀ (i : Nat) (w : Value), its[i]? = some w → ∃ (y : Int) (tk : Tok), ns[i]? = some y ∧ w = .int y tk := fun i w hw => by
      have hi : i < its.length := (List.getElem?_eq_some_iff.mp hw).1
      have hi2 : i < ns.length := by omega
      have hx : (ns.map V.int)[i]? = some (.int ns[i]) := by rw [List.getElem?_map, List.getElem?_eq_getElem hi2]; rfl
      obtain ⟨w', hw', rw'⟩ := r.get hx
      rw [hw] at hw'
      cases hw'
      obtain ⟨tk, rfl⟩ := rw'
      exact ⟨ns[i], tk, List.getElem?_eq_getElem hi2, rfl⟩
    have hj2 : j < its.length := by have := (List.getElem?_eq_some_iff.mp hj).1; omega
    have sl : sizeLine < 2 ^ 62 := by rw [sizeLine_eq]; decide
    refine call_meets F.slot_list_index ⟨_, e, rfl⟩ F.entry_list_index (F.args_list_index_2 _ _)
      (MeetsSeq.list_index a its.toArray n (.int z t) (isInt z) (fun y hy => ?_) j (by simpa using hj2) (by omega) ?_ (fun m hm hmj => ?_)) ⟨e, ?_⟩
    · have hy' : y ∈ its := by simpa using hy
      obtain ⟨i, hi⟩ := List.mem_iff_getElem?.mp hy'
      obtain ⟨w, tk, _, rfl⟩ := it i y hi
      exact MeetsSeq.EqGives.int w z tk t
    · obtain ⟨w, tk, h1, h2⟩ := it j its[j] (List.getElem?_eq_getElem hj2)
      rw [hj] at h1
      cases h1
      show isInt z its[j] = true
      rw [h2]; simp [isInt]
    · have hm' : m < its.length := by simpa using hm
      obtain ⟨w, tk, h1, h2⟩ := it m its[m] (List.getElem?_eq_getElem hm')
      show isInt z its[m] = false
      rw [h2]
      have : w ≠ z := fun q => hno m hmj (q ▸ h1)
      simpa [isInt] using this
    · exact ⟨.int j, H, I.tok _, ⟨_, rfl⟩, q⟩
  · exact h.elim
theorem i_index {a : Addr} {z : Int} {H : Hp} {Q : VK} {ns : List Int} (h : H a = some (.lst (ns.map V.int))) (hz : z ∈ ns) (q : ∀ j : Nat, ns[j]? = some z → Q (.int j) H) : hIndex a z H Q := by
  unfold hIndex
  have ex : ∃ j : Nat, ns[j]? = some z := List.mem_iff_getElem?.mp hz
  have key : ∀ n : Nat, (∃ j : Nat, j < n ∧ ns[j]? = some z) → ∃ j : Nat, ns[j]? = some z ∧ ∀ i : Nat, i < j → ns[i]? ≠ some z := by
    intro n
    induction n with
    | zero => rintro ⟨j, h, _⟩; omega
    | succ n ih =>
      rintro ⟨j, h1, h2⟩
      by_cases c : ∃ j : Nat, j < n ∧ ns[j]? = some z
      · exact ih c
      · exact ⟨j, h2, fun i hi hz => c ⟨i, by omega, hz⟩⟩
  obtain ⟨j, hj⟩ := ex
  obtain ⟨j, h1, h2⟩ := key (j + 1) ⟨j, by omega, hj⟩
  exact ⟨ns, j, h, h1, h2, q j h1⟩
end
end L2
set_option linter.all false
set_option Elab.async false
namespace L2
open PySem
section
variable {X : Cx} {K : PySem.W.Frag}
end
end L2
set_option linter.all false
set_option maxRecDepth 100000
namespace L2
open PySem PySem.Spec PyProof.Rows
section
variable {X : Cx}
end
end L2
set_option linter.all false
set_option Elab.async false
set_option maxRecDepth 100000
set_option maxHeartbeats 4000000
namespace SW
open PySem
def Rise (xs : Array Nat) : Prop := xs.toList.Pairwise (· < ·)
theorem rise_at {xs : Array Nat} (h : Rise xs) {i j : Nat} (hij : i < j) (hj : j < xs.size) : xs[i]'(by omega) < xs[j] := by
  have := (List.pairwise_iff_getElem.mp h) i j (by simpa using (by omega : i < xs.size)) (by simpa using hj) hij
  simpa using this
theorem bel_go {xs : Array Nat} {j : Nat} (R : Rise xs) : ∀ (fuel lo hi : Nat), hi - lo ≤ fuel → lo ≤ hi → hi ≤ xs.size → (∀ i (h : i < xs.size), i < lo → xs[i] < j) → (∀ i (h : i < xs.size), hi ≤ i → j ≤ xs[i]) →
    SetTable.below.go xs j fuel lo hi ≤ xs.size ∧ (∀ i (h : i < xs.size), i < SetTable.below.go xs j fuel lo hi → xs[i] < j) ∧ (∀ i (h : i < xs.size), SetTable.below.go xs j fuel lo hi ≤ i → j ≤ xs[i]) := by
  intro fuel
  induction fuel with
  | zero =>
    intro lo hi h1 h2 h3 h4 h5
    have : lo = hi := by omega
    subst this
    unfold SetTable.below.go
    exact ⟨h3, h4, h5⟩
  | succ n ih =>
    intro lo hi h1 h2 h3 h4 h5
    unfold SetTable.below.go
    split
    · rename_i hlt
      have hm : (lo + hi) / 2 < xs.size := by omega
      have e : xs.getD ((lo + hi) / 2) j = xs[(lo + hi) / 2] := by simp [Array.getD, hm]
      dsimp only
      rw [e]
      split
      · rename_i hj
        refine ih _ _ (by omega) (by omega) h3 (fun i hi' hl => ?_) h5
        rcases Nat.lt_or_ge i ((lo + hi) / 2) with c | c
        · exact Nat.lt_trans (rise_at R c hm) hj
        · have : i = (lo + hi) / 2 := by omega
          subst this; exact hj
      · rename_i hj
        refine ih _ _ (by omega) (by omega) (by omega) h4 fun i hi' hl => ?_
        rcases Nat.lt_or_ge ((lo + hi) / 2) i with c | c
        · exact Nat.le_of_lt (Nat.lt_of_le_of_lt (Nat.le_of_not_lt hj) (rise_at R c hi'))
        · have : i = (lo + hi) / 2 := by omega
          subst this; exact Nat.le_of_not_lt hj
    · have : lo = hi := by omega
      subst this
      exact ⟨h3, h4, h5⟩
theorem bel {xs : Array Nat} (j : Nat) (R : Rise xs) : SetTable.below xs j ≤ xs.size ∧ (∀ i (h : i < xs.size), i < SetTable.below xs j → xs[i] < j) ∧ (∀ i (h : i < xs.size), SetTable.below xs j ≤ i → j ≤ xs[i]) :=
  bel_go R _ _ _ (by omega) (Nat.zero_le _) (Nat.le_refl _) (fun i h hl => absurd hl (Nat.not_lt_zero _)) fun i h hl => absurd h (by omega)
theorem bel_mem {xs : Array Nat} {j : Nat} (R : Rise xs) (h : j ∈ xs.toList) : xs[SetTable.below xs j]? = some j := by
  obtain ⟨i, hi, e⟩ := List.mem_iff_getElem.mp h
  obtain ⟨b1, b2, b3⟩ := bel j R
  have hi' : i < xs.size := by simpa using hi
  have e' : xs[i] = j := by simpa using e
  have c1 : SetTable.below xs j ≤ i := by
    rcases Nat.lt_or_ge i (SetTable.below xs j) with c | c
    · exact absurd (b2 i hi' c) (by omega)
    · exact c
  have c2 : SetTable.below xs j = i := by
    rcases Nat.lt_or_ge (SetTable.below xs j) i with c | c
    · have := rise_at R c hi'
      have := b3 _ (by omega : SetTable.below xs j < xs.size) (Nat.le_refl _)
      omega
    · omega
  rw [c2, Array.getElem?_eq_getElem hi', e']
theorem ins_list {α : Type} (xs : Array α) (p : Nat) (x : α) : (SetTable.insertAt xs p x).toList = xs.toList.take p ++ x :: xs.toList.drop p := by
  unfold SetTable.insertAt
  simp [List.take_of_length_le]
theorem rise_ins {xs : Array Nat} {j : Nat} (R : Rise xs) (h : j ∉ xs.toList) : Rise (SetTable.insertAt xs (SetTable.below xs j) j) := by
  obtain ⟨b1, b2, b3⟩ := bel j R
  unfold Rise
  rw [ins_list]
  have hA : ∀ a ∈ xs.toList.take (SetTable.below xs j), a < j := fun a ha => by
    obtain ⟨i, hi, e⟩ := List.mem_iff_getElem.mp ha
    rw [List.length_take] at hi
    have := b2 i (by simpa using (by omega : i < xs.toList.length)) (by omega)
    rw [List.getElem_take] at e
    rw [← e]; simpa using this
  have hB : ∀ a ∈ xs.toList.drop (SetTable.below xs j), j < a := fun a ha => by
    obtain ⟨i, hi, e⟩ := List.mem_iff_getElem.mp ha
    rw [List.length_drop] at hi
    have := b3 (SetTable.below xs j + i) (by simpa using (by omega : SetTable.below xs j + i < xs.toList.length)) (by omega)
    rw [List.getElem_drop] at e
    have ne : a ≠ j := fun q => h (q ▸ List.mem_of_mem_drop ha)
    have e2 : xs[SetTable.below xs j + i]'(by simpa using (by omega : SetTable.below xs j + i < xs.toList.length)) = a := by simpa using e
    omega
  refine List.pairwise_append.mpr ⟨List.Pairwise.sublist (List.take_sublist _ _) R, List.pairwise_cons.mpr ⟨hB, List.Pairwise.sublist (List.drop_sublist _ _) R⟩, fun a ha b hb => ?_⟩
  rcases List.mem_cons.mp hb with rfl | hb
  · exact hA a ha
  · exact Nat.lt_trans (hA a ha) (hB b hb)
structure Ok (t : SetTable) : Prop where
  r : Rise t.place
  d : t.dummies = #[]
theorem no_dummy {t : SetTable} (h : Ok t) (j : Nat) : t.slot j ≠ .dummy := by
  unfold SetTable.slot
  dsimp only
  split
  · exact fun h => nomatch h
  · have : SetTable.has t.dummies j = false := by rw [h.d]; rfl
    rw [this]
    exact fun h => nomatch h
theorem slot_free {t : SetTable} (h : Ok t) {j : Nat} (e : t.slot j = .empty) : j ∉ t.place.toList := by
  intro hm
  unfold SetTable.slot at e
  dsimp only at e
  rw [bel_mem h.r hm] at e
  simp at e
theorem adv_dummy (t : SetTable) (p : SetTable.Probe) : (t.advance p).dummy = p.dummy := by
  unfold SetTable.advance
  split
  · rfl
  · rfl
theorem probe_free {t : SetTable} (h : Ok t) {f : Nat → Int} {x : Int} {j : Nat} {d : Option Nat} : ∀ (fuel : Nat) (p : SetTable.Probe), p.dummy = none → SetTable.probe.go t f x fuel p = some (.empty j d) → t.slot j = .empty ∧ d = none := by
  intro fuel
  induction fuel with
  | zero => intro p _ e; unfold SetTable.probe.go at e; cases e
  | succ n ih =>
    intro p hp e
    unfold SetTable.probe.go at e
    split at e
    · rename_i hs
      injection e with e
      injection e with e1 e2
      subst e1
      exact ⟨hs, by rw [← e2]; exact hp⟩
    · rename_i hs
      exact absurd hs (no_dummy h _)
    · split at e
      · cases e
      · exact ih _ ((adv_dummy _ _).trans hp) e
theorem free_ok {t : SetTable} (h : Ok t) {x : Int} {j : Nat} {b : Bool} (e : t.freeSlot x = some (j, b)) : t.slot j = .empty := by
  unfold SetTable.freeSlot at e
  split at e
  · rename_i j' d hq
    obtain ⟨q1, q2⟩ := probe_free h _ _ rfl hq
    subst q2
    injection e with e
    injection e with e1 e2
    have : j' = j := e1
    rw [← this]; exact q1
  · cases e
theorem stand_ok (t : SetTable) (n : Nat) : Ok (t.standIn n) := ⟨by
  unfold SetTable.standIn Rise
  simp [List.pairwise_lt_range], rfl⟩
theorem put_ok {t : SetTable} (h : Ok t) {j : Nat} (e : t.slot j = .empty) : Ok (t.put j).1 := by
  have hh : SetTable.has t.dummies j = false := by rw [h.d]; rfl
  unfold SetTable.put
  dsimp only
  refine ⟨rise_ins h.r (slot_free h e), ?_⟩
  show (if SetTable.has t.dummies j = true then _ else t.dummies) = #[]
  rw [hh, if_neg (by simp)]
  exact h.d
theorem lay_ok {t : SetTable} (h : Ok t) (es : Array (Int × Value)) (x : Int) (v : Value) : Ok (layNew t es x v).2.1 ∧ (layNew t es x v).2.1.led = t.led := by
  unfold layNew
  split
  · rename_i j b hq
    have := put_ok h (free_ok h hq)
    dsimp only
    unfold SetTable.orStandIn
    split
    · exact ⟨this, rfl⟩
    · exact ⟨stand_ok _ _, rfl⟩
  · exact ⟨stand_ok _ _, rfl⟩
theorem fst_sub {f : Nat → Option Nat} : ∀ l : List Nat, List.Sublist ((l.filterMap fun j => (f j).map fun b => (j, b)).map (·.1)) l
  | [] => List.Sublist.refl _
  | a :: l => by
    rw [List.filterMap_cons]
    cases hf : f a with
    | none => simpa [hf] using (fst_sub l).cons a
    | some b => simpa [hf] using fst_sub l
theorem laid_ok {m fi mo : Nat} {le pl : Bool} {hs : Array Int} {t : SetTable} {o : Array Nat} (e : SetTable.laid m fi mo le pl hs = some (t, o)) : Ok t ∧ t.led = le := by
  unfold SetTable.laid at e
  cases hc : SetTable.layClean m hs with
  | none => rw [hc] at e; cases e
  | some ow =>
    rw [hc] at e
    injection e with e
    injection e with e1 e2
    subst e1
    refine ⟨⟨?_, rfl⟩, rfl⟩
    unfold Rise
    dsimp only
    exact List.Pairwise.sublist (fst_sub (f := fun j => ow.getD j none) _) List.pairwise_lt_range
theorem relay_ok (t : SetTable) (es : Array (Int × Value)) (n : Nat) : Ok (relayAll t es n).2.1 ∧ (relayAll t es n).2.1.led = t.led := by
  unfold relayAll
  split
  · rename_i t' o hq
    unfold SetTable.relaid at hq
    dsimp only
    split
    · exact laid_ok hq
    · exact ⟨stand_ok _ _, rfl⟩
  · exact ⟨stand_ok _ _, rfl⟩
end SW
set_option linter.all false
set_option Elab.async false
set_option maxRecDepth 100000
set_option maxHeartbeats 4000000
namespace SW
open PySem PySem.Spec PyProof.Rows
def byT (w : World) : Bool := w.params.followText "set-order"
def vN : Value → Int
  | .int n _ => n
  | _ => 0
def SetIs (w : World) (o : Obj) (ns : List Int) : Prop :=
  o.ExactSet ∧ ns.Nodup ∧ ∃ es ep t, o.data = .set es ep t ∧ (∀ e ∈ es.toList, ∃ n tk, e = (hashInt n, Value.int n tk)) ∧ (es.toList.map fun e => vN e.2).Perm ns ∧ t.fits es.size = true ∧ Ok t ∧ t.led = !byT w
theorem fresh_is (w : World) : SetIs w { cls := .type "set", dict := none, data := .set #[] 0 (.fresh 0 0 (!byT w)) } [] :=
  ⟨⟨rfl, rfl, rfl⟩, List.nodup_nil, #[], 0, _, rfl, fun e he => by simp at he, List.Perm.refl _, by rfl, ⟨List.Pairwise.nil, rfl⟩, rfl⟩
section
variable {prog : Program} {w : World} {A : Around} {E : Value → Shared → Prop} {s : Shared}
theorem elems {es : List (Int × Value)} (h : ∀ e ∈ es, ∃ n tk, e = (hashInt n, Value.int n tk)) : ElemsOf (intKind prog w) es := fun e he => by
  obtain ⟨n, tk, rfl⟩ := h e he
  exact ⟨⟨n, intKind_is _ _ _ _, rfl⟩, rfl⟩
theorem put_get {h : Heap} {a : Addr} {o : Obj} {es es' : Array (Int × Value)} {ep : Nat} {t t' : SetTable} (ho : h.get? a = some o) (hd : o.data = .set es ep t) :
    (h.update a (Obj.putSet es' t')).get? a = some { o with data := .set es' (ep + 1) t' } := by
  have := Heap.get?_update_self (Obj.putSet es' t') ho (by rw [putSet_of es' t' hd]; rfl)
  rwa [putSet_of es' t' hd] at this
theorem tail_is {g : Bool → Sem Unit} (hg : ∀ (b : Bool) (s1 : Shared) (Q' : Unit → Shared → Prop), Q' () s1 → wpAny (model prog w) A (g b) Q' E s1)
    {a : Addr} {o : Obj} {es es1 : Array (Int × Value)} {ep : Nat} {t t2 : SetTable} {ns : List Int} (ho : s.heap.get? a = some o) (hex : o.ExactSet) (hd : o.data = .set es ep t) (hnd : ns.Nodup)
    (hel : ∀ e ∈ es1.toList, ∃ n tk, e = (hashInt n, Value.int n tk)) (hp : (es1.toList.map fun e => vN e.2).Perm ns) (hb : es1.size < scanBound) (hf : t2.fits es1.size = true) (hok : Ok t2) (hl : t2.led = !byT w) {wd : Bool} {R : Option Bool → Shared → Prop}
    (h : ∀ h' o', Heap.SameBut a s.heap h' → h'.get? a = some o' → SetIs w o' ns → R (some true) { s with heap := h' }) :
    wpAny (model prog w) A (do
        storeSet a es1 t2
        if (!wd && t2.tooFull) = true then do
            g (relayAll t2 es1 (SetTable.grown es1.size)).2.2
            storeSet a (relayAll t2 es1 (SetTable.grown es1.size)).1 (relayAll t2 es1 (SetTable.grown es1.size)).2.1
            pure (some true)
          else pure (some true)) R E s := by
  refine wpAny_bind (wpAny_storeSet_of ho hd ?_ (fits_of_scanBound hb))
  have ho1 := put_get (es' := es1) (t' := t2) ho hd
  have sb1 := Heap.SameBut.update s.heap a (Obj.putSet es1 t2)
  split
  · have q1 := relayAll_perm t2 es1 (SetTable.grown es1.size)
    have q2 := relayAll_fits t2 es1 (SetTable.grown es1.size)
    obtain ⟨q3, q4⟩ := relay_ok t2 es1 (SetTable.grown es1.size)
    generalize relayAll t2 es1 (SetTable.grown es1.size) = Rl at q1 q2 q3 q4 ⊢
    obtain ⟨es2, t3, gave⟩ := Rl
    dsimp only at q1 q2 q3 q4 ⊢
    have hz : es2.size < scanBound := by rw [← Array.length_toList, q1.length_eq, Array.length_toList]; exact hb
    refine wpAny_bind (hg _ _ _ (wpAny_bind (wpAny_storeSet_of ho1 rfl ?_ (fits_of_scanBound hz))))
    have ho2 := put_get (es' := es2) (t' := t3) ho1 rfl
    exact wpAny_pure (h _ _ (sb1.trans (Heap.SameBut.update _ a _)) ho2 ⟨hex, hnd, es2, _, t3, rfl, fun e he => hel e (q1.mem_iff.mp he), (q1.map _).trans hp, q2, q3, q4.trans hl⟩)
  · exact wpAny_pure (h _ _ sb1 ho1 ⟨hex, hnd, es1, _, t2, rfl, hel, hp, hf, hok, hl⟩)
theorem zqdq {t : SetTable} (h : Ok t) : Ok ({ t with plain := false } : SetTable) := ⟨h.r, h.d⟩
theorem add_is {a : Addr} {o : Obj} {ns : List Int} {k : Int} {u : Tok} {Q : Bool → Shared → Prop} (ho : s.heap.get? a = some o) (hs : SetIs w o ns) (hb : ns.length + 1 < scanBound)
    (h : ∀ h' o' ns' b, Heap.SameBut a s.heap h' → h'.get? a = some o' → SetIs w o' ns' → (∀ j, j ∈ ns' ↔ j ∈ ns ∨ j = k) → ns'.length ≤ ns.length + 1 → Q b { s with heap := h' }) :
    wpAny (model prog w) A (setAddHashed a (.int k u) (hashInt k)) Q E s := by
  obtain ⟨hex, hnd, es, ep, t, hd, hel, hp, hf, hok, hl⟩ := id hs
  have hz : es.size = ns.length := by have := hp.length_eq; simpa using this
  unfold setAddHashed setAddHashedIn
  refine wpAny_holding (wpAny_bind (wpAny_setState_of ho hd hf ?_))
  dsimp only
  rw [byScan_of (knd := intKind prog w) (x := .int k u) rfl (by omega) (elems hel)]
  simp only [↓reduceIte]
  unfold setAddByScan
  refine wpAny_bind (wpAny_bind (wpAny_rule (wpAny_bind (wpAny_setScan_of (knd := intKind prog w) (k := k) (intKind_is _ _ _ _) ho hd hf (elems hel) ?_))))
  cases hr : List.findIdx? (fun e => (intKind prog w).is k e.2) es.toList with
  | some j =>
    dsimp only
    obtain ⟨hj, hpj, _⟩ := List.findIdx?_eq_some_iff_getElem.mp hr
    have hm : k ∈ ns := by
      obtain ⟨n, tk, e⟩ := hel _ (List.getElem_mem hj)
      have e2 : n = k := by
        rw [e] at hpj
        exact ((intKind prog w).inj _ _ _ hpj (intKind_is _ _ _ _)).symm
      refine hp.mem_iff.mp (List.mem_map.mpr ⟨_, List.getElem_mem hj, ?_⟩)
      rw [e]; exact e2
    have := h s.heap o ns false (Heap.SameBut.refl a s.heap) ho hs (fun j => ⟨.inl, fun q => q.elim id fun e => e ▸ hm⟩) (by omega)
    exact wpAny_pure (wpAny_pure this)
  | none =>
    dsimp only
    have hm : k ∉ ns := fun q => by
      obtain ⟨e, he, q1⟩ := List.mem_map.mp (hp.mem_iff.mpr q)
      obtain ⟨n, tk, rfl⟩ := hel e he
      have := List.findIdx?_eq_none_iff.mp hr _ he
      have e2 : n = k := q1
      subst e2
      rw [intKind_is] at this
      cases this
    have hgw : ∀ (b : Bool) {s1 : Shared} {Q' : Unit → Shared → Prop}, Q' () s1 → wpAny (model prog w) A (match b with | true => rule "set.scan.the-table-gave-way" | false => pure ()) Q' E s1 :=
      fun b s1 Q' hq => by cases b <;> first | exact wpAny_pure hq | exact wpAny_rule hq
    have q1 := layNew_perm t es (hashInt k) (.int k u)
    have q2 := layNew_fits t es (hashInt k) (.int k u)
    obtain ⟨q3, q4⟩ := lay_ok hok es (hashInt k) (.int k u)
    show wpAny _ _ (match layNew t es (hashInt k) (.int k u) with | (es, t, wd, gave) => _) _ _ _
    generalize layNew t es (hashInt k) (.int k u) = L at q1 q2 q3 q4 ⊢
    obtain ⟨es1, t1, wd, gave⟩ := L
    dsimp only at q1 q2 q3 q4 ⊢
    rw [Array.toList_push] at q1
    have hel1 : ∀ e ∈ es1.toList, ∃ n tk, e = (hashInt n, Value.int n tk) := fun e he => by
      rcases List.mem_append.mp (q1.mem_iff.mp he) with c | c
      · exact hel e c
      · exact ⟨k, u, List.mem_singleton.mp c⟩
    have hp1 : (es1.toList.map fun e => vN e.2).Perm (ns ++ [k]) := by
      refine (q1.map _).trans ?_
      rw [List.map_append]
      exact hp.append_right _
    have hz1 : es1.size = ns.length + 1 := by have := hp1.length_eq; simpa using this
    have hnd1 : (ns ++ [k]).Nodup := List.nodup_append.mpr ⟨hnd, by simp, fun a ha b hb e => hm (by rw [← List.mem_singleton.mp hb, ← e]; exact ha)⟩
    refine wpAny_bind (hgw _ ?_)
    have fin : ∀ h' o', Heap.SameBut a s.heap h' → h'.get? a = some o' → SetIs w o' (ns ++ [k]) → Q true { s with heap := h' } := fun h' o' sb e1 e2 =>
      h h' o' _ true sb e1 e2 (fun j => by simp) (by simp)
    split
    · refine wpAny_bind ?_
      rw [hashByValue_scannable 8 rfl]
      refine wpAny_pure ?_
      refine tail_is ?_ ho hex hd hnd1 hel1 hp1 (by omega) (by split <;> first | exact q2 | exact SetTable.fits_plain_off q2) (by split <;> first | exact q3 | exact zqdq q3) (by split <;> exact q4.trans hl) ?_
      · intro b s1 Q' hq; cases b <;> first | exact wpAny_pure hq | exact wpAny_rule hq
      · intro h' o' sb e1 e2; dsimp only; exact wpAny_pure (fin h' o' sb e1 e2)
    · refine wpAny_bind (wpAny_pure ?_)
      simp only [↓reduceIte]
      refine tail_is ?_ ho hex hd hnd1 hel1 hp1 (by omega) q2 q3 (q4.trans hl) ?_
      · intro b s1 Q' hq; cases b <;> first | exact wpAny_pure hq | exact wpAny_rule hq
      · intro h' o' sb e1 e2; dsimp only; exact wpAny_pure (fin h' o' sb e1 e2)
theorem addv_is {a : Addr} {o : Obj} {ns : List Int} {k : Int} {u : Tok} {Q : Bool → Shared → Prop} (ho : s.heap.get? a = some o) (hs : SetIs w o ns) (hb : ns.length + 1 < scanBound)
    (h : ∀ h' o' ns' b, Heap.SameBut a s.heap h' → h'.get? a = some o' → SetIs w o' ns' → (∀ j, j ∈ ns' ↔ j ∈ ns ∨ j = k) → ns'.length ≤ ns.length + 1 → Q b { s with heap := h', toks := s.toks + 1 }) :
    wpAny (model prog w) A (setAdd a (.int k u)) Q E s := by
  unfold setAdd
  refine wpAny_holding (wpAny_bind ((intKind prog w).pyHash (k := k) (intKind_is _ _ _ _) ?_))
  exact add_is (s := { s with toks := s.toks + 1 }) ho hs hb h
end
section
variable {prog : Program} {w : World} {A : Around} {R : Result → Shared → Prop} {I : Addr} {fp wr : List Addr} {n : Nat} {P : Nat → Value → Prop} {St : Nat → Heap → Prop}
theorem upd_loop (W : Walks prog w A.in1 I fp wr n P St) (S : Addr) (hSf : S ∉ fp) (xs : List Int) (hval : ∀ i v, P i v → ∃ x t, xs[i]? = some x ∧ v = .int x t) (hn : xs.length = n) (hb : n + 1 < scanBound) :
    ∀ (k i : Nat) (s : Shared) (o : Obj) (ns : List Int), n - i = k → i ≤ n → St i s.heap → s.heap.get? S = some o → SetIs w o ns → (∀ j, j ∈ ns ↔ j ∈ xs.take i) → ns.length ≤ i →
      (∀ h' tk o' ns', (∀ b o, b ≠ S → b ∉ wr → s.heap.get? b = some o → h'.get? b = some o) → h'.get? S = some o' → SetIs w o' ns' → (∀ j, j ∈ ns' ↔ j ∈ xs) → ns'.length ≤ n → R (.ok (.ret .none)) { s with heap := h', toks := tk }) →
      codeAny (model prog w) A (.builtin "set.update.loop" ⟨[.ref S, .ref I], []⟩) R s := by
  have hSw : S ∉ wr := fun h => hSf (W.sub _ h)
  intro k
  induction k with
  | zero =>
    intro i s o ns hk hi hst ho hs hm hl hR
    have hin : i = n := by omega
    subst hin
    refine codeAny_builtin F.entry_set_update_loop ?_
    rw [Around.under_plainId F.plain_set_update_loop _]
    show wpAny _ A.in1 (pyNext (.ref I) >>= _) _ _ s
    refine wpAny_bind (W.done s _ _ hst fun h' tk kp => ?_)
    show wpAny _ A.in1 (ret Value.none) _ _ _
    exact wpAny_pure (hR h' tk o ns (fun b o _ hb e => kp b o hb e) (kp S o hSw ho) hs (fun j => by rw [hm j, List.take_of_length_le (by omega)]) hl)
  | succ k ih =>
    intro i s o ns hk hi hst ho hs hm hl hR
    have hlt : i < n := by omega
    refine codeAny_builtin F.entry_set_update_loop ?_
    rw [Around.under_plainId F.plain_set_update_loop _]
    show wpAny _ A.in1 (pyNext (.ref I) >>= _) _ _ s
    refine wpAny_bind (W.item i s _ _ hlt hst fun v h1 tk hP hst' kp => ?_)
    obtain ⟨x, t, hx, rfl⟩ := hval i v hP
    show wpAny _ A.in1 (holding [Value.int x t] (setAdd S (.int x t)) >>= _) _ _ _
    refine wpAny_bind (wpAny_holding ?_)
    refine addv_is (s := { s with heap := h1, toks := tk }) (kp S o hSw ho) hs (by omega) fun h2 o2 ns2 b sb e1 e2 e3 e4 => ?_
    refine wpAny_pure ⟨plainId_quiet F.plain_set_update_loop _, ?_⟩
    refine ih (i + 1) _ o2 ns2 (by omega) hlt (W.frame _ _ _ hst' fun c hc oc q => sb.extBut c oc (fun z => hSf (z ▸ hc)) q) e1 e2 (fun j => ?_) (by omega) fun h' tk' o' ns' z1 z2 z3 z4 z5 => hR h' tk' o' ns' (fun c oc c1 c2 q => z1 c oc c1 c2 (sb.extBut c oc c1 (kp c oc c2 q))) z2 z3 z4 z5
    rw [e3 j, hm j, List.take_add_one, hx]
    simp
end
section
variable {prog : Program} {w : World} {A : Around} {E : Value → Shared → Prop} {s : Shared}
theorem set_new1 (a : Value) {Q₁ : Value → Shared → Prop} (h : Q₁ (.ref s.heap.objs.size) { s with heap := s.heap.push { cls := .type "set", dict := none, data := .set #[] 0 (.fresh 0 0 (!byT w)) } }) :
    codeAny (model prog w) A (.call (.builtin "set.__new__") ⟨[.type "set", a], []⟩) (wants Q₁ E) s := by
  refine codeAny_of_tree ?_
  show wpAny _ A.in1 (do checkBuiltinCall "set.__new__" ⟨[.type "set", a], []⟩; again (.builtin "set.__new__" ⟨[.type "set", a], []⟩)) _ _ s
  refine wpAny_bind (wpAny_of_eq (F.newCall_set_1 a) (wpAny_pure ⟨plainId_quiet F.plain_set_new _, codeAny_builtin F.entry_set_new ?_⟩))
  rw [Around.under_plainId F.plain_set_new _]
  unfold Builtin.«set.__new__» Builtin.Frozenset.newClass
  have hsub := sub_set_self
  obtain ⟨hp, g, d, tk, os⟩ := s
  dsimp only
  wp_walk
  refine wpAny_askSetting (wpAny_pure ?_)
  dsimp only
  simp only [newObj]
  refine wpAny_bind (wpAny_alloc (wpAny_pure ?_))
  exact wpAny_pure h
end
end SW
set_option linter.all false
set_option Elab.async false
set_option maxRecDepth 100000
set_option maxHeartbeats 4000000
namespace SW
open PySem PySem.Spec PyProof.Rows
section
variable {prog : Program} {w : World} {A : Around} {E : Value → Shared → Prop} {s : Shared}
theorem call_set {l : Addr} {vs : List Value} {ns : List Int} {Q : Value → Shared → Prop} (hh : A.handled = none) (hl : s.heap.IsList l vs.toArray) (hi : IntsAre vs ns) (hb : vs.length + 1 < scanBound)
    (h : ∀ h' tk o ms, h'.get? s.heap.objs.size = some o → SetIs w o ms → (∀ j, j ∈ ms ↔ j ∈ ns) → ms.length ≤ ns.length → (∀ b o, s.heap.get? b = some o → h'.get? b = some o) → Q (.ref s.heap.objs.size) { s with heap := h', toks := tk }) :
    wpAny (model prog w) A (call (.type "set") [.ref l]) Q E s := by
  have hvn : vs.length = ns.length := IntsAre.length hi
  obtain ⟨c, tl, hmro⟩ := F.called_set.mro
  have hmade := F.called_set.made; have hsub := F.called_set.sub
  refine wpAny_call (codeAny_of_tree (?_ : wpAny _ _ (callAny (.type "set") _) _ _ _))
  refine wpAny_pure ⟨Code.quiet_builtin _ (by decide +kernel), codeAny_builtin F.entry_type_call ?_⟩
  rw [Around.under_plain (weight_type_call_type "set" [.ref l] []) rfl]
  have h1 := F.called_set.notType; have h2 := F.called_set.canCreate
  have hct := F.typeCall_set_1 (.ref l)
  repeat (any_goals (first | assumption | wp_step))
  refine codeAny_mono (set_new1 (.ref l) (E := E) (Q₁ := fun ob s1 => ob = .ref s.heap.objs.size ∧ s1 = { s with heap := s.heap.push { cls := .type "set", dict := none, data := .set #[] 0 (.fresh 0 0 (!byT w)) } }) ⟨rfl, rfl⟩) fun r s1 hr => ?_
  cases r with
  | error e => exact hr
  | ok fl =>
    cases fl with
    | ret ob =>
      obtain ⟨rfl, rfl⟩ := hr
      have hS : (s.heap.push { cls := .type "set", dict := none, data := .set #[] 0 (.fresh 0 0 (!byT w)) }).get? s.heap.objs.size = some { cls := .type "set", dict := none, data := .set #[] 0 (.fresh 0 0 (!byT w)) } := Heap.get?_push_size _ rfl
      have hT : Shared.TypeIs { s with heap := s.heap.push { cls := .type "set", dict := none, data := .set #[] 0 (.fresh 0 0 (!byT w)) } } (.ref s.heap.objs.size) "set" := ⟨_, hS, rfl⟩
      have hli := F.called_set.init.lookup; have hbi := F.called_set.init.bind (.ref s.heap.objs.size)
      repeat (any_goals (first | assumption | wp_step))
      refine codeAny_mono (codeAny_call_builtin (R := wants (fun r s2 => r = .none ∧ Q (.ref s.heap.objs.size) s2) E) F.called_set.init.plain F.entry_set_init (check_set_init_1 hT ?_)) fun r2 s2 hr2 => ?_
      · obtain ⟨ol, hol, hcl, nl, hdl⟩ := id hl
        obtain ⟨ocls, odict, odata, oslots⟩ := ol
        simp only at hcl hdl
        subst hcl; subst hdl
        have hol' : (s.heap.push { cls := .type "set", dict := none, data := .set #[] 0 (.fresh 0 0 (!byT w)) }).get? l = some { cls := .type "list", dict := odict, data := .seq vs.toArray nl, slots := oslots } := Heap.get?_push_of_some _ hol
        have hsls := F.sub_list_set; have hslf := F.sub_list_frozenset
        have hne : (Value.type "list" == Value.type "dict") = false := by decide
        have hl1 : (s.heap.push { cls := .type "set", dict := none, data := .set #[] 0 (.fresh 0 0 (!byT w)) }).IsList l vs.toArray := ⟨_, hol', rfl, nl, rfl⟩
        unfold Builtin.«set.__init__» noKeywords Builtin.Frozenset.updateFrom
        generalize hPI : pyIter = PI
        wp_walk
        subst hPI
        refine wpAny_pyIter_list hl1 (wpAny_bind (wpAny_runValue ?_))
        have hlS : l < s.heap.objs.size := Heap.lt_size hol
        have hh3 : A.in1.in1.in1.handled = none := by simp [hh]
        have hneI : l ≠ (s.heap.push { cls := .type "set", dict := none, data := .set #[] 0 (.fresh 0 0 (!byT w)) }).objs.size := by
          rw [Heap.size_push]; exact Nat.ne_of_lt (Nat.lt_succ_of_lt hlS)
        have hSf : s.heap.objs.size ∉ [(s.heap.push { cls := .type "set", dict := none, data := .set #[] 0 (.fresh 0 0 (!byT w)) }).objs.size, l] := by
          rw [Heap.size_push]; simp only [List.mem_cons, List.mem_singleton, List.not_mem_nil, or_false, not_or]
          exact ⟨Nat.ne_of_lt (Nat.lt_succ_self _), Nat.ne_of_gt hlS⟩
        refine upd_loop (Walks.list hh3 _ l hneI vs.toArray) s.heap.objs.size hSf ns (fun i v hv => ?_) (by simp [hvn]) (by simpa using hb) (vs.toArray.size - 0) 0 _ _ [] (by omega) (Nat.zero_le _) ⟨⟨_, Heap.get?_push_size _ rfl, rfl, rfl⟩, hl1.push _⟩ (Heap.get?_push_of_some _ hS) (fresh_is w) (fun j => by simp) (Nat.le_refl _) fun h' tk o ms z1 z2 z3 z4 z5 => ?_
        · obtain ⟨x, hx⟩ : ∃ x, ns[i]? = some x := by
            have : i < vs.length := by
              rcases Nat.lt_or_ge i vs.length with q | q
              · exact q
              · have : vs.toArray[i]? = none := by simp [q]
                rw [this] at hv; cases hv
            exact ⟨ns[i]'(by omega), by simp [← hvn, this]⟩
          obtain ⟨t, ht⟩ := PyProof.Rows.IntsAre.int_at hi i v (by simpa using hv)
          refine ⟨x, t, hx, ?_⟩
          rw [ht, List.getD_eq_getElem?_getD, hx]; rfl
        · refine wpAny_pure (wpAny_pure ⟨rfl, h h' tk o ms z2 z3 z4 (by have := z5; simp at this; omega) fun b o q => ?_⟩)
          have hb := Heap.lt_size q
          exact z1 b o (Nat.ne_of_lt hb) (fun q => Nat.ne_of_lt (Nat.lt_succ_of_lt hb) (by rw [List.mem_singleton.mp q, Heap.size_push])) (Heap.get?_push_of_some _ (Heap.get?_push_of_some _ q))
      · cases r2 with
        | error e => exact hr2
        | ok fl2 =>
          cases fl2 with
          | ret r =>
            obtain ⟨rfl, hq⟩ := hr2
            repeat (any_goals (first | assumption | wp_step))
          | _ => exact hr2.elim
    | _ => exact hr.elim
end
end SW
set_option linter.all false
set_option Elab.async false
set_option maxRecDepth 100000
set_option maxHeartbeats 4000000
namespace SW
open PySem PySem.Spec PyProof.Rows
theorem slot_next : Slot "set_iterator" "__next__" "set_iterator.__next__" :=
  .of (owner := "set_iterator") (n := "__next__") (by rw [typeLookup_type, builtinLookup_eq_fast]; kernel_rfl) (by decide +kernel) (by decide +kernel) (by decide +kernel) (by first | exact .inl (by decide +kernel) | exact .inr (by decide +kernel)) (by rw [isSubtype_type]; kernel_rfl)
theorem entry_next : entryFor table "set_iterator.__next__" = some Builtin.«set_iterator.__next__» := entryFor_of_tree (by kernel_rfl)
theorem owner_si : Manifest.owners.lookup (String.ofList ['r', 'o', 't', 'a', 'r', 'e', 't', 'i', '_', 't', 'e', 's'].reverse) = some Manifest.sig_set_iterator := by kernel_rfl
theorem args_next (a : Value) : argsOk "set_iterator.__next__" ⟨[a], []⟩ := by
  unfold argsOk; rw [signature?_of (id := "set_iterator.__next__") (n := ['_', '_', 't', 'x', 'e', 'n', '_', '_']) (o := ['r', 'o', 't', 'a', 'r', 'e', 't', 'i', '_', 't', 'e', 's']) (by kernel_rfl) owner_si]; kernel_rfl
theorem slot_iter : Slot "set_iterator" "__iter__" "set_iterator.__iter__" :=
  .of (owner := "set_iterator") (n := "__iter__") (by rw [typeLookup_type, builtinLookup_eq_fast]; kernel_rfl) (by decide +kernel) (by decide +kernel) (by decide +kernel) (by first | exact .inl (by decide +kernel) | exact .inr (by decide +kernel)) (by rw [isSubtype_type]; kernel_rfl)
theorem entry_iter : entryFor table "set_iterator.__iter__" = some Builtin.«dict_keyiterator.__iter__» := entryFor_alias (id' := "dict_keyiterator.__iter__") (by kernel_rfl) rfl (by decide +kernel) (by kernel_rfl)
theorem args_iter (a : Value) : argsOk "set_iterator.__iter__" ⟨[a], []⟩ := by
  unfold argsOk; rw [signature?_of (id := "set_iterator.__iter__") (n := ['_', '_', 'r', 'e', 't', 'i', '_', '_']) (o := ['r', 'o', 't', 'a', 'r', 'e', 't', 'i', '_', 't', 'e', 's']) (by kernel_rfl) owner_si]; kernel_rfl
theorem entry_siter : entryFor table "set.__iter__" = some Builtin.«frozenset.__iter__» := entryFor_alias (id' := "frozenset.__iter__") (by kernel_rfl) rfl (by decide +kernel) (by kernel_rfl)
def SIt (h : Heap) (I : Addr) (f : Value) (i : Nat) (D : Addr) (n ep : Nat) : Prop := ∃ o, h.get? I = some o ∧ o.cls = .type "set_iterator" ∧ o.data = .fields #[f, rawInt i, .ref D, rawInt n, rawInt ep]
theorem SIt.at {h h' : Heap} {I D : Addr} {f : Value} {i n ep : Nat} (x : SIt h I f i D n ep) (e : ∀ o, h.get? I = some o → h'.get? I = some o) : SIt h' I f i D n ep := let ⟨o, ho, r⟩ := x; ⟨o, e _ ho, r⟩
theorem SIt.ty {s : Shared} {I D : Addr} {f : Value} {i n ep : Nat} (x : SIt s.heap I f i D n ep) : s.TypeIs (.ref I) "set_iterator" := let ⟨o, ho, hc, _⟩ := x; ⟨o, ho, hc⟩
section
variable {prog : Program} {w : World} {A : Around} {E : Value → Shared → Prop} {s : Shared}
theorem ch_ok {M : Model} {src : Source} {n : Nat} {Q : Nat → Shared → Prop} (hn : n ≠ 0) (h : ∀ i d, i < n → Q i { s with drawn := d }) : wpAny M A (choose src n) Q E s := fun Γ p hΓ => by
  show n ≠ 0 ∧ _
  exact ⟨hn, h _ _ (Nat.mod_lt _ (Nat.pos_of_ne_zero hn))⟩
theorem pick_perm {α : Type} {xs : List α} {i : Nat} (h : i < xs.length) : (xs[i] :: xs.eraseIdx i).Perm xs := by
  rw [List.eraseIdx_eq_take_drop_succ]
  refine List.perm_middle.symm.trans ?_
  rw [← List.drop_eq_getElem_cons h, List.take_append_drop]
theorem draw_ok {M : Model} {α : Type} : ∀ (n : Nat) (xs : List α) (s : Shared) (Q : List α → Shared → Prop), xs.length = n → (∀ ys d, ys.Perm xs → Q ys { s with drawn := d }) → wpAny M A (drawOrder n xs) Q E s := by
  intro n
  induction n with
  | zero =>
    intro xs s Q hl h
    have : xs = [] := List.length_eq_zero_iff.mp hl
    subst this
    unfold drawOrder
    exact wpAny_pure (h [] s.drawn (List.Perm.refl _))
  | succ n ih =>
    intro xs s Q hl h
    obtain ⟨x, xs, rfl⟩ : ∃ x r, xs = x :: r := by
      cases xs with
      | nil => cases hl
      | cons x r => exact ⟨x, r, rfl⟩
    unfold drawOrder
    refine wpAny_bind (ch_ok (by simp) fun i d hi => ?_)
    rw [List.getElem?_eq_getElem hi]
    dsimp only
    refine wpAny_bind (ih _ _ _ (by rw [List.length_eraseIdx_of_lt hi]; simpa using hl) fun ys d' hy => wpAny_pure (h _ d' ?_))
    exact (hy.cons _).trans (pick_perm hi)
theorem stop_raise {Q : Fin → Shared → Prop} {E : Value → Shared → Prop} (hh : A.handled = none) (h : ∀ h' e, (∀ b o, s.heap.get? b = some o → h'.get? b = some o) → (∃ o, h'.get? e = some o ∧ o.cls = .type "StopIteration") → E (.ref e) { s with heap := h' }) :
    wpAny (model prog w) A (newExc (.type "StopIteration") [] >>= fun e => raiseNew e) Q E s := by
  refine wpAny_bind ?_
  simp only [newExc, newTuple]
  refine wpAny_bind (wpAny_newObj_type ?_ (by size_fits))
  refine wpAny_bind (m := firstArgMember _ _) (wpAny_of_eq (a := Value.none) (by first | rfl | (simp only [firstArgMember]; rfl)) ?_)
  refine wpAny_newObj_type ?_ (by size_fits)
  simp only [raiseNew]
  refine wpAny_bind (wpAny_handled ?_)
  rw [show A.handled = none from hh]
  refine wpAny_bind (wpAny_pure (wpAny_throw ?_))
  exact h _ _ (fun b o q => Heap.get?_push_of_some _ (Heap.get?_push_of_some _ q)) ⟨_, Heap.get?_push_size _ rfl, rfl⟩
theorem next_of {I : Addr} {f : Value} {i n ep : Nat} {D : Addr} {Q : Option Value → Shared → Prop} (hit : SIt s.heap I f i D n ep)
    (h : wpAny (model prog w) A.in1 (Builtin.«set_iterator.__next__» ⟨[.ref I], []⟩) (fun fin s' => ∃ r, fin = .done (.ret r) ∧ Q (some r) s') (fun e s' => ∃ a o, e = .ref a ∧ s'.heap.get? a = some o ∧ o.cls = .type "StopIteration" ∧ Q none s') s) :
    wpAny (model prog w) A (pyNext (.ref I)) Q E s := by
  unfold pyNext
  refine wpAny_bind (wpAny_attempt (wpAny_callSpecial?_slot (name := Str.ofString "__next__") hit.ty slot_next (wpAny_call_entry slot_next hit.ty entry_next ?_ (args_next _))))
  refine wpAny_mono h (fun fin s' ⟨r, e, q⟩ => ⟨r, e, wpAny_pure q⟩) fun e s' ⟨a, o, e1, e2, e3, q⟩ => ?_
  subst e1
  exact wpAny_bind (wpAny_isInstance (T := "StopIteration") (b := true) ⟨o, e2, e3⟩ isSubtype_stop (wpAny_pure q))
theorem same2 {h : Heap} {I D : Addr} {f : Value} {i n ep : Nat} {o : Obj} (ho : h.get? I = some o) (hd : o.data = .fields #[f, rawInt i, .ref D, rawInt n, rawInt ep]) (k : Nat) (x : Value) :
    (h.update I (Obj.mapFields (·.setIfInBounds k x))).get? I = some (Obj.mapFields (·.setIfInBounds k x) o) := Heap.get?_update_self _ ho (Obj.isFreed_of_fields (Obj.data_mapFields hd _))
theorem int_item {I D : Addr} {sl i n ep nx : Nat} {o : Obj} {es : Array (Int × Value)} {t : SetTable} {x : Value} {Q : Option Value → Shared → Prop} (hit : SIt s.heap I (rawInt sl) i D n ep) (hD : s.heap.get? D = some o) (hd : o.data = .set es ep t) (hf : t.fits es.size = true) (hn : es.size = n)
    (hx : ∀ (E' : Value → Shared → Prop) (Q' : Option (Value × Nat) → Shared → Prop), Q' (some (x, nx)) s → wpAny (model prog w) A.in1 (setNext D sl i ep) Q' E' s)
    (hQ : ∀ h', SIt h' I (rawInt nx) (i + 1) D n ep → Heap.SameBut I s.heap h' → Q (some x) { s with heap := h' }) : wpAny (model prog w) A (pyNext (.ref I)) Q E s := by
  obtain ⟨oi, hoi, hci, hdi⟩ := id hit
  refine next_of hit ?_
  unfold Builtin.«set_iterator.__next__»
  refine wpAny_bind (wpAny_pure (wpAny_bind (wpAny_fieldsOf hoi hdi ?_)))
  show wpAny _ _ (setEntries D >>= _) _ _ s
  refine wpAny_bind (wpAny_setEntries_of hD hd hf ?_)
  rw [if_neg (by rw [hn]; simp)]
  show wpAny _ _ (setNext D (Int.toNat (sl : Int)) (Int.toNat (i : Int)) (Int.toNat (ep : Int)) >>= _) _ _ s
  simp only [Int.toNat_natCast]
  refine wpAny_bind (hx _ _ ?_)
  show wpAny _ _ (setField (.ref I) 0 (rawInt nx) >>= _) _ _ s
  refine wpAny_bind (wpAny_setField hoi hdi (by simp) ?_)
  have e1 := same2 hoi hdi 0 (rawInt nx)
  have d1 : (Obj.mapFields (·.setIfInBounds 0 (rawInt nx)) oi).data = .fields #[rawInt nx, rawInt i, .ref D, rawInt n, rawInt ep] := by rw [Obj.data_mapFields hdi]; rfl
  show wpAny _ _ (setField (.ref I) 1 (rawInt ((i : Int) + 1)) >>= _) _ _ _
  refine wpAny_bind (wpAny_setField e1 d1 (by simp) ?_)
  refine wpAny_pure ⟨_, rfl, hQ _ ⟨_, same2 e1 d1 1 _, ?_, ?_⟩ ((Heap.SameBut.update ..).trans (Heap.SameBut.update ..))⟩
  · exact (Obj.cls_mapFields ..).trans ((Obj.cls_mapFields ..).trans hci)
  · rw [Obj.data_mapFields d1]; rfl
theorem int_end {I D : Addr} {sl i n ep : Nat} {o : Obj} {es : Array (Int × Value)} {t : SetTable} {Q : Option Value → Shared → Prop} (hh : A.handled = none) (hit : SIt s.heap I (rawInt sl) i D n ep) (hD : s.heap.get? D = some o) (hd : o.data = .set es ep t) (hf : t.fits es.size = true) (hn : es.size = n)
    (hx : ∀ (E' : Value → Shared → Prop) (Q' : Option (Value × Nat) → Shared → Prop), Q' none s → wpAny (model prog w) A.in1 (setNext D sl i ep) Q' E' s)
    (hQ : ∀ h', (∀ b o, b ≠ I → s.heap.get? b = some o → h'.get? b = some o) → Q none { s with heap := h' }) : wpAny (model prog w) A (pyNext (.ref I)) Q E s := by
  obtain ⟨oi, hoi, hci, hdi⟩ := id hit
  refine next_of hit ?_
  unfold Builtin.«set_iterator.__next__»
  refine wpAny_bind (wpAny_pure (wpAny_bind (wpAny_fieldsOf hoi hdi ?_)))
  show wpAny _ _ (setEntries D >>= _) _ _ s
  refine wpAny_bind (wpAny_setEntries_of hD hd hf ?_)
  rw [if_neg (by rw [hn]; simp)]
  show wpAny _ _ (setNext D (Int.toNat (sl : Int)) (Int.toNat (i : Int)) (Int.toNat (ep : Int)) >>= _) _ _ s
  simp only [Int.toNat_natCast]
  refine wpAny_bind (hx _ _ ?_)
  show wpAny _ _ (setField (.ref I) 2 .none >>= _) _ _ s
  refine wpAny_bind (wpAny_setField hoi hdi (by simp) ?_)
  refine stop_raise hh fun h' e k ⟨o2, q1, q2⟩ => ⟨e, o2, rfl, q1, q2, hQ h' fun b o hb q => k b o ((Heap.get?_update_other _ _ (Ne.symm hb)).trans q)⟩
theorem tup_item {I D T : Addr} {i n ep p : Nat} {o ot : Obj} {c : Nat} {ps : Array Value} {es : Array (Int × Value)} {t : SetTable} {x : Int × Value} {u : Tok} {Q : Option Value → Shared → Prop} (hit : SIt s.heap I (.ref T) i D n ep) (hD : s.heap.get? D = some o) (hd : o.data = .set es ep t) (hf : t.fits es.size = true) (hn : es.size = n)
    (hT : s.heap.get? T = some ot) (hTd : ot.data = .seq ps c) (hp : ps[i]? = some (.int p u)) (hx : es[p]? = some x)
    (hQ : ∀ h', SIt h' I (.ref T) (i + 1) D n ep → Heap.SameBut I s.heap h' → Q (some x.2) { s with heap := h' }) : wpAny (model prog w) A (pyNext (.ref I)) Q E s := by
  obtain ⟨oi, hoi, hci, hdi⟩ := id hit
  refine next_of hit ?_
  unfold Builtin.«set_iterator.__next__»
  refine wpAny_bind (wpAny_pure (wpAny_bind (wpAny_fieldsOf hoi hdi ?_)))
  show wpAny _ _ (setEntries D >>= _) _ _ s
  refine wpAny_bind (wpAny_setEntries_of hD hd hf ?_)
  rw [if_neg (by rw [hn]; simp)]
  show wpAny _ _ (seqItems? (.ref T) >>= _) _ _ s
  refine wpAny_bind (wpAny_seqItems hT hTd ?_)
  show wpAny _ _ (match ps[Int.toNat (i : Int)]? with | some (.int place _) => _ | some _ => _ | none => _) _ _ s
  rw [Int.toNat_natCast, hp]
  show wpAny _ _ (setNextDrawn D (Int.toNat (p : Int)) (Int.toNat (ep : Int)) >>= _) _ _ s
  simp only [Int.toNat_natCast]
  unfold setNextDrawn
  refine wpAny_bind (wpAny_bind (wpAny_setState_of hD hd hf ?_))
  dsimp only
  rw [if_neg (by simp)]
  rw [hx]
  refine wpAny_pure ?_
  show wpAny _ _ (setField (.ref I) 1 (rawInt ((i : Int) + 1)) >>= _) _ _ _
  refine wpAny_bind (wpAny_setField hoi hdi (by simp) ?_)
  refine wpAny_pure ⟨_, rfl, hQ _ ⟨_, same2 hoi hdi 1 _, ?_, ?_⟩ (Heap.SameBut.update ..)⟩
  · exact (Obj.cls_mapFields ..).trans hci
  · rw [Obj.data_mapFields hdi]; rfl
theorem tup_end {I D T : Addr} {i n ep : Nat} {o ot : Obj} {c : Nat} {ps : Array Value} {es : Array (Int × Value)} {t : SetTable} {Q : Option Value → Shared → Prop} (hh : A.handled = none) (hit : SIt s.heap I (.ref T) i D n ep) (hD : s.heap.get? D = some o) (hd : o.data = .set es ep t) (hf : t.fits es.size = true) (hn : es.size = n)
    (hT : s.heap.get? T = some ot) (hTd : ot.data = .seq ps c) (hp : ps[i]? = none)
    (hQ : ∀ h', (∀ b o, b ≠ I → s.heap.get? b = some o → h'.get? b = some o) → Q none { s with heap := h' }) : wpAny (model prog w) A (pyNext (.ref I)) Q E s := by
  obtain ⟨oi, hoi, hci, hdi⟩ := id hit
  refine next_of hit ?_
  unfold Builtin.«set_iterator.__next__»
  refine wpAny_bind (wpAny_pure (wpAny_bind (wpAny_fieldsOf hoi hdi ?_)))
  show wpAny _ _ (setEntries D >>= _) _ _ s
  refine wpAny_bind (wpAny_setEntries_of hD hd hf ?_)
  rw [if_neg (by rw [hn]; simp)]
  show wpAny _ _ (seqItems? (.ref T) >>= _) _ _ s
  refine wpAny_bind (wpAny_seqItems hT hTd ?_)
  show wpAny _ _ (match ps[Int.toNat (i : Int)]? with | some (.int place _) => _ | some _ => _ | none => _) _ _ s
  rw [Int.toNat_natCast, hp]
  show wpAny _ _ (setField (.ref I) 0 (rawInt 0) >>= _) _ _ s
  refine wpAny_bind (wpAny_setField hoi hdi (by simp) ?_)
  have e1 := same2 hoi hdi 0 (rawInt 0)
  have d1 : (Obj.mapFields (·.setIfInBounds 0 (rawInt 0)) oi).data = .fields #[rawInt 0, rawInt i, .ref D, rawInt n, rawInt ep] := by rw [Obj.data_mapFields hdi]; rfl
  show wpAny _ _ (setField (.ref I) 2 .none >>= _) _ _ _
  refine wpAny_bind (wpAny_setField e1 d1 (by simp) ?_)
  refine stop_raise hh fun h' e k ⟨o2, q1, q2⟩ => ⟨e, o2, rfl, q1, q2, hQ h' fun b o hb q => k b o ((Heap.get?_update_other _ _ (Ne.symm hb)).trans ((Heap.get?_update_other _ _ (Ne.symm hb)).trans q))⟩
end
end SW
set_option linter.all false
set_option Elab.async false
set_option maxRecDepth 100000
set_option maxHeartbeats 4000000
namespace SW
open PySem PySem.Spec PyProof.Rows
theorem pick_go {α : Type} (f : Nat → Nat) : ∀ (n k : Nat) (l : List α) (out : Array α), l.length = n → (pickOrder.go f n k l out).toList.Perm (out.toList ++ l) := by
  intro n
  induction n with
  | zero =>
    intro k l out hl
    have : l = [] := List.length_eq_zero_iff.mp hl
    subst this
    unfold pickOrder.go
    simp
  | succ n ih =>
    intro k l out hl
    unfold pickOrder.go
    have hi : f k % l.length < l.length := Nat.mod_lt _ (by omega)
    rw [List.getElem?_eq_getElem hi]
    dsimp only
    refine (ih _ _ _ (by rw [List.length_eraseIdx_of_lt hi]; omega)).trans ?_
    rw [Array.toList_push, List.append_assoc]
    exact (pick_perm hi).append_left _
theorem pick_ok {α : Type} (f : Nat → Nat) (xs : Array α) : (pickOrder f xs).toList.Perm xs.toList := by
  unfold pickOrder
  simpa using pick_go f xs.size 0 xs.toList #[] (by simp)
theorem ints_vals {es : List (Int × Value)} (h : ∀ e ∈ es, ∃ n tk, e = (hashInt n, Value.int n tk)) : IntsAre (es.map (·.2)) (es.map fun e => vN e.2) := by
  induction es with
  | nil => exact .nil
  | cons e es ih =>
    obtain ⟨n, tk, rfl⟩ := h e (.head _)
    exact .cons n tk (ih fun x hx => h x (.tail _ hx))
section
variable {prog : Program} {w : World} {A : Around} {E : Value → Shared → Prop} {s : Shared}
theorem self_is {I D : Addr} {f : Value} {i n ep : Nat} {Q : Value → Shared → Prop} (hit : SIt s.heap I f i D n ep) (h : Q (.ref I) s) : wpAny (model prog w) A (pyIter (.ref I)) Q E s := by
  refine wpAny_pyIter_slot hit.ty slot_iter (wpAny_call_entry slot_iter hit.ty entry_iter (?_ : wpAny _ _ (ret (.ref I)) _ _ s) (args_iter _))
  exact wpAny_pure ⟨_, rfl, "set_iterator", _, hit.ty, slot_next.lookup, h⟩
theorem by_ok {Q : Bool → Shared → Prop} (h : Q (byT w) s) : wpAny (model prog w) A setsByText Q E s := by
  unfold setsByText
  exact wpAny_bind (wpAny_askSetting (wpAny_pure h))
theorem walk_text {D : Addr} {o : Obj} {es : Array (Int × Value)} {ep : Nat} {t : SetTable} (hd : o.data = .set es ep t) (hf : t.fits es.size = true) (hb : byT w = true) (hh : A.handled = none) (I : Addr) (hne : D ≠ I) :
    Walks prog w A I [I, D] [I] es.size (fun i v => ((pickOrder (w.params.setOrder D ep) es).toList.map (·.2))[i]? = some v) (fun i h => SIt h I (rawInt 0) i D es.size ep ∧ h.get? D = some o) where
  sub := fun b hb => by simp at hb; simp [hb]
  frame := fun _ _ _ st hk => ⟨st.1.at fun o e => hk I (by simp) o e, hk D (by simp) _ st.2⟩
  item := fun i s Q E hi st hQ => by
    have hz : (pickOrder (w.params.setOrder D ep) es).size = es.size := by have := (pick_ok (w.params.setOrder D ep) es).length_eq; simpa using this
    have hx : (pickOrder (w.params.setOrder D ep) es)[i]? = some ((pickOrder (w.params.setOrder D ep) es)[i]'(by omega)) := by simp [hz, hi]
    refine int_item (nx := 0) (x := ((pickOrder (w.params.setOrder D ep) es)[i]'(by omega)).2) st.1 st.2 hd hf rfl (fun E' Q' q => ?_) fun h' hit' sb => hQ _ h' s.toks (by simp [hz, hi]) ⟨hit', sb.extBut _ _ hne st.2⟩ fun b o hb e => sb.extBut b o (fun h => hb (by simp [h])) e
    unfold setNext
    refine wpAny_bind (wpAny_setState_of st.2 hd hf ?_)
    dsimp only
    refine wpAny_bind (by_ok ?_)
    rw [if_pos hb, if_neg (by simp)]
    unfold setWalk
    refine wpAny_bind (wpAny_bind (wpAny_setState_of st.2 hd hf ?_))
    dsimp only
    refine wpAny_bind (by_ok ?_)
    rw [if_pos hb]
    refine wpAny_bind (wpAny_askSetting (wpAny_pure (wpAny_pure ?_)))
    show Q' (Option.map _ (pickOrder (w.params.setOrder D ep) es)[i]?) _
    rw [hx]; exact q
  done := fun s Q E st hQ => by
    have hz : (pickOrder (w.params.setOrder D ep) es).size = es.size := by have := (pick_ok (w.params.setOrder D ep) es).length_eq; simpa using this
    refine int_end hh st.1 st.2 hd hf rfl (fun E' Q' q => ?_) fun h' k => hQ h' s.toks fun b o hb e => k b o (fun h => hb (by simp [h])) e
    unfold setNext
    refine wpAny_bind (wpAny_setState_of st.2 hd hf ?_)
    dsimp only
    refine wpAny_bind (by_ok ?_)
    rw [if_pos hb, if_neg (by simp)]
    unfold setWalk
    refine wpAny_bind (wpAny_bind (wpAny_setState_of st.2 hd hf ?_))
    dsimp only
    refine wpAny_bind (by_ok ?_)
    rw [if_pos hb]
    refine wpAny_bind (wpAny_askSetting (wpAny_pure (wpAny_pure ?_)))
    show Q' (Option.map _ (pickOrder (w.params.setOrder D ep) es)[es.size]?) _
    rw [Array.getElem?_eq_none (by omega)]; exact q
  self := fun _ _ _ _ st hQ => self_is st.1 hQ
theorem slot_lem {t : SetTable} {n i sl : Nat} (hok : Ok t) (hz : t.place.size = n) (hi : i < n) (hs : SetTable.below t.place sl = i) : ∃ j, t.place[i]? = some j ∧ SetTable.below t.place (j + 1) = i + 1 := by
  subst hz
  refine ⟨t.place[i], by simp [hi], ?_⟩
  obtain ⟨b1, b2, b3⟩ := bel (t.place[i] + 1) hok.r
  rcases Nat.lt_trichotomy (SetTable.below t.place (t.place[i] + 1)) (i + 1) with c | c | c
  · have := b3 i hi (by omega); omega
  · exact c
  · have h1 := b2 (i + 1) (by omega) c
    have := rise_at hok.r (by omega : i < i + 1) (by omega : i + 1 < t.place.size)
    omega
theorem walk_slots {D : Addr} {o : Obj} {es : Array (Int × Value)} {ep : Nat} {t : SetTable} (hd : o.data = .set es ep t) (hf : t.fits es.size = true) (hok : Ok t) (hb : byT w = false) (hl : t.led = true) (hp : (!t.plain && decide (es.size > 1)) = false) (hh : A.handled = none) (I : Addr) (hne : D ≠ I) :
    Walks prog w A I [I, D] [I] es.size (fun i v => (es.toList.map (·.2))[i]? = some v) (fun i h => (∃ sl : Nat, SIt h I (rawInt sl) i D es.size ep ∧ SetTable.below t.place sl = i) ∧ h.get? D = some o) where
  sub := fun b hb => by simp at hb; simp [hb]
  frame := fun _ _ _ ⟨⟨sl, st, e1⟩, e2⟩ hk => ⟨⟨sl, st.at fun o e => hk I (by simp) o e, e1⟩, hk D (by simp) _ e2⟩
  item := fun i s Q E hi ⟨⟨sl, st, e1⟩, e2⟩ hQ => by
    have hz : t.place.size = es.size := by
      unfold SetTable.fits at hf
      simp only [Bool.and_eq_true, beq_iff_eq] at hf
      exact hf.1
    obtain ⟨j, z1, z2⟩ := slot_lem hok hz hi e1
    refine int_item (nx := j + 1) (x := (es[i]).2) st e2 hd hf rfl (fun E' Q' q => ?_) fun h' hit' sb => hQ _ h' s.toks (by simp [hi]) ⟨⟨_, hit', z2⟩, sb.extBut _ _ hne e2⟩ fun b o hb e => sb.extBut b o (fun h => hb (by simp [h])) e
    unfold setNext
    refine wpAny_bind (wpAny_setState_of e2 hd hf ?_)
    dsimp only
    refine wpAny_bind (by_ok ?_)
    rw [if_neg (by rw [hb]; simp)]
    split
    · rename_i hc
      exact absurd (show (!t.plain && decide (es.size > 1)) = true from hc) (by rw [hp]; simp)
    · show wpAny _ _ ((if (!t.led && !es.isEmpty) = true then _ else _) >>= _) _ _ _
      rw [if_neg (by rw [hl]; simp)]
      refine wpAny_bind (wpAny_pure (wpAny_pure ?_))
      rw [e1, z1, Array.getElem?_eq_getElem hi]
      exact q
  done := fun s Q E ⟨⟨sl, st, e1⟩, e2⟩ hQ => by
    refine int_end hh st e2 hd hf rfl (fun E' Q' q => ?_) fun h' k => hQ h' s.toks fun b o hb e => k b o (fun h => hb (by simp [h])) e
    unfold setNext
    refine wpAny_bind (wpAny_setState_of e2 hd hf ?_)
    dsimp only
    refine wpAny_bind (by_ok ?_)
    rw [if_neg (by rw [hb]; simp)]
    split
    · rename_i hc
      exact absurd (show (!t.plain && decide (es.size > 1)) = true from hc) (by rw [hp]; simp)
    · show wpAny _ _ ((if (!t.led && !es.isEmpty) = true then _ else _) >>= _) _ _ _
      rw [if_neg (by rw [hl]; simp)]
      refine wpAny_bind (wpAny_pure (wpAny_pure ?_))
      rw [e1, Array.getElem?_eq_none (Nat.le_refl _)]
      exact q
  self := fun _ _ _ _ ⟨⟨sl, st, e1⟩, e2⟩ hQ => self_is st hQ
theorem walk_drawn {D T : Addr} {o ot : Obj} {es : Array (Int × Value)} {ep c : Nat} {t : SetTable} {ys : List Nat} (hd : o.data = .set es ep t) (hf : t.fits es.size = true) (hTd : ot.data = .seq (ys.map fun (i : Nat) => rawInt i).toArray c) (hy : ys.Perm (List.range es.size)) (hh : A.handled = none) (I : Addr) (hne : D ≠ I) (hnT : T ≠ I) :
    Walks prog w A I [I, D, T] [I] es.size (fun i v => (ys.map fun p => (es.toList.map (·.2)).getD p .none)[i]? = some v) (fun i h => SIt h I (.ref T) i D es.size ep ∧ h.get? D = some o ∧ h.get? T = some ot) where
  sub := fun b hb => by simp at hb; simp [hb]
  frame := fun _ _ _ st hk => ⟨st.1.at fun o e => hk I (by simp) o e, hk D (by simp) _ st.2.1, hk T (by simp) _ st.2.2⟩
  item := fun i s Q E hi st hQ => by
    have hz : ys.length = es.size := by simpa using hy.length_eq
    have hp : ys[i]'(by omega) < es.size := by
      have := hy.mem_iff.mp (List.getElem_mem (by omega : i < ys.length))
      simpa using this
    refine tup_item (p := ys[i]'(by omega)) (x := es[ys[i]'(by omega)]'hp) (u := 0) st.1 st.2.1 hd hf rfl st.2.2 hTd (by simp [hz, hi, rawInt]) (by simp [hp]) fun h' hit' sb => hQ _ h' s.toks ?_ ⟨hit', sb.extBut _ _ hne st.2.1, sb.extBut _ _ hnT st.2.2⟩ fun b o hb e => sb.extBut b o (fun h => hb (by simp [h])) e
    simp [hz, hi, hp]
  done := fun s Q E st hQ => by
    have hz : ys.length = es.size := by simpa using hy.length_eq
    exact tup_end hh st.1 st.2.1 hd hf rfl st.2.2 hTd (by simp [hz]) fun h' k => hQ h' s.toks fun b o hb e => k b o (fun h => hb (by simp [h])) e
  self := fun _ _ _ _ st hQ => self_is st.1 hQ
end
theorem ints_getD {us : List Value} {ns : List Int} (h : IntsAre us ns) : ∀ (ys : List Nat), (∀ y ∈ ys, y < us.length) → IntsAre (ys.map fun p => us.getD p .none) (ys.map fun p => ns.getD p 0)
  | [], _ => .nil
  | y :: ys, hy => by
    have hlt := hy y (.head _)
    obtain ⟨t, ht⟩ := PyProof.Rows.IntsAre.int_at h y (us[y]) (by simp [hlt])
    have e : us.getD y .none = .int (ns.getD y 0) t := by rw [List.getD_eq_getElem?_getD, List.getElem?_eq_getElem hlt]; exact ht
    rw [List.map_cons, List.map_cons, e]
    exact .cons _ t (ints_getD h ys fun z hz => hy z (.tail _ hz))
theorem range_getD (ns : List Int) : (List.range ns.length).map (fun p => ns.getD p 0) = ns := by
  apply List.ext_getElem
  · simp
  · intro i h1 h2
    simp at h1
    simp [h1]
section
variable {prog : Program} {w : World} {A : Around} {E : Value → Shared → Prop} {s : Shared}
theorem iter_is {D : Addr} {o : Obj} {ns : List Int} {Q : Value → Shared → Prop} (ho : s.heap.get? D = some o) (hs : SetIs w o ns) (hz : ns.length < scanBound)
    (h : ∀ (I : Addr) (s1 : Shared) (fp : List Addr) (ord : List Value) (St : Nat → Heap → Prop) (ms : List Int) (n : Nat), n = ns.length → (∀ b o, s.heap.get? b = some o → s1.heap.get? b = some o) → s1.os = s.os → s1.gens = s.gens → (∀ b ∈ fp, b = D ∨ s.heap.objs.size ≤ b) → (∀ b ∈ fp, b < s1.heap.objs.size) →
      (∀ A' : Around, A'.handled = none → Walks prog w A' I fp [I] n (fun i v => ord[i]? = some v) St) → St 0 s1.heap → IntsAre ord ms → ms.Perm ns → s.heap.objs.size ≤ I → Q (.ref I) s1) :
    wpAny (model prog w) A (pyIter (.ref D)) Q E s := by
  obtain ⟨hex, hnd, es, ep, t, hd, hel, hp, hf, hok, hl⟩ := id hs
  have hT : s.TypeIs (.ref D) "set" := ⟨o, ho, hex.1⟩
  have hn : es.size = ns.length := by simpa using hp.length_eq
  have hDlt := Heap.lt_size ho
  refine wpAny_pyIter_slot hT F.slot_set_iter (wpAny_call_entry F.slot_set_iter hT entry_siter ?_ (F.args_set_iter_1 _))
  unfold Builtin.«frozenset.__iter__» Builtin.Frozenset.slot0 Builtin.Frozenset.sizeOf
  refine wpAny_bind (wpAny_bind (wpAny_pure ?_))
  refine wpAny_pure (wpAny_bind (wpAny_bind (wpAny_setEntries_of ho hd hf (wpAny_pure ?_))))
  unfold setDrawn
  refine wpAny_bind (wpAny_bind (wpAny_setState_of ho hd hf ?_))
  dsimp only
  refine wpAny_bind (by_ok (wpAny_pure ?_))
  split
  · rename_i hc
    have hc' : (!byT w && (!t.plain && decide (es.size > 1))) = true := hc
    refine wpAny_bind (draw_ok es.size (List.range es.size) s _ (by simp) fun ys d hy => ?_)
    have hyz : ys.length = es.size := by simpa using hy.length_eq
    have hb : byT w = false := by cases hq : byT w <;> simp [hq] at hc' ⊢
    refine wpAny_bind (wpAny_newTuple ?_ (by rw [List.length_map, hyz, hn]; exact fits_of_scanBound hz))
    refine wpAny_bind (wpAny_setEpoch_of (Heap.get?_push_of_some _ ho) hd hf (wpAny_bind (wpAny_newObj_type (wpAny_pure ⟨_, rfl, "set_iterator", _, ⟨_, Heap.get?_push_size _ rfl, rfl⟩, slot_next.lookup, ?_⟩))))
    refine h _ _ [(s.heap.push _).objs.size, D, s.heap.objs.size] (ys.map fun p => (es.toList.map (·.2)).getD p .none) _ (ys.map fun p => (es.toList.map fun e => vN e.2).getD p 0) _ hn (fun b o q => Heap.get?_push_of_some _ (Heap.get?_push_of_some _ q)) rfl rfl ?_ ?_ (fun A' hh => walk_drawn hd hf (T := s.heap.objs.size) rfl hy hh _ (by rw [Heap.size_push]; exact Nat.ne_of_lt (Nat.lt_succ_of_lt hDlt)) (by rw [Heap.size_push]; exact Nat.ne_of_lt (Nat.lt_succ_self _))) ⟨⟨_, Heap.get?_push_size _ rfl, rfl, rfl⟩, Heap.get?_push_of_some _ (Heap.get?_push_of_some _ ho), Heap.get?_push_of_some _ (Heap.get?_push_size _ rfl)⟩ (ints_getD (ints_vals hel) ys fun y hy' => ?_) ?_ (by rw [Heap.size_push]; exact Nat.le_succ _)
    · intro b hb
      rcases List.mem_cons.mp hb with rfl | hb
      · exact .inr (by rw [Heap.size_push]; exact Nat.le_succ _)
      · rcases List.mem_cons.mp hb with rfl | hb
        · exact .inl rfl
        · exact .inr (Nat.le_of_eq (List.mem_singleton.mp hb).symm)
    · intro b hb
      show b < ((s.heap.push _).push _).objs.size
      rw [Heap.size_push, Heap.size_push]
      rcases List.mem_cons.mp hb with rfl | hb
      · rw [Heap.size_push]; exact Nat.lt_succ_self _
      · rcases List.mem_cons.mp hb with rfl | hb
        · exact Nat.lt_succ_of_lt (Nat.lt_succ_of_lt hDlt)
        · rw [List.mem_singleton.mp hb]; exact Nat.lt_succ_of_lt (Nat.lt_succ_self _)
    · have := hy.mem_iff.mp hy'
      simpa using this
    · have e := range_getD (es.toList.map fun e => vN e.2)
      have e2 : (es.toList.map fun e => vN e.2).length = es.size := by simp
      rw [e2] at e
      exact ((hy.map _).trans (List.Perm.of_eq e)).trans hp
  · rename_i hc
    have hc' : ¬ (!byT w && (!t.plain && decide (es.size > 1))) = true := hc
    refine wpAny_bind (wpAny_pure (wpAny_bind (wpAny_setEpoch_of ho hd hf (wpAny_bind (wpAny_newObj_type (wpAny_pure ⟨_, rfl, "set_iterator", _, ⟨_, Heap.get?_push_size _ rfl, rfl⟩, slot_next.lookup, ?_⟩))))))
    have hit : SIt (s.heap.push { cls := .type "set_iterator", data := .fields #[rawInt 0, rawInt 0, .ref D, rawInt es.size, rawInt ep] }) s.heap.objs.size (rawInt 0) 0 D es.size ep := ⟨_, Heap.get?_push_size _ rfl, rfl, rfl⟩
    have hne : D ≠ s.heap.objs.size := Nat.ne_of_lt hDlt
    cases hb : byT w with
    | true =>
      refine h _ _ [s.heap.objs.size, D] _ _ ((pickOrder (w.params.setOrder D ep) es).toList.map fun e => vN e.2) _ hn (fun b o q => Heap.get?_push_of_some _ q) rfl rfl ?_ ?_ (fun A' hh => walk_text hd hf hb hh _ hne) ⟨hit, Heap.get?_push_of_some _ ho⟩ (ints_vals fun e he => hel e ((pick_ok _ es).mem_iff.mp he)) (((pick_ok _ es).map _).trans hp) (Nat.le_refl _)
      · intro b hb
        rcases List.mem_cons.mp hb with rfl | hb
        · exact .inr (Nat.le_refl _)
        · exact .inl (List.mem_singleton.mp hb)
      · intro b hb
        show b < (s.heap.push _).objs.size
        rw [Heap.size_push]
        rcases List.mem_cons.mp hb with rfl | hb
        · exact Nat.lt_succ_self _
        · rw [List.mem_singleton.mp hb]; exact Nat.lt_succ_of_lt hDlt
    | false =>
      have hpl : (!t.plain && decide (es.size > 1)) = false := by
        rw [hb] at hc'; simpa using hc'
      refine h _ _ [s.heap.objs.size, D] _ _ (es.toList.map fun e => vN e.2) _ hn (fun b o q => Heap.get?_push_of_some _ q) rfl rfl ?_ ?_ (fun A' hh => walk_slots hd hf hok hb (by rw [hl, hb]; rfl) hpl hh _ hne) ⟨⟨0, hit, ?_⟩, Heap.get?_push_of_some _ ho⟩ (ints_vals hel) hp (Nat.le_refl _)
      · intro b hb
        rcases List.mem_cons.mp hb with rfl | hb
        · exact .inr (Nat.le_refl _)
        · exact .inl (List.mem_singleton.mp hb)
      · intro b hb
        show b < (s.heap.push _).objs.size
        rw [Heap.size_push]
        rcases List.mem_cons.mp hb with rfl | hb
        · exact Nat.lt_succ_self _
        · rw [List.mem_singleton.mp hb]; exact Nat.lt_succ_of_lt hDlt
      · obtain ⟨b1, b2, b3⟩ := bel 0 hok.r
        rcases Nat.eq_zero_or_pos (SetTable.below t.place 0) with c | c
        · exact c
        · exact absurd (b2 0 (by omega) c) (Nat.not_lt_zero _)
theorem set_hint {D : Addr} {Q : Bool → Shared → Prop} (hT : s.TypeIs (.ref D) "set") (h : Q false s) : wpAny (model prog w) A (Builtin.List.listLengthHint (.ref D)) Q E s := by
  unfold Builtin.List.listLengthHint
  refine wpAny_bind (wpAny_specialOf hT PySem.F.slot_set_len.lookup ?_)
  generalize hid : ("set.__len__" : String) = id0
  wp_delta
  rw [show splitId id0 = some ("set", "__len__") from by subst hid; decide +kernel]
  subst hid
  refine wpAny_bind (wpAny_isInstance (T := "set") (b := true) hT (by rw [isSubtype_type]; kernel_rfl) ?_)
  refine wpAny_ite_split (fun hab => absurd hab (by decide)) (fun _ => ?_)
  refine wpAny_ite_split (fun _ => wpAny_bind (wpAny_typeOf hT (wpAny_pure h))) (fun hab => absurd (by decide +kernel) hab)
theorem collect_is {D : Addr} {o : Obj} {ns : List Int} {Q : List Value → Shared → Prop} (hh : A.handled = none) (ho : s.heap.get? D = some o) (hs : SetIs w o ns) (hz : ns.length < scanBound)
    (h : ∀ (s1 : Shared) (vs : List Value) (ms : List Int), (∀ b o, s.heap.get? b = some o → s1.heap.get? b = some o) → s1.os = s.os → s1.gens = s.gens → s.heap.objs.size ≤ s1.heap.objs.size → IntsAre vs ms → ms.Perm ns → Q vs s1) :
    wpAny (model prog w) A (collect (.ref D)) Q E s := by
  have hDlt := Heap.lt_size ho
  have hT : s.TypeIs (.ref D) "set" := ⟨o, ho, hs.1.1⟩
  unfold collect
  refine wpAny_bind (wpAny_runValue (codeAny_builtin F.entry_proto_collect ?_))
  rw [Around.under_plainId F.plain_proto_collect _]
  refine (?_ : wpAny _ A.in1 (newList [] >>= fun l => again (.builtin "list.__iadd__" ⟨[l, .ref D], []⟩)) _ _ s)
  refine wpAny_bind (wpAny_newObj_type (wpAny_pure ⟨plainId_quiet F.plain_list_iadd _, codeAny_builtin F.entry_list_iadd ?_⟩))
  rw [Around.under_plainId F.plain_list_iadd _]
  have hS : (s.heap.push { cls := .type "list", data := .seq ([] : List Value).toArray }).get? s.heap.objs.size = some { cls := .type "list", data := .seq ([] : List Value).toArray } := Heap.get?_push_size _ rfl
  generalize hH : s.heap.push { cls := .type "list", data := .seq ([] : List Value).toArray } = H at hS ⊢
  have kH : ∀ b o, s.heap.get? b = some o → H.get? b = some o := fun b o q => by rw [← hH]; exact Heap.get?_push_of_some _ q
  have zH : H.objs.size = s.heap.objs.size + 1 := by rw [← hH, Heap.size_push]
  have ne : s.heap.objs.size ≠ D := Nat.ne_of_gt hDlt
  have h1 : Builtin.List.listSameRef (.ref s.heap.objs.size) (.ref D) = false := by simp [Builtin.List.listSameRef, ne]
  refine (?_ : wpAny _ A.in1 (Builtin.List.listExtendWith (.ref s.heap.objs.size) (.ref D) (.ref s.heap.objs.size)) _ _ _)
  unfold Builtin.List.listExtendWith
  refine wpAny_bind (wpAny_typeOf (T := "set") ⟨o, kH _ _ ho, hs.1.1⟩ ?_)
  rw [if_neg (by rw [h1]; decide)]
  refine wpAny_bind (iter_is (s := { s with heap := H }) (kH _ _ ho) hs hz fun I s1 fp ord St ms n hn k1 k2 k3 k4 k5 W st hi hp hI => ?_)
  refine wpAny_bind (wpAny_holding (set_hint ⟨o, k1 _ _ (kH _ _ ho), hs.1.1⟩ ?_))
  have hSf : s.heap.objs.size ∉ fp := fun q => by
    rcases k4 _ q with e | e
    · exact ne e
    · rw [show ({ s with heap := H } : Shared).heap.objs.size = s.heap.objs.size + 1 from zH] at e
      exact absurd e (Nat.not_succ_le_self _)
  have fin : ∀ s2 : Shared, St 0 s2.heap → (∀ b o, b ≠ s.heap.objs.size → s1.heap.get? b = some o → s2.heap.get? b = some o) → s2.os = s1.os → s2.gens = s1.gens → (∃ c, s2.heap.get? s.heap.objs.size = some { cls := .type "list", dict := none, data := .seq #[] c, slots := #[] }) →
      codeAny (model prog w) A (.builtin "list.extend.loop" ⟨[.ref s.heap.objs.size, .ref I, .ref s.heap.objs.size], []⟩) (fun r s' => ∃ v, r = .ok (.ret v) ∧ wpAny (model prog w) A (match v with | .ref a => (do match (← load a).data with | .seq xs _ => pure xs.toList | _ => unsupported "internal:collect") | _ => unsupported "internal:collect") Q E s') s2 := by
    intro s2 st2 kk ko kg ⟨c, hc⟩
    refine codeAny_extend_loopS (W A.in1 hh).toS (by rw [hn]; exact fits_of_scanBound hz) _ hSf _ n 0 s2 #[] c rfl (Nat.zero_le _) st2 hc (ItemsOf.nil _) fun s3 acc c' hm hS3 hacc => ⟨_, rfl, ?_⟩
    refine wpAny_bind (wpAny_load hS3 (wpAny_pure ?_))
    have e : acc.toList = ord := by
      have hl : ord.length = n := by rw [hn]; exact (IntsAre.length hi).trans hp.length_eq
      apply List.ext_getElem
      · rw [Array.length_toList, hacc.1, hl]
      · intro i z1 z2
        have this : ord[i]? = some acc[i] := hacc.2 i acc[i] (by simp)
        rw [List.getElem?_eq_getElem z2] at this
        injection this with this
        rw [Array.getElem_toList]; exact this.symm
    rw [e]
    refine h s3 ord ms (fun b o q => ?_) (by rw [hm.os, ko, k2]) (by rw [hm.gens, kg, k3]) ?_ hi hp
    · have hb := Heap.lt_size q
      refine hm.heap b o (fun z => ?_) (kk b o (Nat.ne_of_lt hb) (k1 b o (kH b o q)))
      rcases List.mem_cons.mp z with e | z
      · exact Nat.ne_of_lt hb e
      · rw [List.mem_singleton.mp z] at hb
        exact absurd (Nat.lt_of_lt_of_le hb (Nat.le_trans (by rw [show ({ s with heap := H } : Shared).heap.objs.size = s.heap.objs.size + 1 from zH]; exact Nat.le_succ _) hI)) (Nat.lt_irrefl _)
    · exact Nat.le_of_lt (Heap.lt_size hS3)
  have hS1 : s1.heap.get? s.heap.objs.size = some { cls := .type "list", data := .seq ([] : List Value).toArray } := k1 _ _ hS
  refine wpAny_ite_split (fun _ => ?_) (fun _ => wpAny_pure ⟨plainId_quiet PySem.F.plain_extend_loop _, ?_⟩)
  · refine wpAny_bind (wpAny_rule (wpAny_bind (?_ : wpAny _ _ (updateSeq s.heap.objs.size (·.push .none) >>= fun _ => updateSeq s.heap.objs.size (·.pop)) _ _ _)))
    refine wpAny_bind (wpAny_updateSeq hS1 rfl ?_)
    have hS2 := Heap.get?_update_self (Obj.mapSeq (·.push Value.none)) hS1 rfl
    refine wpAny_updateSeq (hz := by seq_fits) hS2 rfl ?_
    have hS3 := Heap.get?_update_self (Obj.mapSeq (·.pop)) hS2 rfl
    have oth : ∀ b o, b ≠ s.heap.objs.size → s1.heap.get? b = some o → ((s1.heap.update s.heap.objs.size (Obj.mapSeq (·.push Value.none))).update s.heap.objs.size (Obj.mapSeq (·.pop))).get? b = some o :=
      fun b o hb e => (Heap.get?_update_other _ _ (Ne.symm hb)).trans ((Heap.get?_update_other _ _ (Ne.symm hb)).trans e)
    refine wpAny_pure ⟨plainId_quiet PySem.F.plain_extend_loop _, codeAny_mono (fin _ ((W A hh).frame 0 _ _ st fun b hb o e => oth b o (fun z => hSf (z ▸ hb)) e) oth rfl rfl ⟨_, hS3⟩) fun r s' hr => ?_⟩
    obtain ⟨v, rfl, hv⟩ := hr
    exact hv
  · refine codeAny_mono (fin s1 st (fun b o _ q => q) rfl rfl ⟨_, hS1⟩) fun r s' hr => ?_
    obtain ⟨v, rfl, hv⟩ := hr
    exact hv
theorem sorted_is {D : Addr} {o : Obj} {ns : List Int} {Q : Value → Shared → Prop} (hh : A.handled = none) (ho : s.heap.get? D = some o) (hs : SetIs w o ns) (hz : ns.length ≤ 1000)
    (h : ∀ (s1 : Shared) (l : Addr) (out : List Value) (c : Nat) (ms : List Int), (∀ b o, s.heap.get? b = some o → s1.heap.get? b = some o) → s1.os = s.os → s1.gens = s.gens → s.heap.objs.size ≤ l → s1.heap.get? l = some (seqObj "list" out.toArray c) → IntsAre out ms → ms.Perm ns → ms.Pairwise (· ≤ ·) → Q (.ref l) s1) :
    wpAny (model prog w) A (call (.builtin "sorted") [.ref D]) Q E s := by
  refine Calls.call_function_entry kind_sorted plain_sorted entry_sorted (args_sorted1 _) ?_
  unfold Builtin.«sorted»
  refine wpAny_bind (m := checkCount "sorted" 1 1 _) (wpAny_pure ?_)
  refine wpAny_bind (collect_is (by exact hh) ho hs (by show _ < 4096; omega) fun s1 vs ms k1 k2 k3 k4 hi hp => ?_)
  have hl : vs.length ≤ 1000 := by rw [IntsAre.length hi, hp.length_eq]; exact hz
  refine wpAny_bind (wpAny_newList ?_ (by rw [sizeLine_eq]; omega))
  have hoL : (s1.heap.push (seqObj "list" vs.toArray 0)).get? s1.heap.objs.size = some (seqObj "list" vs.toArray 0) := Heap.get?_push_size _ rfl
  refine wpAny_bind (wpAny_holding (wpAny_call_entry (s := { s1 with heap := s1.heap.push (seqObj "list" vs.toArray 0) }) slot_list_sort ⟨_, hoL, rfl⟩ entry_list_sort (SB.sort_s hoL hi hl fun out ns' a1 a2 a3 => ⟨_, rfl, ?_⟩) (args_list_sort _)))
  refine wpAny_pure ⟨_, rfl, ?_⟩
  have g1 := Heap.get?_update_self (Obj.mapSeq fun _ => (#[] : Array Value)) hoL rfl
  have g2 := Heap.get?_push_of_some (seqObj "list" #[] 0) (Heap.get?_push_of_some (seqObj "tuple" vs.toArray 0) g1)
  have g3 := Heap.get?_update_self (Obj.mapSeq fun _ => out) g2 rfl
  refine h _ s1.heap.objs.size out.toList _ ns' (fun b o q => ?_) k2 k3 k4 (g3.trans (by rw [Array.toArray_toList]; rfl)) a1 (a2.trans hp) a3
  have hb := k1 b o q
  have ne : s1.heap.objs.size ≠ b := Nat.ne_of_gt (Heap.lt_size hb)
  exact (Heap.get?_update_other _ _ ne).trans (Heap.get?_push_of_some _ (Heap.get?_push_of_some _ ((Heap.get?_update_other _ _ ne).trans (Heap.get?_push_of_some _ hb))))
end
end SW
set_option linter.all false
set_option Elab.async false
set_option maxRecDepth 100000
set_option maxHeartbeats 4000000
namespace L2
open PySem PySem.Spec PyProof.Rows
section
variable {X : Cx}
theorem Inv.drew {pins : List (Addr × Obj)} {σ : St} {H : Hp} {s s1 : Shared} (I : Inv X pins σ H s) (h1 : s1.heap = s.heap) (h2 : s1.os = s.os) (h3 : s1.gens = s.gens) : Inv X pins σ H s1 := by
  obtain ⟨a, b, c, d, e, f, g, i, j, k, l⟩ := I
  refine ⟨a, h2.trans b, h3 ▸ c, h1 ▸ d, h1 ▸ e, h1 ▸ f, g, i, h1 ▸ j, h1 ▸ k, l⟩
@[irreducible] def hSetS (K : PySem.W.Frag) (a : Addr) (H : Hp) (Q : VK) : Prop := ∃ ns : List Int, SqL K H a (ns.map V.int) ∧ ns.length ≤ 1000 ∧ ∀ (l : Addr) (ms : List Int), H l = none → ms.Nodup → (∀ j, j ∈ ms ↔ j ∈ ns) → ms.Pairwise (· ≤ ·) → Q (.ref l) (upd H l (.lst (ms.map V.int)))
def tSetS (K : PySem.W.Frag) (ta : TA) : TE := fun σ H Q => ta σ H fun vs H1 => match vs with
  | [.ref a] => hSetS K a H1 Q
  | _ => False
theorem boot_set : bootBuiltins "set" = some (.type "set") := by decide +kernel
theorem boot_srt : bootBuiltins "sorted" = some (.builtin "sorted") := by decide +kernel
theorem sort_new {s s1 : Shared} {pins : List (Addr × Obj)} {σ : St} {H : Hp} {Q : VK} {D : Addr} {o : Obj} {ns : List Int} (hc : X.calm = true) (I : Inv X pins σ H s) (k1 : ∀ b o, s.heap.get? b = some o → s1.heap.get? b = some o) (k2 : s1.os = s.os) (k3 : s1.gens = s.gens) (hD : s.heap.objs.size ≤ D) (ho : s1.heap.get? D = some o) (hs : SW.SetIs X.w o ns) (hn : ns.length ≤ 1000)
    (q : ∀ (l : Addr) (ms : List Int), H l = none → ms.Nodup → (∀ j, j ∈ ms ↔ j ∈ ns) → ms.Pairwise (· ≤ ·) → Q (.ref l) (upd H l (.lst (ms.map V.int)))) :
    wpAny (model X.prog X.w) X.A (call (.builtin "sorted") [.ref D]) (EP X pins σ Q) X.xe s1 := by
  have hz : s.heap.objs.size ≤ s1.heap.objs.size := Nat.le_trans hD (Nat.le_of_lt (Heap.lt_size ho))
  refine SW.sorted_is (I.ok.hd hc) ho hs hn fun s2 l out c ms z1 z2 z3 z4 z5 z6 z7 z8 => ?_
  have hf : s.heap.objs.size ≤ l := Nat.le_trans hz z4
  refine ⟨.ref l, _, ?_, rfl, q l ms (I.hok.fresh hf) (z7.nodup_iff.mpr hs.2.1) (fun j => z7.mem_iff) z8⟩
  refine (I.laid (t' := s.toks) (h' := s2.heap) (fun b o e => z1 b o (k1 b o e)) hf (show ObjOk X.prog X.w _ _ _ (.lst _) from ⟨?_, out, c, vals_ints z6, z5⟩)).drew rfl (z2.trans k2) (z3.trans k3)
  rw [List.length_map, z7.length_eq, sizeLine_eq]; omega
theorem qe_setS {l : Expr} {ta : TA} {p p2 pos pos2 : Pos} (hc : X.calm = true) (hg : Gl X "sorted") (hm : X.mg "sorted" = none) (hg2 : Gl X "set") (hm2 : X.mg "set" = none) (ha : QA X [l] ta) :
    QE X (.Call (.Name "sorted" p) [.Call (.Name "set" p2) [l] [] pos2] [] pos) (tSetS X.K ta) := ⟨by
  intro pins s σ H Q I h
  have hp := ha.p
  have h1 : plainE l = true := by simpa using hp
  refine wpAny_Call_Name_kw (ld_blt I hg hm boot_srt ?_)
  refine PyProof.Rows.callWith_builtin1 ?_ rfl rfl
  show wpAny _ _ (spliced ((false, eval (.Call (.Name "set" p2) [l] [] pos2) X.env) :: [])) _ _ s
  refine Calls.spliced_cons ?_
  refine wpAny_Call_Name_kw (ld_blt I hg2 hm2 boot_set ?_)
  refine PyProof.Rows.callWith_type1 (thn (ha.h pos2 pins s σ H _ I h) fun us s1 ⟨vs, H1, I1, r1, q1⟩ => ?_) (star_plain h1) rfl
  dsimp only at q1
  split at q1
  · rename_i a
    unfold hSetS at q1
    obtain ⟨ns, hxs, hn, q⟩ := q1
    obtain ⟨u, rfl, ru⟩ := vals1 r1
    cases ru
    obtain ⟨its, rv, pl, hz⟩ := I1.list hxs
    have hi := intsAre_of rv
    have hl : its.length = ns.length := IntsAre.length hi
    refine SW.call_set (I1.ok.hd hc) pl.isList hi (by show _ < 4096; omega) fun h' tk o ms z1 z2 z3 z4 z5 => Calls.spliced_nil ?_
    exact sort_new hc I1 z5 rfl rfl (Nat.le_refl _) z1 z2 (by omega) fun l ms' y1 y2 y3 y4 => q l ms' y1 y2 (fun j => (y3 j).trans (z3 j)) y4
  · exact q1.elim⟩
theorem ke_setS {K : PySem.W.Frag} {l : Expr} {ta : TA} {p p2 pos pos2 : Pos} (hK : X.K = K) (hc : X.calm = true) (hg : Gl X "sorted") (hm : X.mg "sorted" = none) (hg2 : Gl X "set") (hm2 : X.mg "set" = none) (ha : QA X [l] ta) :
    QE X (.Call (.Name "sorted" p) [.Call (.Name "set" p2) [l] [] pos2] [] pos) (tSetS K ta) := hK ▸ qe_setS hc hg hm hg2 hm2 ha
theorem i_setS {K : PySem.W.Frag} {a : Addr} {H : Hp} {Q : VK} {ns : List Int} (hx : SqL K H a (ns.map V.int)) (hn : ns.length ≤ 1000) (q : ∀ (p : Addr) (H' : Hp) (ms : List Int), ms.Nodup → (∀ j, j ∈ ms ↔ j ∈ ns) → ms.Pairwise (· ≤ ·) → H p = none → Same H H' → H' p = some (.lst (ms.map V.int)) → Q (.ref p) H') : hSetS K a H Q := by
  unfold hSetS
  exact ⟨ns, hx, hn, fun l ms hl h1 h2 h3 => q l _ ms h1 h2 h3 hl (same_upd hl) upd_same⟩
end
end L2
namespace M3
def pcs (ns : List Int) : Nat → List Nat → List (List Int)
  | b, [] => [ns.drop b]
  | b, c :: cs => (ns.drop b).take (c - b) :: pcs ns c cs
theorem pcs_len (ns : List Int) : ∀ (cs : List Nat) (b : Nat), (pcs ns b cs).length = cs.length + 1
  | [], _ => rfl
  | c :: cs, b => by simp only [pcs, List.length_cons, pcs_len ns cs c]
theorem pcs_at (ns : List Int) : ∀ (cs : List Nat) (b i x y : Nat), (b :: cs)[i]? = some x → (cs ++ [ns.length])[i]? = some y → (pcs ns b cs)[i]? = some ((ns.drop x).take (y - x))
  | [], b, 0, x, y, h1, h2 => by
    simp only [List.getElem?_cons_zero, List.nil_append, Option.some.injEq] at h1 h2
    subst h1; subst h2
    simp only [pcs, List.getElem?_cons_zero]
    rw [List.take_of_length_le (by rw [List.length_drop]; exact Nat.le_refl _)]
  | [], b, i + 1, x, y, h1, h2 => by simp at h1
  | c :: cs, b, 0, x, y, h1, h2 => by
    simp only [List.getElem?_cons_zero, List.cons_append, Option.some.injEq] at h1 h2
    subst h1; subst h2
    simp only [pcs, List.getElem?_cons_zero]
  | c :: cs, b, i + 1, x, y, h1, h2 => by
    rw [List.getElem?_cons_succ] at h1
    rw [List.cons_append, List.getElem?_cons_succ] at h2
    simp only [pcs, List.getElem?_cons_succ]
    exact pcs_at ns cs c i x y h1 h2
structure CutN (cs : List Nat) (n : Nat) : Prop where
  up : cs.Pairwise (· < ·)
  lo : ∀ c ∈ cs, 1 ≤ c
  hi : ∀ c ∈ cs, c < n
theorem cut_len {cs : List Nat} {n : Nat} (h : CutN cs n) : cs.length ≤ n := by
  have h1 : ∀ (cs : List Nat) (b : Nat), cs.Pairwise (· < ·) → (∀ c ∈ cs, b ≤ c ∧ c < n) → b ≤ n → cs.length + b ≤ n := by
    intro cs
    induction cs with
    | nil => intro b _ _ h; simpa using h
    | cons c cs ih =>
      intro b hp hb hbn
      obtain ⟨p1, p2⟩ := List.pairwise_cons.mp hp
      have hc := hb c List.mem_cons_self
      have := ih (c + 1) p2 (fun d hd => ⟨p1 d hd, (hb d (List.mem_cons_of_mem _ hd)).2⟩) (by omega)
      rw [List.length_cons]; omega
  have := h1 cs 0 h.up (fun c hc => ⟨Nat.zero_le _, h.hi c hc⟩) (Nat.zero_le _)
  omega
end M3
namespace M3
end M3
namespace M5
def lcut (b : Int) : Nat → Int → List Int → List Int
  | _, _, [] => []
  | i, tot, n :: r => if tot + n > b then (i : Int) :: lcut b (i + 1) n r else lcut b (i + 1) (tot + n) r
def ltot (b : Int) : Int → List Int → Int
  | tot, [] => tot
  | tot, n :: r => if tot + n > b then ltot b n r else ltot b (tot + n) r
theorem lcut_app (b : Int) : ∀ (xs ys : List Int) (i : Nat) (tot : Int), lcut b i tot (xs ++ ys) = lcut b i tot xs ++ lcut b (i + xs.length) (ltot b tot xs) ys
  | [], ys, i, tot => by simp [lcut, ltot]
  | x :: xs, ys, i, tot => by
    by_cases h : tot + x > b
    · simp only [List.cons_append, lcut, ltot, h, if_true, lcut_app b xs ys (i + 1) x, List.length_cons]
      rw [show i + 1 + xs.length = i + (xs.length + 1) by omega]
    · simp only [List.cons_append, lcut, ltot, h, if_false, lcut_app b xs ys (i + 1) (tot + x), List.length_cons]
      rw [show i + 1 + xs.length = i + (xs.length + 1) by omega]
theorem ltot_app (b : Int) : ∀ (xs ys : List Int) (tot : Int), ltot b tot (xs ++ ys) = ltot b (ltot b tot xs) ys
  | [], ys, tot => rfl
  | x :: xs, ys, tot => by
    by_cases h : tot + x > b
    · simp only [List.cons_append, ltot, h, if_true]; exact ltot_app b xs ys x
    · simp only [List.cons_append, ltot, h, if_false]; exact ltot_app b xs ys (tot + x)
theorem sum_nn : ∀ (ys : List Int), (∀ y ∈ ys, 0 ≤ y) → 0 ≤ ys.sum
  | [], _ => by simp
  | y :: ys, h => by
    rw [List.sum_cons]
    have := sum_nn ys fun z hz => h z (List.mem_cons_of_mem _ hz)
    have := h y List.mem_cons_self
    omega
theorem lcut_nil {b : Int} : ∀ (ys : List Int) (i : Nat) (tot : Int), (∀ y ∈ ys, 0 ≤ y) → tot + ys.sum ≤ b → lcut b i tot ys = []
  | [], _, _, _, _ => rfl
  | y :: ys, i, tot, h, hs => by
    rw [List.sum_cons] at hs
    have hp : 0 ≤ ys.sum := sum_nn ys fun z hz => h z (List.mem_cons_of_mem _ hz)
    have : ¬ tot + y > b := by omega
    simp only [lcut, this, if_false]
    exact lcut_nil ys (i + 1) (tot + y) (fun z hz => h z (List.mem_cons_of_mem _ hz)) (by omega)
theorem mem_le_sum : ∀ {ys : List Int}, (∀ y ∈ ys, 0 ≤ y) → ∀ y ∈ ys, y ≤ ys.sum
  | x :: ys, h, y, hy => by
    rw [List.sum_cons]
    have h0 := sum_nn ys fun z hz => h z (List.mem_cons_of_mem _ hz)
    have hx := h x List.mem_cons_self
    rcases List.mem_cons.mp hy with rfl | hy
    · omega
    · have := mem_le_sum (fun z hz => h z (List.mem_cons_of_mem _ hz)) y hy
      omega
theorem lcut_one {b : Int} : ∀ (ys : List Int) (i : Nat) (tot : Int), (∀ y ∈ ys, 0 ≤ y) → ys.sum ≤ b → (lcut b i tot ys).length ≤ 1
  | [], _, _, _, _ => Nat.zero_le _
  | y :: ys, i, tot, h, hs => by
    rw [List.sum_cons] at hs
    have hy := h y List.mem_cons_self
    have ht : ∀ z ∈ ys, 0 ≤ z := fun z hz => h z (List.mem_cons_of_mem _ hz)
    by_cases hc : tot + y > b
    · simp only [lcut, hc, if_true, lcut_nil ys (i + 1) y ht hs, List.length_cons, List.length_nil]; omega
    · simp only [lcut, hc, if_false]
      exact lcut_one ys (i + 1) (tot + y) ht (by omega)
def gp (b : Int) (ns : List Int) : Nat := if ns = [] then 0 else (lcut b 0 0 ns).length + 1
theorem gp_add {b : Int} {xs ys : List Int} (h : ∀ y ∈ ys, 0 ≤ y) (hs : ys.sum ≤ b) : gp b (xs ++ ys) ≤ gp b xs + 1 := by
  unfold gp
  by_cases hx : xs = []
  · subst hx
    rw [List.nil_append, lcut_nil ys 0 0 h (by omega)]
    split <;> simp
  · rw [if_neg hx, if_neg (by simp [hx]), lcut_app, List.length_append]
    have := lcut_one ys (0 + xs.length) (ltot b 0 xs) h hs
    omega
theorem gp_last {b : Int} : ∀ (m : Nat) (xs : List Int), xs.length = m → xs ≠ [] → (∀ x ∈ xs, 0 ≤ x) → (∀ x ∈ xs, x ≤ b) → ∃ pre seg, xs = pre ++ seg ∧ seg ≠ [] ∧ seg.sum = ltot b 0 xs ∧ ltot b 0 xs ≤ b ∧ gp b xs = gp b pre + 1
  | 0, xs, hl, hne, _, _ => absurd (List.length_eq_zero_iff.mp hl) hne
  | m + 1, xs, hl, hne, h0, h1 => by
    obtain ⟨ys, n, rfl⟩ : ∃ ys n, xs = ys ++ [n] := ⟨xs.dropLast, xs.getLast hne, (List.dropLast_concat_getLast hne).symm⟩
    have hn : n ≤ b := h1 n (by simp)
    by_cases hy : ys = []
    · subst hy
      have e : ¬ (0 : Int) + n > b := by omega
      refine ⟨[], [n], rfl, by simp, ?_, ?_, ?_⟩
      · simp [ltot, e]
      · simp only [List.nil_append, ltot, e, if_false]; omega
      · simp [gp, lcut, hn]
    · rw [ltot_app]
      by_cases hc : ltot b 0 ys + n > b
      · refine ⟨ys, [n], rfl, by simp, ?_, ?_, ?_⟩
        · simp [ltot, hc]
        · simp only [ltot, hc, if_true]; exact hn
        · unfold gp
          rw [if_neg hy, if_neg (by simp), lcut_app]
          simp [lcut, hc]
      · obtain ⟨pre, seg, e1, e2, e3, e4, e5⟩ := gp_last m ys (by simp at hl; exact hl) hy (fun x hx => h0 x (by simp [hx])) (fun x hx => h1 x (by simp [hx]))
        refine ⟨pre, seg ++ [n], by rw [e1]; simp, by simp, ?_, ?_, ?_⟩
        · simp only [List.sum_append, List.sum_cons, List.sum_nil, ltot, hc, if_false]; omega
        · simp only [ltot, hc, if_false]; omega
        · rw [← e5]
          unfold gp
          rw [if_neg hy, if_neg (by simp), lcut_app]
          simp [lcut, hc]
end M5
namespace M5
theorem lcut_len (b : Int) : ∀ (xs : List Int) (i : Nat) (tot : Int), (lcut b i tot xs).length ≤ xs.length
  | [], _, _ => Nat.le_refl _
  | x :: xs, i, tot => by
    simp only [lcut]
    split
    · have := lcut_len b xs (i + 1) x; simp only [List.length_cons]; omega
    · have := lcut_len b xs (i + 1) (tot + x); simp only [List.length_cons]; omega
end M5
namespace M5
def fv (b : Int) (ns : List Int) (i : Nat) : Option Int := if (ns.take i).all (fun n => decide (n ≤ b)) = true then some ((gp b (ns.take i) : Nat) : Int) else none
def seg (ns : List Int) (k e : Nat) : Int := ((ns.take e).drop k).sum
theorem seg_self (ns : List Int) (e : Nat) : seg ns e e = 0 := by
  unfold seg; rw [List.drop_eq_nil_of_le (by rw [List.length_take]; omega)]; rfl
theorem seg_step {ns : List Int} {k e : Nat} (hk : k < e) (he : e ≤ ns.length) : seg ns k e = ns.getD k 0 + seg ns (k + 1) e := by
  unfold seg
  have h : k < (ns.take e).length := by rw [List.length_take]; omega
  rw [List.drop_eq_getElem_cons h, List.sum_cons, List.getElem_take, List.getD_eq_getElem?_getD, List.getElem?_eq_getElem (by omega)]; rfl
structure Best (b : Int) (ns : List Int) (e lo : Nat) (best : Option Int) : Prop where
  ub : ∀ k, lo ≤ k → k < e → seg ns k e ≤ b → ∀ v, fv b ns k = some v → ∃ w, best = some w ∧ w ≤ v + 1
  ex : ∀ w, best = some w → ∃ k, lo ≤ k ∧ k < e ∧ seg ns k e ≤ b ∧ fv b ns k = some (w - 1)
end M5
namespace M5
theorem take_split {ns : List Int} {i e : Nat} (h : i ≤ e) : ns.take e = ns.take i ++ (ns.take e).drop i := by
  conv => lhs; rw [← List.take_append_drop i (ns.take e)]
  rw [List.take_take, Nat.min_eq_left h]
end M5
namespace M10
open M5
def sends (b : Int) : Nat → Int → List Int → List Int
  | _, _, [] => []
  | i, tot, n :: r => if tot + n ≥ b then ((i + 1 : Nat) : Int) :: sends b (i + 1) 0 r else sends b (i + 1) (tot + n) r
def stot (b : Int) : Int → List Int → Int
  | tot, [] => tot
  | tot, n :: r => if tot + n ≥ b then stot b 0 r else stot b (tot + n) r
theorem sends_app (b : Int) : ∀ (xs ys : List Int) (i : Nat) (tot : Int), sends b i tot (xs ++ ys) = sends b i tot xs ++ sends b (i + xs.length) (stot b tot xs) ys
  | [], ys, i, tot => by simp [sends, stot]
  | x :: xs, ys, i, tot => by
    by_cases h : tot + x ≥ b
    · simp only [List.cons_append, sends, stot, h, if_true, sends_app b xs ys (i + 1) 0, List.length_cons]
      rw [show i + 1 + xs.length = i + (xs.length + 1) by omega]
    · simp only [List.cons_append, sends, stot, h, if_false, sends_app b xs ys (i + 1) (tot + x), List.length_cons]
      rw [show i + 1 + xs.length = i + (xs.length + 1) by omega]
theorem stot_app (b : Int) : ∀ (xs ys : List Int) (tot : Int), stot b tot (xs ++ ys) = stot b (stot b tot xs) ys
  | [], ys, tot => rfl
  | x :: xs, ys, tot => by
    by_cases h : tot + x ≥ b
    · simp only [List.cons_append, stot, h, if_true]; exact stot_app b xs ys 0
    · simp only [List.cons_append, stot, h, if_false]; exact stot_app b xs ys (tot + x)
theorem sends_len (b : Int) : ∀ (xs : List Int) (i : Nat) (tot : Int), (sends b i tot xs).length ≤ xs.length
  | [], _, _ => Nat.le_refl _
  | x :: xs, i, tot => by
    simp only [sends]
    split
    · have := sends_len b xs (i + 1) 0; simp only [List.length_cons]; omega
    · have := sends_len b xs (i + 1) (tot + x); simp only [List.length_cons]; omega
theorem sends_cases (b : Int) : ∀ (xs : List Int) (i : Nat) (tot : Int),
    (sends b i tot xs = [] ∧ ∀ j, 1 ≤ j → j ≤ xs.length → tot + (xs.take j).sum < b) ∨
    ∃ j, 1 ≤ j ∧ j ≤ xs.length ∧ tot + (xs.take j).sum ≥ b ∧ (∀ k, 1 ≤ k → k < j → tot + (xs.take k).sum < b) ∧ sends b i tot xs = ((i + j : Nat) : Int) :: sends b (i + j) 0 (xs.drop j)
  | [], i, tot => .inl ⟨rfl, fun j h1 h2 => by simp at h2; omega⟩
  | x :: xs, i, tot => by
    by_cases h : tot + x ≥ b
    · refine .inr ⟨1, Nat.le_refl _, by simp, by simpa using h, fun k h1 h2 => by omega, ?_⟩
      simp only [sends, h, if_true, List.drop_succ_cons, List.drop_zero]
    · rcases sends_cases b xs (i + 1) (tot + x) with ⟨e, hl⟩ | ⟨j, h1, h2, h3, h4, h5⟩
      · refine .inl ⟨by simp only [sends, h, if_false, e], fun j h1 h2 => ?_⟩
        cases j with
        | zero => omega
        | succ j =>
          rw [List.take_succ_cons, List.sum_cons]
          cases j with
          | zero => simp; omega
          | succ j => have := hl (j + 1) (by omega) (by simp at h2; omega); omega
      · refine .inr ⟨j + 1, by omega, by simp; omega, ?_, fun k hk1 hk2 => ?_, ?_⟩
        · rw [List.take_succ_cons, List.sum_cons]; omega
        · cases k with
          | zero => omega
          | succ k =>
            rw [List.take_succ_cons, List.sum_cons]
            cases k with
            | zero => simp; omega
            | succ k => have := h4 (k + 1) (by omega) (by omega); omega
        · simp only [sends, h, if_false, h5, List.drop_succ_cons]
          rw [show i + 1 + j = i + (j + 1) by omega]
def cnt (b : Int) (tot : Int) (xs : List Int) : Nat := (sends b 0 tot xs).length
theorem len_any (b : Int) : ∀ (xs : List Int) (i j : Nat) (tot : Int), (sends b i tot xs).length = (sends b j tot xs).length
  | [], _, _, _ => rfl
  | x :: xs, i, j, tot => by
    simp only [sends]
    split
    · simp only [List.length_cons]; rw [len_any b xs (i + 1) (j + 1) 0]
    · exact len_any b xs (i + 1) (j + 1) (tot + x)
theorem cnt_cons (b tot x : Int) (xs : List Int) : cnt b tot (x :: xs) = if tot + x ≥ b then cnt b 0 xs + 1 else cnt b (tot + x) xs := by
  unfold cnt
  simp only [sends]
  split
  · rw [List.length_cons, len_any b xs 1 0]
  · rw [len_any b xs 1 0]
theorem cnt_both (b : Int) : ∀ (xs : List Int), (∀ x ∈ xs, 0 ≤ x) → (∀ t u, 0 ≤ t → t ≤ u → cnt b t xs ≤ cnt b u xs) ∧ ∀ t, 0 ≤ t → cnt b t xs ≤ cnt b 0 xs + 1
  | [], _ => ⟨fun t u _ _ => by simp [cnt, sends], fun t _ => by simp [cnt, sends]⟩
  | x :: xs, h => by
    obtain ⟨h1, h2⟩ := cnt_both b xs fun y hy => h y (List.mem_cons_of_mem _ hy)
    have hx := h x List.mem_cons_self
    have h3 : ∀ t, 0 ≤ t → cnt b 0 xs ≤ cnt b t (x :: xs) := fun t ht => by
      rw [cnt_cons]; split
      · omega
      · exact h1 0 (t + x) (Int.le_refl 0) (by omega)
    refine ⟨fun t u ht htu => ?_, fun t ht => ?_⟩
    · rw [cnt_cons, cnt_cons]
      by_cases c1 : t + x ≥ b
      · rw [if_pos c1, if_pos (by omega)]; exact Nat.le_refl _
      · rw [if_neg c1]
        split
        · exact h2 (t + x) (by omega)
        · exact h1 _ _ (by omega) (by omega)
    · have h4 := h3 0 (Int.le_refl 0)
      rw [cnt_cons b t]
      split
      · omega
      · have := h2 (t + x) (by omega); omega
theorem cnt_tail {b : Int} {x : Int} {xs : List Int} (h : ∀ y ∈ x :: xs, 0 ≤ y) : cnt b 0 xs ≤ cnt b 0 (x :: xs) := by
  obtain ⟨h1, h2⟩ := cnt_both b xs fun y hy => h y (List.mem_cons_of_mem _ hy)
  have hx := h x List.mem_cons_self
  rw [cnt_cons]; split
  · omega
  · exact h1 0 (0 + x) (Int.le_refl 0) (by omega)
def G (b : Int) (ns : List Int) (k : Nat) : Nat := cnt b 0 (ns.drop k)
theorem G_mono {b : Int} {ns : List Int} (h : ∀ n ∈ ns, 0 ≤ n) : ∀ (d k : Nat), G b ns (k + d) ≤ G b ns k
  | 0, k => Nat.le_refl _
  | d + 1, k => by
    refine Nat.le_trans ?_ (G_mono h d k)
    unfold G
    by_cases hl : k + d < ns.length
    · rw [List.drop_eq_getElem_cons hl]
      exact cnt_tail fun y hy => h y (by
        have : y ∈ ns.drop (k + d) := by rw [List.drop_eq_getElem_cons hl]; exact hy
        exact List.mem_of_mem_drop this)
    · rw [List.drop_eq_nil_of_le (by omega)]; simp [cnt, sends]
theorem seg_take {ns : List Int} {k j : Nat} : ((ns.drop k).take j).sum = seg ns k (k + j) := by
  unfold seg; rw [List.drop_take]; congr 2; omega
theorem G_cases (b : Int) (ns : List Int) (k : Nat) (hk : k ≤ ns.length) :
    (G b ns k = 0 ∧ sends b k 0 (ns.drop k) = [] ∧ ∀ e, k < e → e ≤ ns.length → seg ns k e < b) ∨
    ∃ e, k < e ∧ e ≤ ns.length ∧ seg ns k e ≥ b ∧ (∀ j, k < j → j < e → seg ns k j < b) ∧ G b ns k = G b ns e + 1 ∧ sends b k 0 (ns.drop k) = (e : Int) :: sends b e 0 (ns.drop e) := by
  have hlen : (ns.drop k).length = ns.length - k := List.length_drop
  rcases sends_cases b (ns.drop k) k 0 with ⟨e, h⟩ | ⟨j, h1, h2, h3, h4, h5⟩
  · refine .inl ⟨?_, e, fun e' h1 h2 => ?_⟩
    · unfold G cnt; rw [len_any b _ 0 k, e]; rfl
    · have := h (e' - k) (by omega) (by omega)
      rw [seg_take, show k + (e' - k) = e' by omega] at this; omega
  · rw [seg_take] at h3
    refine .inr ⟨k + j, by omega, by omega, by omega, fun i h6 h7 => ?_, ?_, ?_⟩
    · have := h4 (i - k) (by omega) (by omega)
      rw [seg_take, show k + (i - k) = i by omega] at this; omega
    · unfold G cnt; rw [len_any b _ 0 k, h5, List.length_cons, List.drop_drop, len_any b _ (k + j) 0]
    · rw [h5, List.drop_drop]
def M (b : Int) (ns : List Int) (k : Nat) : Option Int := if k = ns.length then some 0 else if G b ns k = 0 then none else some ((G b ns k : Nat) : Int)
structure Top (b : Int) (ns : List Int) (k hi : Nat) (best : Option Int) : Prop where
  ub : ∀ e, k < e → e ≤ hi → seg ns k e ≥ b → ∀ v, M b ns e = some v → ∃ w, best = some w ∧ v + 1 ≤ w
  ex : ∀ w, best = some w → ∃ e, k < e ∧ e ≤ hi ∧ seg ns k e ≥ b ∧ M b ns e = some (w - 1)
end M10
namespace M11
open M5 M10
def pick (w : Nat) (x y : Int) : Int := if w = 0 then min x y else max x y
def both (w : Nat) (x y : Int) : Int := if w = 0 then max x y else min x y
def Le (w : Nat) (x y : Int) : Prop := if w = 0 then x ≤ y else y ≤ x
theorem Le.refl (w : Nat) (x : Int) : Le w x x := by unfold Le; split <;> omega
theorem Le.trans {w : Nat} {x y z : Int} (a : Le w x y) (b : Le w y z) : Le w x z := by unfold Le at *; split at a <;> simp_all <;> omega
theorem pick_or (w : Nat) (x y : Int) : pick w x y = x ∨ pick w x y = y := by unfold pick; split <;> omega
theorem pick_l (w : Nat) (x y : Int) : Le w (pick w x y) x := by unfold pick Le; split <;> omega
theorem pick_r (w : Nat) (x y : Int) : Le w (pick w x y) y := by unfold pick Le; split <;> omega
structure IsBest (w : Nat) (l : List Int) (v : Int) : Prop where
  mem : v ∈ l
  le : ∀ a ∈ l, Le w v a
def lbest (w : Nat) : List Int → Option Int
  | [] => none
  | a :: l => some (l.foldl (pick w) a)
theorem fold_best (w : Nat) : ∀ (l : List Int) (a : Int), IsBest w (a :: l) (l.foldl (pick w) a)
  | [], a => ⟨by simp, fun x hx => by simp at hx; subst hx; exact Le.refl w _⟩
  | b :: l, a => by
    have ih := fold_best w l (pick w a b)
    rw [List.foldl_cons]
    refine ⟨?_, fun x hx => ?_⟩
    · rcases List.mem_cons.mp ih.mem with h | h
      · rw [h]; rcases pick_or w a b with e | e <;> rw [e] <;> simp
      · exact List.mem_cons_of_mem _ (List.mem_cons_of_mem _ h)
    · have h0 := ih.le _ List.mem_cons_self
      rcases List.mem_cons.mp hx with rfl | hx
      · exact h0.trans (pick_l w _ _)
      · rcases List.mem_cons.mp hx with rfl | hx
        · exact h0.trans (pick_r w _ _)
        · exact ih.le x (List.mem_cons_of_mem _ hx)
theorem lbest_is {w : Nat} {l : List Int} {v : Int} (h : lbest w l = some v) : IsBest w l v := by
  cases l with
  | nil => cases h
  | cons a l => have := fold_best w l a; simp only [lbest, Option.some.injEq] at h; rw [← h]; exact this
def T (w : Nat) (ns : List Int) : Nat → Nat → Option Int
  | 0, i => if i < ns.length then some (seg ns i ns.length) else none
  | k + 1, i => lbest w ((List.range (ns.length - (k + 1) - i)).map fun j => both w (seg ns i (i + 1 + j)) ((T w ns k (i + 1 + j)).getD 0))
theorem T_some {w : Nat} {ns : List Int} : ∀ {k i : Nat}, i + k < ns.length → ∃ v, T w ns k i = some v
  | 0, i, h => ⟨_, by simp only [T]; rw [if_pos (by omega)]⟩
  | k + 1, i, h => by
    simp only [T]
    obtain ⟨n, hn⟩ : ∃ n, ns.length - (k + 1) - i = n + 1 := ⟨ns.length - (k + 1) - i - 1, by omega⟩
    rw [hn, List.range_succ_eq_map, List.map_cons]
    exact ⟨_, rfl⟩
theorem T_mem {w : Nat} {ns : List Int} {k i : Nat} {t : Int} (h : T w ns (k + 1) i = some t) : (∃ e v, i < e ∧ e + k < ns.length ∧ T w ns k e = some v ∧ t = both w (seg ns i e) v) ∧ ∀ e v, i < e → e + k < ns.length → T w ns k e = some v → Le w t (both w (seg ns i e) v) := by
  have hb := lbest_is h
  refine ⟨?_, fun e v h1 h2 hv => ?_⟩
  · obtain ⟨j, hj, e⟩ := List.mem_map.mp hb.mem
    have hj' := List.mem_range.mp hj
    obtain ⟨v, hv⟩ := T_some (w := w) (ns := ns) (k := k) (i := i + 1 + j) (by omega)
    refine ⟨i + 1 + j, v, by omega, by omega, hv, ?_⟩
    rw [← e, hv]; rfl
  · refine hb.le _ (List.mem_map.mpr ⟨e - (i + 1), List.mem_range.mpr (by omega), ?_⟩)
    rw [show i + 1 + (e - (i + 1)) = e by omega, hv]; rfl
theorem G_le {b : Int} {ns : List Int} {i : Nat} : G b ns i ≤ ns.length - i := by
  have := sends_len b (ns.drop i) 0 0
  rw [List.length_drop] at this; exact this
theorem seg_split {ns : List Int} {i e n : Nat} (h1 : i ≤ e) (h2 : e ≤ n) (h3 : n ≤ ns.length) : seg ns i n = seg ns i e + seg ns e n := by
  unfold seg
  have : (ns.take n).drop i = (ns.take e).drop i ++ (ns.take n).drop e := by
    have h : ns.take n = ns.take e ++ (ns.take n).drop e := take_split h2
    conv => lhs; rw [h]
    rw [List.drop_append_of_le_length (by rw [List.length_take]; omega)]
  rw [this, List.sum_append]
theorem seg_nn {ns : List Int} (hnn : ∀ n ∈ ns, 0 ≤ n) (i e : Nat) : 0 ≤ seg ns i e := sum_nn _ fun y hy => hnn y (List.mem_of_mem_take (List.mem_of_mem_drop hy))
theorem T_iff {ns : List Int} (hnn : ∀ n ∈ ns, 0 ≤ n) (b : Int) : ∀ {k i : Nat} {t : Int}, i + k < ns.length → T 1 ns k i = some t → (b ≤ t ↔ k + 1 ≤ G b ns i)
  | 0, i, t, h, ht => by
    simp only [T] at ht
    rw [if_pos (by omega)] at ht
    have ht := Option.some.inj ht
    rcases G_cases b ns i (by omega) with ⟨g0, _, hall⟩ | ⟨e, h1, h2, h3, h4, h5, _⟩
    · have := hall ns.length (by omega) (Nat.le_refl _)
      constructor <;> intro z <;> omega
    · have h6 := seg_split (ns := ns) (Nat.le_of_lt h1) h2 (Nat.le_refl _)
      have h7 := seg_nn hnn e ns.length
      constructor <;> intro z <;> omega
  | k + 1, i, t, h, ht => by
    obtain ⟨⟨e, v, he1, he2, hv, htv⟩, hle⟩ := T_mem ht
    constructor
    · intro hb
      have hs : b ≤ seg ns i e ∧ b ≤ v := by
        rw [htv] at hb; unfold both at hb; rw [if_neg (by decide)] at hb; omega
      have hG := (T_iff hnn b he2 hv).mp hs.2
      rcases G_cases b ns i (by omega) with ⟨g0, _, hall⟩ | ⟨e0, h1, h2, h3, h4, h5, _⟩
      · have := hall e he1 (by omega); omega
      · have hee : e0 ≤ e := by
          refine Classical.byContradiction fun z => ?_
          have := h4 e he1 (by omega); omega
        have hm := G_mono (b := b) hnn (e - e0) e0
        rw [show e0 + (e - e0) = e by omega] at hm
        omega
    · intro hG
      rcases G_cases b ns i (by omega) with ⟨g0, _, hall⟩ | ⟨e0, h1, h2, h3, h4, h5, _⟩
      · omega
      · have hl := G_le (b := b) (ns := ns) (i := e0)
        have he0 : e0 + k < ns.length := by omega
        obtain ⟨v0, hv0⟩ := T_some (w := 1) he0
        have h6 := (T_iff hnn b he0 hv0).mpr (by omega)
        have h7 := hle e0 v0 h1 he0 hv0
        unfold Le both at h7
        rw [if_neg (by decide), if_neg (by decide)] at h7
        omega
theorem G_sum {ns : List Int} (hnn : ∀ n ∈ ns, 0 ≤ n) {b : Int} (hb : 0 ≤ b) : ∀ (d i : Nat), ns.length - i = d → i ≤ ns.length → b * (G b ns i : Int) ≤ seg ns i ns.length := by
  intro d
  induction d using Nat.strongRecOn with
  | ind d ih =>
    intro i hd hi
    rcases G_cases b ns i hi with ⟨g0, _, _⟩ | ⟨e, h1, h2, h3, h4, h5, _⟩
    · rw [g0]; have := seg_nn hnn i ns.length; simp; omega
    · have := ih (ns.length - e) (by omega) e rfl h2
      rw [h5, seg_split (ns := ns) (Nat.le_of_lt h1) h2 (Nat.le_refl _)]
      push_cast
      rw [Int.mul_add, Int.mul_one]
      omega
theorem cnt_zero : ∀ (xs : List Int) (t : Int), (∀ x ∈ xs, 0 ≤ x) → 0 ≤ t → cnt 0 t xs = xs.length
  | [], t, _, _ => rfl
  | x :: xs, t, h, ht => by
    have hx := h x List.mem_cons_self
    rw [cnt_cons, if_pos (by omega), cnt_zero xs 0 (fun y hy => h y (List.mem_cons_of_mem _ hy)) (Int.le_refl 0), List.length_cons]
theorem G_zero {ns : List Int} (hnn : ∀ n ∈ ns, 0 ≤ n) : G 0 ns 0 = ns.length := by
  unfold G; rw [List.drop_zero]; exact cnt_zero ns 0 hnn (Int.le_refl 0)
end M11
namespace M7
open M5 M10 M11
theorem gp_le {b : Int} : ∀ (n : Nat) (ps : List (List Int)), ps.length = n → (∀ p ∈ ps, ∀ x ∈ p, 0 ≤ x) → (∀ p ∈ ps, p.sum ≤ b) → gp b ps.flatten ≤ ps.length
  | 0, ps, h, _, _ => by
    have : ps = [] := List.length_eq_zero_iff.mp h
    subst this; simp [gp]
  | n + 1, ps, h, h0, h1 => by
    have hne : ps ≠ [] := fun z => by rw [z] at h; cases h
    have e : ps = ps.dropLast ++ [ps.getLast hne] := (List.dropLast_concat_getLast hne).symm
    have hl : ps.dropLast.length = n := by rw [List.length_dropLast, h]; rfl
    have hm : ∀ p ∈ ps.dropLast, p ∈ ps := fun p hp => by rw [e]; exact List.mem_append_left _ hp
    have ih := gp_le n ps.dropLast hl (fun p hp => h0 p (hm p hp)) fun p hp => h1 p (hm p hp)
    have hlast := List.getLast_mem hne
    have := gp_add (b := b) (xs := ps.dropLast.flatten) (h0 _ hlast) (h1 _ hlast)
    rw [e, List.flatten_append, List.flatten_singleton, List.length_append]
    simp only [List.length_cons, List.length_nil]
    omega
theorem decomp {b : Int} : ∀ (n : Nat) (xs : List Int), xs.length = n → (∀ x ∈ xs, 0 ≤ x) → (∀ x ∈ xs, x ≤ b) → ∃ ps : List (List Int), ps.flatten = xs ∧ (∀ p ∈ ps, p ≠ [] ∧ p.sum ≤ b) ∧ ps.length = gp b xs := by
  intro n
  induction n using Nat.strongRecOn with
  | ind n ih =>
    intro xs hl h0 h1
    by_cases hx : xs = []
    · subst hx; exact ⟨[], rfl, by simp, by simp [gp]⟩
    · obtain ⟨pre, sg, e1, e2, e3, e4, e5⟩ := gp_last xs.length xs rfl hx h0 h1
      have hs : 0 < sg.length := List.length_pos_iff.mpr e2
      have hpl : pre.length < n := by rw [← hl, e1, List.length_append]; omega
      obtain ⟨ps, p1, p2, p3⟩ := ih pre.length hpl pre rfl (fun x hx => h0 x (by rw [e1]; exact List.mem_append_left _ hx)) fun x hx => h1 x (by rw [e1]; exact List.mem_append_left _ hx)
      refine ⟨ps ++ [sg], by rw [List.flatten_append, p1, List.flatten_singleton, ← e1], fun p hp => ?_, by rw [List.length_append, p3, e5]; rfl⟩
      rcases List.mem_append.mp hp with hp | hp
      · exact p2 p hp
      · have : p = sg := by simpa using hp
        subst this; exact ⟨e2, by omega⟩
theorem gp_len {b : Int} {xs : List Int} (h : ∀ x ∈ xs, x ≤ b) : gp b xs ≤ xs.length := by
  unfold gp
  split
  · omega
  · rename_i hne
    cases xs with
    | nil => exact absurd rfl hne
    | cons x xs =>
      have hx := h x List.mem_cons_self
      have c : ¬ (0 + x > b) := by omega
      have := lcut_len b xs (0 + 1) (0 + x)
      simp only [lcut, c, if_false, List.length_cons]
      omega
theorem nil_sum {b : Int} : ∀ (xs : List Int) (i : Nat) (tot : Int), tot ≤ b → lcut b i tot xs = [] → tot + xs.sum ≤ b
  | [], _, tot, h, _ => by simpa using h
  | x :: xs, i, tot, h, hl => by
    simp only [lcut] at hl
    split at hl
    · cases hl
    · rename_i c
      have := nil_sum xs (i + 1) (tot + x) (by omega) hl
      rw [List.sum_cons]; omega
theorem drop_seg {ns : List Int} {i e : Nat} (h : i ≤ e) : ns.drop i = (ns.take e).drop i ++ ns.drop e := by
  by_cases he : e ≤ ns.length
  · conv => lhs; rw [← List.take_append_drop e ns]
    rw [List.drop_append_of_le_length (by rw [List.length_take]; omega)]
  · rw [List.take_of_length_le (by omega), List.drop_eq_nil_of_le (as := ns) (i := e) (by omega), List.append_nil]
theorem seg_all {ns : List Int} {i : Nat} : seg ns i ns.length = (ns.drop i).sum := by unfold seg; rw [List.take_length]
theorem T_iff0 {ns : List Int} (hnn : ∀ n ∈ ns, 0 ≤ n) (b : Int) : ∀ {k i : Nat} {t : Int}, i + k < ns.length → T 0 ns k i = some t → (t ≤ b ↔ (∀ x ∈ ns.drop i, x ≤ b) ∧ gp b (ns.drop i) ≤ k + 1)
  | 0, i, t, h, ht => by
    simp only [T] at ht
    rw [if_pos (by omega)] at ht
    have ht := Option.some.inj ht
    rw [seg_all] at ht
    have hd : ∀ x ∈ ns.drop i, 0 ≤ x := fun x hx => hnn x (List.mem_of_mem_drop hx)
    have hne : ns.drop i ≠ [] := fun z => by have := congrArg List.length z; rw [List.length_drop, List.length_nil] at this; omega
    constructor
    · intro hb
      refine ⟨fun x hx => Int.le_trans (mem_le_sum hd x hx) (by omega), ?_⟩
      unfold gp
      rw [if_neg hne, lcut_nil _ 0 0 hd (by omega)]; simp
    · rintro ⟨ha, hg⟩
      unfold gp at hg
      rw [if_neg hne] at hg
      have hl : lcut b 0 0 (ns.drop i) = [] := List.length_eq_zero_iff.mp (by omega)
      have h0 : (0 : Int) ≤ b := by
        cases hx : ns.drop i with
        | nil => exact absurd hx hne
        | cons x xs => have h1 := ha x (by rw [hx]; simp); have h2 := hd x (by rw [hx]; simp); omega
      have := nil_sum _ 0 0 h0 hl
      omega
  | k + 1, i, t, h, ht => by
    obtain ⟨⟨e, v, he1, he2, hv, htv⟩, hle⟩ := T_mem ht
    have hd : ∀ x ∈ ns.drop i, 0 ≤ x := fun x hx => hnn x (List.mem_of_mem_drop hx)
    constructor
    · intro hb
      have hs : seg ns i e ≤ b ∧ v ≤ b := by
        rw [htv] at hb; unfold both at hb; rw [if_pos rfl] at hb; omega
      obtain ⟨ha, hg⟩ := (T_iff0 hnn b he2 hv).mp hs.2
      have hsplit := drop_seg (ns := ns) (Nat.le_of_lt he1)
      have hsn : ∀ x ∈ (ns.take e).drop i, 0 ≤ x := fun x hx => hnn x (List.mem_of_mem_take (List.mem_of_mem_drop hx))
      have hall : ∀ x ∈ ns.drop i, x ≤ b := fun x hx => by
        rw [hsplit] at hx
        rcases List.mem_append.mp hx with hx | hx
        · exact Int.le_trans (mem_le_sum hsn x hx) hs.1
        · exact ha x hx
      refine ⟨hall, ?_⟩
      obtain ⟨ps, p1, p2, p3⟩ := decomp (b := b) _ (ns.drop e) rfl (fun x hx => hnn x (List.mem_of_mem_drop hx)) ha
      have := gp_le (b := b) _ ((ns.take e).drop i :: ps) rfl (fun p hp x hx => by
        rcases List.mem_cons.mp hp with rfl | hp
        · exact hsn x hx
        · refine hnn x (List.mem_of_mem_drop (i := e) ?_)
          rw [← p1]; exact List.mem_flatten.mpr ⟨p, hp, hx⟩) fun p hp => by
        rcases List.mem_cons.mp hp with rfl | hp
        · exact hs.1
        · exact (p2 p hp).2
      rw [List.flatten_cons, p1, ← hsplit, List.length_cons, p3] at this
      omega
    · rintro ⟨ha, hg⟩
      obtain ⟨ps, p1, p2, p3⟩ := decomp (b := b) _ (ns.drop i) rfl hd ha
      cases ps with
      | nil =>
        have := congrArg List.length p1
        rw [List.flatten_nil, List.length_nil, List.length_drop] at this; omega
      | cons p ps =>
        rw [List.flatten_cons] at p1
        rw [List.length_cons] at p3
        obtain ⟨hpne, hpb⟩ := p2 p List.mem_cons_self
        have hp1 : 0 < p.length := List.length_pos_iff.mpr hpne
        have hlen : p.length + ps.flatten.length = ns.length - i := by
          have := congrArg List.length p1
          rw [List.length_append, List.length_drop] at this; exact this
        let e0 := min (i + p.length) (ns.length - k - 1)
        have he0 : e0 ≤ i + p.length ∧ e0 ≤ ns.length - k - 1 ∧ i < e0 := by simp only [e0]; omega
        have hseg0 : seg ns i (i + p.length) = p.sum := by
          unfold seg
          rw [List.drop_take, show i + p.length - i = p.length by omega, ← p1, List.take_left' rfl]
        have hsegle : seg ns i e0 ≤ b := by
          have h1 := seg_split (ns := ns) (i := i) (e := e0) (n := i + p.length) (by omega) he0.1 (by omega)
          have h2 := seg_nn hnn e0 (i + p.length)
          omega
        obtain ⟨v0, hv0⟩ := T_some (w := 0) (ns := ns) (k := k) (i := e0) (by omega)
        have hall0 : ∀ x ∈ ns.drop e0, x ≤ b := fun x hx => ha x (by rw [drop_seg (ns := ns) (Nat.le_of_lt he0.2.2)]; exact List.mem_append_right _ hx)
        have hg0 : gp b (ns.drop e0) ≤ k + 1 := by
          by_cases c : i + p.length ≤ ns.length - k - 1
          · have ee : e0 = i + p.length := by simp only [e0]; omega
            have ed : ns.drop e0 = ps.flatten := by
              rw [ee, ← List.drop_drop, ← p1, List.drop_left' rfl]
            rw [ed]
            have := gp_le (b := b) _ ps rfl (fun q hq x hx => hd x (by rw [← p1]; exact List.mem_append_right _ (List.mem_flatten.mpr ⟨q, hq, hx⟩))) fun q hq => (p2 q (List.mem_cons_of_mem _ hq)).2
            omega
          · have ee : e0 = ns.length - k - 1 := by simp only [e0]; omega
            have hgl := gp_len hall0
            rw [List.length_drop] at hgl
            omega
        have h6 := (T_iff0 hnn b (by omega) hv0).mpr ⟨hall0, hg0⟩
        have h7 := hle e0 v0 he0.2.2 (by omega) hv0
        unfold Le both at h7
        rw [if_pos rfl, if_pos rfl] at h7
        omega
structure Back (ns : List Int) (t : Int) (m l x : Nat) : Prop where
  le : x + l ≤ ns.length
  ge : 1 ≤ l → m - l ≤ x
  at0 : l = 0 → x = ns.length
  fit : ∀ j, l = j + 1 → ∃ v, T 0 ns j x = some v ∧ v ≤ t
  no : ∀ j, l = j + 1 → ∀ i, m - l ≤ i → i < x → ∀ v, T 0 ns j i = some v → t < v
theorem Back.start (ns : List Int) (t : Int) (m : Nat) : Back ns t m 0 ns.length := ⟨by omega, fun h => by omega, fun _ => rfl, fun j h => by omega, fun j h => by omega⟩
theorem seg_mono {ns : List Int} (hnn : ∀ n ∈ ns, 0 ≤ n) {i j e : Nat} (h1 : i ≤ j) (h2 : j ≤ e) (h3 : e ≤ ns.length) : seg ns j e ≤ seg ns i e := by
  have := seg_split (ns := ns) h1 h2 h3
  have := seg_nn hnn i j
  omega
theorem seg_mono' {ns : List Int} (hnn : ∀ n ∈ ns, 0 ≤ n) {i e f : Nat} (h1 : i ≤ e) (h2 : e ≤ f) (h3 : f ≤ ns.length) : seg ns i e ≤ seg ns i f := by
  have := seg_split (ns := ns) h1 h2 h3
  have := seg_nn hnn e f
  omega
theorem Back.step {ns : List Int} (hnn : ∀ n ∈ ns, 0 ≤ n) {t : Int} {m l x y : Nat} (h : Back ns t m l x) (hl : l + 1 < m) (hm : m ≤ ns.length) (h1 : m - l - 1 ≤ y) (h2 : y < x) (h3 : seg ns y x ≤ t) (h4 : y = m - l - 1 ∨ (1 ≤ y ∧ t < seg ns (y - 1) x)) : Back ns t m (l + 1) y := by
  have hx := h.le
  refine ⟨by omega, fun _ => by omega, fun z => by omega, fun j hj => ?_, fun j hj i hi1 hi2 v hv => ?_⟩
  · have : j = l := by omega
    subst this
    cases j with
    | zero =>
      have := h.at0 rfl
      subst this
      exact ⟨seg ns y ns.length, by simp only [T]; rw [if_pos h2], h3⟩
    | succ j =>
      obtain ⟨v, hv, hvt⟩ := h.fit j rfl
      obtain ⟨u, hu⟩ := T_some (w := 0) (ns := ns) (k := j + 1) (i := y) (by omega)
      have := (T_mem hu).2 x v h2 (by omega) hv
      unfold Le both at this
      rw [if_pos rfl, if_pos rfl] at this
      exact ⟨u, hu, by omega⟩
  · have : j = l := by omega
    subst this
    have hy : 1 ≤ y ∧ t < seg ns (y - 1) x := by
      rcases h4 with z | z
      · omega
      · exact z
    have hge : seg ns (y - 1) x ≤ seg ns i x := seg_mono hnn (by omega) (by omega) (by omega)
    cases j with
    | zero =>
      have := h.at0 rfl
      subst this
      simp only [T] at hv
      rw [if_pos (by omega)] at hv
      have := Option.some.inj hv
      omega
    | succ j =>
      refine Classical.byContradiction fun hn => ?_
      obtain ⟨⟨e, u, he1, he2, hu, hvu⟩, _⟩ := T_mem hv
      unfold both at hvu
      rw [if_pos rfl] at hvu
      have hxe : x ≤ e := by
        refine Classical.byContradiction fun z => ?_
        have := h.no j rfl e (by omega) (by omega) u hu
        omega
      have := seg_mono' hnn (i := i) (e := x) (f := e) (by omega) hxe (by omega)
      omega
theorem Back.top {ns : List Int} (hnn : ∀ n ∈ ns, 0 ≤ n) {t : Int} {m x : Nat} (h : Back ns t m (m - 1) x) (hm : 2 ≤ m) (hmn : m ≤ ns.length) (hT : T 0 ns (m - 1) 0 = some t) : 0 < x ∧ seg ns 0 x ≤ t := by
  obtain ⟨j, hj⟩ : ∃ j, m - 1 = j + 1 := ⟨m - 2, by omega⟩
  have hg := h.ge (by omega)
  rw [hj] at hT
  obtain ⟨⟨e, u, he1, he2, hu, hvu⟩, _⟩ := T_mem hT
  unfold both at hvu
  rw [if_pos rfl] at hvu
  have hxe : x ≤ e := by
    refine Classical.byContradiction fun z => ?_
    have := h.no j hj e (by omega) (by omega) u hu
    omega
  have := seg_mono' hnn (i := 0) (e := x) (f := e) (by omega) hxe (by omega)
  exact ⟨by omega, by omega⟩
end M7
set_option linter.all false
namespace M34
open M5 M10 M11
theorem seg_le {ns : List Int} (hnn : ∀ n ∈ ns, 0 ≤ n) {a i e b : Nat} (h1 : a ≤ i) (h2 : i ≤ e) (h3 : e ≤ b) (h4 : b ≤ ns.length) : seg ns i e ≤ seg ns a b := by
  have e1 := seg_split (ns := ns) (i := a) (e := i) (n := b) h1 (by omega) h4
  have e2 := seg_split (ns := ns) (i := i) (e := e) (n := b) h2 h3 h4
  have := seg_nn hnn a i
  have := seg_nn hnn e b
  omega
theorem seg_same (ns : List Int) (i : Nat) : seg ns i i = 0 := by
  have : ((ns.drop i).take 0).sum = seg ns i (i + 0) := seg_take
  simpa using this.symm
theorem slice_seg {ns : List Int} {x y : Nat} (h : x ≤ y) : ((ns.drop x).take (y - x)).sum = seg ns x y := by
  rw [seg_take, show x + (y - x) = y by omega]
def gaps (ns : List Int) : Nat → List Nat → List Int
  | b, [] => [seg ns b ns.length]
  | b, p :: ps => seg ns b p :: gaps ns (p + 1) ps
theorem gaps_len (ns : List Int) : ∀ (ps : List Nat) (b : Nat), (gaps ns b ps).length = ps.length + 1
  | [], _ => rfl
  | p :: ps, b => by simp only [gaps, List.length_cons, gaps_len ns ps]
theorem gaps_ne (ns : List Int) (ps : List Nat) (b : Nat) : gaps ns b ps ≠ [] := fun z => by have := gaps_len ns ps b; rw [z] at this; simp at this
theorem gaps_at (ns : List Int) : ∀ (ps : List Nat) (b j x y : Nat), (b :: ps.map (· + 1))[j]? = some x → (ps ++ [ns.length])[j]? = some y → (gaps ns b ps)[j]? = some (seg ns x y)
  | [], b, 0, x, y, h1, h2 => by simp at h1 h2; subst h1; subst h2; rfl
  | [], b, j + 1, x, y, h1, h2 => by simp at h1
  | p :: ps, b, 0, x, y, h1, h2 => by simp at h1 h2; subst h1; subst h2; rfl
  | p :: ps, b, j + 1, x, y, h1, h2 => by
    simp only [List.map_cons, List.getElem?_cons_succ] at h1
    simp only [List.cons_append, List.getElem?_cons_succ] at h2
    simp only [gaps, List.getElem?_cons_succ]
    exact gaps_at ns ps (p + 1) j x y h1 h2
structure PlN (qs : List Nat) (n : Nat) : Prop where
  up : qs.Pairwise (· < ·)
  hi : ∀ q ∈ qs, q < n
theorem gaps_cover {ns : List Int} (hnn : ∀ n ∈ ns, 0 ≤ n) {M : Int} : ∀ (qs : List Nat) (b : Nat), qs.Pairwise (· < ·) → (∀ q ∈ qs, b ≤ q ∧ q < ns.length) → (∀ g ∈ gaps ns b qs, g ≤ M) → ∀ i e, b ≤ i → i ≤ e → e ≤ ns.length → (∀ q ∈ qs, ¬ (i ≤ q ∧ q < e)) → seg ns i e ≤ M
  | [], b, _, _, hg, i, e, h1, h2, h3, _ => by
    have := hg (seg ns b ns.length) (by simp [gaps])
    have := seg_le hnn h1 h2 h3 (Nat.le_refl _)
    omega
  | q :: qs, b, hp, hq, hg, i, e, h1, h2, h3, hn => by
    have hq0 := hq q List.mem_cons_self
    obtain ⟨p1, p2⟩ := List.pairwise_cons.mp hp
    by_cases z : e ≤ q
    · have := hg (seg ns b q) (by simp [gaps])
      have := seg_le hnn h1 h2 z (by omega)
      omega
    · have hqi : q < i := by
        rcases Nat.lt_or_ge q i with h | h
        · exact h
        · exact absurd ⟨h, by omega⟩ (hn q List.mem_cons_self)
      exact gaps_cover hnn qs (q + 1) p2 (fun r hr => ⟨p1 r hr, (hq r (List.mem_cons_of_mem _ hr)).2⟩) (fun g hg' => hg g (by simp only [gaps]; exact List.mem_cons_of_mem _ hg')) i e hqi h2 h3 fun r hr => hn r (List.mem_cons_of_mem _ hr)
theorem filter_less {i e q : Nat} (h1 : i ≤ q) (h2 : q < e) : ∀ {qs : List Nat}, q ∈ qs → (qs.filter (decide <| e ≤ ·)).length + 1 ≤ (qs.filter (decide <| i ≤ ·)).length
  | r :: qs, hm => by
    have sub : ∀ l : List Nat, (l.filter (decide <| e ≤ ·)).length ≤ (l.filter (decide <| i ≤ ·)).length := fun l => by
      induction l with
      | nil => simp
      | cons x l ih =>
        by_cases a : e ≤ x
        · rw [List.filter_cons_of_pos (by simpa using a), List.filter_cons_of_pos (by simp; omega)]; simp; exact ih
        · rw [List.filter_cons_of_neg (by simpa using a)]
          by_cases b : i ≤ x
          · rw [List.filter_cons_of_pos (by simpa using b), List.length_cons]; omega
          · rw [List.filter_cons_of_neg (by simpa using b)]; exact ih
    rcases List.mem_cons.mp hm with rfl | hm
    · rw [List.filter_cons_of_neg (by simp; omega), List.filter_cons_of_pos (by simpa using h1), List.length_cons]
      have := sub qs; omega
    · have ih := filter_less h1 h2 hm
      by_cases a : e ≤ r
      · rw [List.filter_cons_of_pos (by simpa using a), List.filter_cons_of_pos (by simp; omega)]; simp; omega
      · rw [List.filter_cons_of_neg (by simpa using a)]
        by_cases b : i ≤ r
        · rw [List.filter_cons_of_pos (by simpa using b), List.length_cons]; omega
        · rw [List.filter_cons_of_neg (by simpa using b)]; exact ih
theorem few {ns : List Int} (hnn : ∀ n ∈ ns, 0 ≤ n) {qs : List Nat} (hq : PlN qs ns.length) {M t : Int} (hg : ∀ g ∈ gaps ns 0 qs, g ≤ M) (ht : M < t) : ∀ (d i : Nat), ns.length - i = d → i ≤ ns.length → G t ns i ≤ (qs.filter (decide <| i ≤ ·)).length := by
  intro d
  induction d using Nat.strongRecOn with
  | ind d ih =>
    intro i hd hi
    rcases G_cases t ns i hi with ⟨h, _⟩ | ⟨e, h1, h2, h3, h4, h5, _⟩
    · omega
    · have hex : ∃ q ∈ qs, i ≤ q ∧ q < e := by
        by_cases z : ∃ q ∈ qs, i ≤ q ∧ q < e
        · exact z
        · have := gaps_cover hnn qs 0 hq.up (fun q hq' => ⟨Nat.zero_le _, hq.hi q hq'⟩) hg i e (Nat.zero_le _) (by omega) h2 fun q hq' hz => z ⟨q, hq', hz⟩
          omega
      obtain ⟨q, hqm, q1, q2⟩ := hex
      have := filter_less q1 q2 hqm
      have := ih (ns.length - e) (by omega) e rfl h2
      omega
theorem paper_ge {ns : List Int} (hnn : ∀ n ∈ ns, 0 ≤ n) {qs : List Nat} (hq : PlN qs ns.length) {M t : Int} {m : Nat} (hg : ∀ g ∈ gaps ns 0 qs, g ≤ M) (hm : m ≤ G t ns 0) (hl : qs.length < m) : t ≤ M := by
  rcases Int.lt_or_le M t with h | h
  · have h1 := few hnn hq hg h ns.length 0 (by omega) (Nat.zero_le _)
    have h2 := List.length_filter_le (decide <| 0 ≤ ·) qs
    omega
  · exact h
theorem short_places {ns : List Int} {b : Int} (hb : 1 ≤ b) : ∀ (d k : Nat), ns.length - k = d → k ≤ ns.length → ∃ qs : List Nat, (sends b k 0 (ns.drop k)).map (· - 1) = qs.map (fun (n : Nat) => (n : Int)) ∧ qs.Pairwise (· < ·) ∧ (∀ q ∈ qs, k ≤ q ∧ q < ns.length) ∧ (∀ g ∈ gaps ns k qs, g < b) := by
  intro d
  induction d using Nat.strongRecOn with
  | ind d ih =>
    intro k hd hk
    rcases G_cases b ns k hk with ⟨_, h, h0⟩ | ⟨e, h1, h2, h3, h4, h5, h6⟩
    · refine ⟨[], by rw [h]; rfl, .nil, by simp, fun g hg => ?_⟩
      simp only [gaps, List.mem_singleton] at hg
      subst hg
      by_cases z : k = ns.length
      · subst z; rw [seg_same]; omega
      · exact h0 ns.length (by omega) (Nat.le_refl _)
    · obtain ⟨qs, q1, q2, q3, q4⟩ := ih (ns.length - e) (by omega) e rfl h2
      refine ⟨(e - 1) :: qs, ?_, ?_, fun q hq => ?_, fun g hg => ?_⟩
      · rw [h6, List.map_cons, List.map_cons, q1]
        congr 1; omega
      · exact List.pairwise_cons.mpr ⟨fun q hq => by have := (q3 q hq).1; omega, q2⟩
      · rcases List.mem_cons.mp hq with rfl | hq
        · omega
        · have := q3 q hq; omega
      · simp only [gaps] at hg
        rcases List.mem_cons.mp hg with rfl | hg
        · by_cases z : e - 1 = k
          · rw [z, seg_same]; omega
          · exact h4 (e - 1) (by omega) (by omega)
        · rw [show e - 1 + 1 = e by omega] at hg; exact q4 g hg
theorem pl_le {qs : List Nat} {n j x y : Nat} (h : PlN qs n) (hx : (0 :: qs.map (· + 1))[j]? = some x) (hy : (qs ++ [n])[j]? = some y) : x ≤ y := by
  cases j with
  | zero => simp at hx; omega
  | succ j =>
    rw [List.getElem?_cons_succ, List.getElem?_map] at hx
    cases e : qs[j]? with
    | none => rw [e] at hx; cases hx
    | some q =>
      rw [e] at hx; cases hx
      have hj : j < qs.length := (List.getElem?_eq_some_iff.mp e).1
      have eq : qs[j] = q := by rw [List.getElem?_eq_getElem hj] at e; exact Option.some.inj e
      by_cases z : j + 1 < qs.length
      · rw [List.getElem?_append_left z, List.getElem?_eq_getElem z] at hy
        cases hy
        have := List.pairwise_iff_getElem.mp h.up j (j + 1) hj z (by omega)
        show q + 1 ≤ _
        omega
      · rw [List.getElem?_append_right (by omega), show j + 1 - qs.length = 0 by omega] at hy
        simp at hy
        have := h.hi q (List.mem_of_getElem? e)
        show q + 1 ≤ _
        omega
end M34
set_option linter.all false
namespace M33
open M5 M10 M11 M7 M34
theorem lcut_cases {b : Int} : ∀ (xs : List Int) (i : Nat) (tot : Int), (lcut b i tot xs = [] ∧ (tot ≤ b → tot + xs.sum ≤ b)) ∨
    ∃ j, j < xs.length ∧ (tot ≤ b → tot + (xs.take j).sum ≤ b) ∧ tot + (xs.take (j + 1)).sum > b ∧ lcut b i tot xs = ((i + j : Nat) : Int) :: lcut b (i + j + 1) (xs.getD j 0) (xs.drop (j + 1))
  | [], i, tot => .inl ⟨rfl, fun h => by simpa using h⟩
  | x :: xs, i, tot => by
    by_cases h : tot + x > b
    · refine .inr ⟨0, by simp, fun h0 => by simpa using h0, by simpa using h, ?_⟩
      simp only [lcut, h, if_true]
      simp
    · rcases lcut_cases (b := b) xs (i + 1) (tot + x) with ⟨e, hl⟩ | ⟨j, h1, h2, h3, h4⟩
      · refine .inl ⟨by simp only [lcut, h, if_false, e], fun _ => ?_⟩
        rw [List.sum_cons]
        have := hl (by omega); omega
      · refine .inr ⟨j + 1, by simp; omega, fun _ => ?_, ?_, ?_⟩
        · rw [List.take_succ_cons, List.sum_cons]; have := h2 (by omega); omega
        · rw [List.take_succ_cons, List.sum_cons]; omega
        · simp only [lcut, h, if_false, h4, List.drop_succ_cons]
          rw [show i + 1 + j = i + (j + 1) by omega]
          simp
def StrN (n : Nat) : Nat → List (Nat × Nat) → Prop
  | _, [] => True
  | l, (x, y) :: ss => l ≤ x ∧ x + 2 ≤ y ∧ y ≤ n ∧ StrN n (y - 1) ss
theorem cut_str {b : Int} {ns : List Int} (hnn : ∀ n ∈ ns, 0 ≤ n) (hb : ∀ n ∈ ns, n ≤ b) : ∀ (d k p : Nat), ns.length - k = d → p < k → k ≤ ns.length → seg ns p k ≤ b → ∀ m, m ≤ (lcut b k (seg ns p k) (ns.drop k)).length →
    ∃ ss : List (Nat × Nat), ss.length = m ∧ StrN ns.length p ss ∧ (∀ s ∈ ss, b < seg ns s.1 s.2) ∧ (∀ j s, ss[j]? = some s → ((p : Int) :: lcut b k (seg ns p k) (ns.drop k))[j]? = some (s.1 : Int) ∧ ((p : Int) :: lcut b k (seg ns p k) (ns.drop k))[j + 1]? = some ((s.2 : Int) - 1)) := by
  intro d
  induction d using Nat.strongRecOn with
  | ind d ih =>
    intro k p hd hpk hk hs m hm
    cases m with
    | zero => exact ⟨[], rfl, trivial, by simp, by simp⟩
    | succ m =>
      rcases lcut_cases (b := b) (ns.drop k) k (seg ns p k) with ⟨e, _⟩ | ⟨j, h1, h2, h3, h4⟩
      · rw [e] at hm; simp at hm
      · have hlen : (ns.drop k).length = ns.length - k := List.length_drop
        have s2 : seg ns p (k + j) ≤ b := by
          have := h2 hs
          rw [seg_take] at this
          rw [seg_split (ns := ns) (i := p) (e := k) (n := k + j) (by omega) (by omega) (by omega)]; exact this
        have s3 : b < seg ns p (k + j + 1) := by
          rw [seg_take] at h3
          have e1 := seg_split (ns := ns) (i := p) (e := k) (n := k + j + 1) (by omega) (by omega) (by omega)
          rw [show k + (j + 1) = k + j + 1 by omega] at h3
          omega
        have sg : (ns.drop k).getD j 0 = seg ns (k + j) (k + j + 1) := by
          have hkj : k + j < ns.length := by omega
          rw [seg_step (show k + j < k + j + 1 by omega) (by omega), seg_self]
          rw [List.getD_eq_getElem?_getD, List.getElem?_drop, List.getD_eq_getElem?_getD, Int.add_zero]
        have hd2 : (ns.drop k).drop (j + 1) = ns.drop (k + j + 1) := by rw [List.drop_drop]; congr 1
        have s1 : seg ns (k + j) (k + j + 1) ≤ b := by
          rw [← sg, List.getD_eq_getElem?_getD, List.getElem?_drop]
          have hkj : k + j < ns.length := by omega
          rw [List.getElem?_eq_getElem hkj]
          exact hb _ (List.getElem_mem hkj)
        rw [h4, sg, hd2] at hm
        obtain ⟨ss, q1, q2, q3, q4⟩ := ih (ns.length - (k + j + 1)) (by omega) (k + j + 1) (k + j) rfl (by omega) (by omega) s1 m (by simpa using hm)
        have pk : p + 2 ≤ k + j + 1 := by
          by_cases z : k + j + 1 = p + 1
          · have : k + j = p := by omega
            omega
          · omega
        refine ⟨(p, k + j + 1) :: ss, by simp [q1], ⟨Nat.le_refl _, pk, by omega, by rw [Nat.add_sub_cancel]; exact q2⟩, fun s hs' => ?_, fun i s hi => ?_⟩
        · rcases List.mem_cons.mp hs' with rfl | hs'
          · exact s3
          · exact q3 s hs'
        · rw [h4, sg, hd2]
          cases i with
          | zero => simp at hi; subst hi; exact ⟨by simp, by simp⟩
          | succ i =>
            rw [List.getElem?_cons_succ] at hi
            have := q4 i s hi
            simpa using this
theorem str_lt {n : Nat} : ∀ {ss : List (Nat × Nat)} {l : Nat}, StrN n l ss → ∀ s ∈ ss, l ≤ s.1 ∧ s.1 + 2 ≤ s.2 ∧ s.2 ≤ n
  | (x, y) :: ss, l, ⟨h1, h2, h3, h4⟩, s, hs => by
    rcases List.mem_cons.mp hs with rfl | hs
    · exact ⟨h1, h2, h3⟩
    · have := str_lt h4 s hs; omega
def from_ (i : Nat) (ss : List (Nat × Nat)) : Nat := (ss.filter (fun s => decide (i ≤ s.1))).length
theorem from_one {n i e : Nat} : ∀ {ss : List (Nat × Nat)} {l : Nat}, StrN n l ss → (∀ s ∈ ss, i ≤ s.1 → e < s.2) → from_ i ss ≤ from_ e ss + 1
  | [], _, _, _ => Nat.zero_le _
  | (x, y) :: ss, l, ⟨h1, h2, h3, h4⟩, hx => by
    have ih := from_one h4 fun s hs => hx s (List.mem_cons_of_mem _ hs)
    unfold from_ at ih ⊢
    by_cases a : e ≤ x
    · by_cases b : i ≤ x
      · rw [List.filter_cons_of_pos (by simpa using b), List.filter_cons_of_pos (by simpa using a)]; simp; omega
      · rw [List.filter_cons_of_neg (by simpa using b), List.filter_cons_of_pos (by simpa using a)]; simp; omega
    · rw [List.filter_cons_of_neg (p := fun s : Nat × Nat => decide (e ≤ s.1)) (by simpa using a)]
      by_cases b : i ≤ x
      · rw [List.filter_cons_of_pos (by simpa using b)]
        have hy := hx (x, y) List.mem_cons_self b
        have all : ∀ s ∈ ss, e ≤ s.1 := fun s hs => by have := (str_lt h4 s hs).1; omega
        have e1 : ss.filter (fun s => decide (e ≤ s.1)) = ss := List.filter_eq_self.mpr fun s hs => by simpa using all s hs
        have e2 := List.length_filter_le (fun s : Nat × Nat => decide (i ≤ s.1)) ss
        rw [e1, List.length_cons]; omega
      · rw [List.filter_cons_of_neg (by simpa using b)]; exact ih
theorem paper_le {ns : List Int} (hnn : ∀ n ∈ ns, 0 ≤ n) {b M : Int} (hb : b < M) {ss : List (Nat × Nat)} (hs : StrN ns.length 0 ss) (hM : ∀ s ∈ ss, M ≤ seg ns s.1 s.2) : ∀ (ps : List (List Int)) (i : Nat), ps.flatten = ns.drop i → i < ns.length → (∀ p ∈ ps, p.sum ≤ b) → from_ i ss + 1 ≤ ps.length
  | [], i, hf, hi, _ => by
    have := congrArg List.length hf
    simp at this; omega
  | p :: ps, i, hf, hi, hp => by
    have hpb := hp p List.mem_cons_self
    rw [List.flatten_cons] at hf
    have hlen := congrArg List.length hf
    rw [List.length_append, List.length_drop] at hlen
    have hpe : p = (ns.drop i).take p.length := by rw [← hf, List.take_left' rfl]
    have hps : p.sum = seg ns i (i + p.length) := by rw [← seg_take, ← hpe]
    have hrest : ps.flatten = ns.drop (i + p.length) := by rw [← List.drop_drop, ← hf, List.drop_left' rfl]
    have key : ∀ s ∈ ss, i ≤ s.1 → i + p.length < s.2 := fun s hs' h1 => by
      rcases Nat.lt_or_ge (i + p.length) s.2 with z | z
      · exact z
      · have h2 := str_lt hs s hs'
        have := seg_le hnn (a := i) (i := s.1) (e := s.2) (b := i + p.length) h1 (by omega) z (by omega)
        have := hM s hs'
        omega
    by_cases z : i + p.length < ns.length
    · have ih := paper_le hnn hb hs hM ps (i + p.length) hrest z fun q hq => hp q (List.mem_cons_of_mem _ hq)
      have := from_one (e := i + p.length) hs key
      rw [List.length_cons]; omega
    · have e0 : from_ i ss = 0 := by
        unfold from_
        rw [List.length_eq_zero_iff, List.filter_eq_nil_iff]
        intro s hs' hc
        have := key s hs' (by simpa using hc)
        have := (str_lt hs s hs').2.2
        omega
      rw [e0, List.length_cons]; omega
theorem paper_says {ns : List Int} (hnn : ∀ n ∈ ns, 0 ≤ n) (hne : ns ≠ []) {t M : Int} {m : Nat} (ht : ∀ x ∈ ns, x ≤ t) (hg : gp t ns ≤ m) {ss : List (Nat × Nat)} (hs : StrN ns.length 0 ss) (hl : ss.length = m) (hM : ∀ s ∈ ss, M ≤ seg ns s.1 s.2) : M ≤ t := by
  rcases Int.lt_or_le t M with h | h
  · obtain ⟨ps, p1, p2, p3⟩ := decomp (b := t) ns.length ns rfl hnn ht
    have hpos : 0 < ns.length := List.length_pos_iff.mpr hne
    have := paper_le hnn h hs hM ps 0 (by rw [List.drop_zero]; exact p1) hpos fun p hp => (p2 p hp).2
    have e : from_ 0 ss = ss.length := by
      unfold from_
      rw [List.filter_eq_self.mpr fun s _ => by simp]
    omega
  · exact h
end M33
set_option linter.all false
namespace M9
open M3 M5 M10 M11 M7 M34 M33
theorem pcs_flat (ns : List Int) : ∀ (cs : List Nat) (b : Nat), cs.Pairwise (· < ·) → (∀ c ∈ cs, b ≤ c ∧ c ≤ ns.length) → (pcs ns b cs).flatten = ns.drop b
  | [], b, _, _ => by simp [pcs]
  | c :: cs, b, hp, h => by
    obtain ⟨p1, p2⟩ := List.pairwise_cons.mp hp
    have hc := h c List.mem_cons_self
    have ih := pcs_flat ns cs c p2 fun d hd => ⟨Nat.le_of_lt (p1 d hd), (h d (List.mem_cons_of_mem _ hd)).2⟩
    simp only [pcs, List.flatten_cons, ih]
    have : ns.drop c = (ns.drop b).drop (c - b) := by rw [List.drop_drop]; congr 1; omega
    rw [this, List.take_append_drop]
end M9
set_option linter.all false
namespace M12
open M3 M5 M10 M11 M7 M34 M33 M9
theorem G_ge {ns : List Int} (hnn : ∀ n ∈ ns, 0 ≤ n) {b : Int} : ∀ (ps : List (List Int)) (i : Nat), i ≤ ns.length → ps.flatten = ns.drop i → (∀ p ∈ ps, p ≠ [] ∧ b ≤ p.sum) → ps.length ≤ G b ns i
  | [], _, _, _, _ => Nat.zero_le _
  | p :: ps, i, hi, hf, hp => by
    obtain ⟨hpe, hpb⟩ := hp p List.mem_cons_self
    rw [List.flatten_cons] at hf
    have hlen := congrArg List.length hf
    rw [List.length_append, List.length_drop] at hlen
    have hpl : 0 < p.length := List.length_pos_iff.mpr hpe
    have hpq : p = (ns.drop i).take p.length := by rw [← hf, List.take_left' rfl]
    have hps : p.sum = seg ns i (i + p.length) := by rw [← seg_take, ← hpq]
    have hrest : ps.flatten = ns.drop (i + p.length) := by rw [← List.drop_drop, ← hf, List.drop_left' rfl]
    have ih := G_ge hnn ps (i + p.length) (by omega) hrest fun q hq => hp q (List.mem_cons_of_mem _ hq)
    rcases G_cases b ns i hi with ⟨_, _, h0⟩ | ⟨e, h1, h2, h3, h4, h5, _⟩
    · have := h0 (i + p.length) (by omega) (by omega); omega
    · have he : e ≤ i + p.length := by
        rcases Nat.lt_or_ge (i + p.length) e with z | z
        · have := h4 (i + p.length) (by omega) z; omega
        · exact z
      have hm := G_mono (b := b) hnn (i + p.length - e) e
      rw [show e + (i + p.length - e) = i + p.length by omega] at hm
      rw [List.length_cons]; omega
theorem short_ok {ns : List Int} (hnn : ∀ n ∈ ns, 0 ≤ n) {b : Int} : ∀ (j k : Nat), k < ns.length → j < (sends b k 0 (ns.drop k)).length → ∃ cs : List Nat, (sends b k 0 (ns.drop k)).take j = cs.map (fun (n : Nat) => (n : Int)) ∧ cs.length = j ∧ cs.Pairwise (· < ·) ∧ (∀ x ∈ cs, k < x ∧ x < ns.length) ∧ ∀ q ∈ pcs ns k cs, b ≤ q.sum
  | 0, k, hk, hj => by
    refine ⟨[], rfl, rfl, .nil, by simp, fun q hq => ?_⟩
    simp only [pcs, List.mem_singleton] at hq
    subst hq
    rcases G_cases b ns k (by omega) with ⟨_, h, _⟩ | ⟨e, h1, h2, h3, h4, h5, _⟩
    · rw [h] at hj; simp at hj
    · rw [← seg_all]
      have := seg_le hnn (a := k) (i := k) (e := e) (b := ns.length) (Nat.le_refl _) (by omega) h2 (Nat.le_refl _)
      omega
  | j + 1, k, hk, hj => by
    rcases G_cases b ns k (by omega) with ⟨_, h, _⟩ | ⟨e, h1, h2, h3, h4, h5, h6⟩
    · rw [h] at hj; simp at hj
    · rw [h6, List.length_cons] at hj
      have hen : e < ns.length := by
        rcases Nat.lt_or_ge e ns.length with z | z
        · exact z
        · rw [List.drop_eq_nil_of_le z] at hj; simp [sends] at hj
      obtain ⟨cs, q1, q2, q3, q4, q5⟩ := short_ok hnn (b := b) j e hen (by omega)
      refine ⟨e :: cs, by rw [h6, List.take_succ_cons, q1]; rfl, by simp [q2], List.pairwise_cons.mpr ⟨fun x hx => (q4 x hx).1, q3⟩, fun x hx => ?_, fun q hq => ?_⟩
      · rcases List.mem_cons.mp hx with rfl | hx
        · exact ⟨h1, hen⟩
        · have := q4 x hx; omega
      · simp only [pcs] at hq
        rcases List.mem_cons.mp hq with rfl | hq
        · rw [slice_seg (by omega)]; omega
        · exact q5 q hq
theorem pcs_ne (ns : List Int) : ∀ (cs : List Nat) (b : Nat), b < ns.length → cs.Pairwise (· < ·) → (∀ c ∈ cs, b < c ∧ c < ns.length) → ∀ p ∈ pcs ns b cs, p ≠ []
  | [], b, hb, _, _, p, hp => by
    simp only [pcs, List.mem_singleton] at hp
    subst hp
    exact fun z => by have := congrArg List.length z; simp at this; omega
  | c :: cs, b, hb, hpw, h, p, hp => by
    obtain ⟨p1, p2⟩ := List.pairwise_cons.mp hpw
    have hc := h c List.mem_cons_self
    simp only [pcs] at hp
    rcases List.mem_cons.mp hp with rfl | hp
    · exact fun z => by have := congrArg List.length z; simp at this; omega
    · exact pcs_ne ns cs c hc.2 p2 (fun d hd => ⟨p1 d hd, (h d (List.mem_cons_of_mem _ hd)).2⟩) p hp
theorem G_len (b : Int) (ns : List Int) : (sends b 0 0 ns).length = G b ns 0 := by unfold G cnt; rw [List.drop_zero]
end M12
set_option linter.all false
namespace M25
def S (ns : List Int) (i : Nat) : Int := (ns.take i).sum
def Path (w : Nat → Nat → Int) : Nat → Nat → Nat → Int → Prop
  | 0, b, e, c => b = e ∧ c = 0
  | k + 1, b, e, c => ∃ m c', b < m ∧ Path w k m e c' ∧ c = w b m + c'
section
variable {w : Nat → Nat → Int}
def Least (w : Nat → Nat → Int) (k b e : Nat) (v : Int) : Prop := Path w k b e v ∧ ∀ c, Path w k b e c → v ≤ c
end
def sq (ns : List Int) (b e : Nat) : Int := (S ns e - S ns b) ^ 2
structure Some_ (ns l : List Int) (i t upto : Nat) (vs : List Int) : Prop where
  a : ∀ v ∈ vs, ∃ m, i ≤ m ∧ m < upto ∧ 0 ≤ l.getD m 0 ∧ v = l.getD m 0 + sq ns m t
  b : ∀ m, i ≤ m → m < upto → 0 ≤ l.getD m 0 → l.getD m 0 + sq ns m t ∈ vs
end M25
set_option linter.all false
namespace M25
section
variable {w : Nat → Nat → Int}
def Hit (w : Nat → Nat → Int) (n k b e : Nat) : Prop := ∃ v u, Least w (k - 1) e n v ∧ Least w k b n u ∧ w b e + v = u
def Step (w : Nat → Nat → Int) (n k b e : Nat) : Prop := b < e ∧ Hit w n k b e ∧ ∀ e', b < e' → e' < e → ¬ Hit w n k b e'
inductive Chain (w : Nat → Nat → Int) (n m : Nat) : Nat → List Nat → Nat → Prop where
  | nil : Chain w n m 0 [] 0
  | snoc {i b e : Nat} {cs : List Nat} (h : Chain w n m i cs b) (s : Step w n (m - i) b e) : Chain w n m (i + 1) (cs ++ [e]) e
end
end M25
set_option linter.all false
namespace M25
section
variable {w : Nat → Nat → Int}
end
end M25
namespace M39
open M3
structure PlR (qs : List Nat) (n : Nat) : Prop where
  up : qs.Pairwise (· < ·)
  hi : ∀ q ∈ qs, q < n
  ne : 1 ≤ qs.length
theorem era_perm : ∀ (l : List Nat) (k y : Nat), l[k]? = some y → (y :: l.eraseIdx k).Perm l
  | [], _, _, h => by simp at h
  | x :: l, 0, y, h => by
    obtain rfl : x = y := by simpa using h
    exact List.Perm.refl _
  | x :: l, k + 1, y, h => (List.Perm.swap x y _).trans ((era_perm l k y (by simpa using h)).cons x)
theorem draw_place {fs ls : List Nat} {n k y : Nat} (hp : (fs ++ ls).Perm (List.range n)) (hk : ls[k]? = some y) : ((fs ++ [y]) ++ ls.eraseIdx k).Perm (List.range n) := by
  refine List.Perm.trans ?_ hp
  rw [List.append_assoc]
  refine List.Perm.append_left _ ?_
  exact era_perm ls k y hk
end M39
set_option linter.all false
namespace M40
open M3 M25 M39
def Kr (s : Nat → Int) (t u : Int) : Nat → List Nat → Prop
  | b, [] => t - s b ≤ u
  | b, c :: cs => s c - s b ≤ u ∧ Kr s t u c cs
section
variable {s s' : Nat → Int} {t t' u : Int}
end
section
variable {ns : List Int} {u : Int}
def RK (ns : List Int) (u : Int) : List Nat → Prop
  | [] => False
  | f :: rest => Kr (S ns) (S ns ns.length + S ns f) u f rest
end
def Ahead : List Nat → List Nat → Prop
  | x :: xs, y :: ys => x < y ∨ x = y ∧ Ahead xs ys
  | _, _ => False
structure RB (ns : List Int) (m : Nat) (v : Int) (qs : List Nat) : Prop where
  pl : PlR qs ns.length
  len : qs.length = m
  keep : RK ns v qs
  least : ∀ qs' u, PlR qs' ns.length → qs'.length = m → RK ns u qs' → v ≤ u
  first : ∀ qs', PlR qs' ns.length → qs'.length = m → RK ns v qs' → ¬ Ahead qs' qs
theorem row_room {n : Nat} : ∀ (cs : List Nat) (b : Nat), (b :: cs).Pairwise (· < ·) → (∀ c ∈ b :: cs, c < n) → b + cs.length + 1 ≤ n
  | [], b, _, h => by have := h b (by simp); simp; omega
  | c :: cs, b, hp, h => by
    obtain ⟨p1, p2⟩ := List.pairwise_cons.mp hp
    have := row_room cs c p2 fun x hx => h x (List.mem_cons_of_mem _ hx)
    have := p1 c (by simp)
    rw [List.length_cons]; omega
end M40
set_option linter.all false
namespace M40
open M3 M25 M39
theorem T_le {ns : List Int} {u : Int} : ∀ (k i : Nat) (cs : List Nat), cs.length = k → cs.Pairwise (· < ·) → (∀ c ∈ cs, i < c ∧ c < ns.length) → i < ns.length → (∀ p ∈ pcs ns i cs, p.sum ≤ u) → ∃ v, M11.T 0 ns k i = some v ∧ v ≤ u
  | 0, i, cs, hl, _, _, hi, h => by
    have : cs = [] := List.length_eq_zero_iff.mp hl
    subst this
    refine ⟨M5.seg ns i ns.length, by simp only [M11.T]; rw [if_pos hi], ?_⟩
    rw [M7.seg_all]
    exact h _ (by simp [pcs])
  | k + 1, i, cs, hl, hp, hc, hi, h => by
    cases cs with
    | nil => simp at hl
    | cons c cs =>
      obtain ⟨p1, p2⟩ := List.pairwise_cons.mp hp
      have hc0 := hc c List.mem_cons_self
      obtain ⟨v, hv, hvu⟩ := T_le k c cs (by simpa using hl) p2 (fun x hx => ⟨p1 x hx, (hc x (List.mem_cons_of_mem _ hx)).2⟩) hc0.2 fun p hp => h p (by simp only [pcs]; exact List.mem_cons_of_mem _ hp)
      have hroom := row_room cs c hp fun x hx => (hc x hx).2
      have hl' : cs.length = k := by simpa using hl
      obtain ⟨t, ht⟩ := M11.T_some (w := 0) (ns := ns) (k := k + 1) (i := i) (by omega)
      have hle := (M11.T_mem ht).2 c v hc0.1 (by omega) hv
      have h1 := h ((ns.drop i).take (c - i)) (by simp [pcs])
      rw [M34.slice_seg (by omega)] at h1
      refine ⟨t, ht, ?_⟩
      unfold M11.Le M11.both at hle
      simp only [if_true] at hle
      omega
structure FB (ns : List Int) (m f : Nat) (v : Int) (qs : List Nat) : Prop where
  pl : PlR qs ns.length
  len : qs.length = m
  keep : RK ns v qs
  least : ∀ cs u, CutN cs (ns.length - f) → cs.length + 1 = m → RK ns u (f :: cs.map (f + ·)) → v ≤ u
  first : ∀ cs, CutN cs (ns.length - f) → cs.length + 1 = m → RK ns v (f :: cs.map (f + ·)) → ¬ Ahead (f :: cs.map (f + ·)) qs
section
variable {ns : List Int} {u : Int}
end
end M40
set_option linter.all false
set_option Elab.async false
set_option maxRecDepth 100000
set_option maxHeartbeats 4000000
namespace L2
open PySem PySem.Spec PyProof.Rows
structure Bl (mg : Str → Option Value) : Prop where
  list : mg "list" = none
  enumerate : mg "enumerate" = none
  int : mg "int" = none
  sum : mg "sum" = none
  range : mg "range" = none
  sorted : mg "sorted" = none
  max : mg "max" = none
  min : mg "min" = none
  len : mg "len" = none
  repr : mg "repr" = none
  isinstance : mg "isinstance" = none
  zip : mg "zip" = none
  bool : mg "bool" = none
  tuple : mg "tuple" = none
  str : mg "str" = none
  dict : mg "dict" = none
  abs : mg "abs" = none
  set : mg "set" = none
theorem boot_int : bootBuiltins "int" = some (.type "int") := by decide +kernel
theorem boot_list : bootBuiltins "list" = some (.type "list") := by decide +kernel
theorem boot_bool : bootBuiltins "bool" = some (.type "bool") := by decide +kernel
theorem boot_tuple : bootBuiltins "tuple" = some (.type "tuple") := by decide +kernel
theorem boot_str : bootBuiltins "str" = some (.type "str") := by decide +kernel
theorem boot_sum' : bootBuiltins "sum" = some (.builtin "sum") := by decide +kernel
theorem boot_max' : bootBuiltins "max" = some (.builtin "max") := by decide +kernel
theorem boot_min' : bootBuiltins "min" = some (.builtin "min") := by decide +kernel
theorem boot_len' : bootBuiltins "len" = some (.builtin "len") := by decide +kernel
theorem boot_sorted' : bootBuiltins "sorted" = some (.builtin "sorted") := by decide +kernel
theorem boot_abs' : bootBuiltins "abs" = some (.builtin "abs") := by decide +kernel
theorem boot_isinstance' : bootBuiltins "isinstance" = some (.builtin "isinstance") := by decide +kernel
def DrawsAt (H : Hp) (d : Addr) : Prop := ∃ ds : List Int, H d = some (.lst (ds.map V.int)) ∧ (∀ x ∈ ds, 0 ≤ x) ∧ ds.length ≤ 1000
theorem DrawsAt.same {H H' : Hp} {d : Addr} (s : Same H H') (x : DrawsAt H d) : DrawsAt H' d := let ⟨ds, q, z⟩ := x; ⟨ds, s _ _ q, z⟩
theorem DrawsAt.kp {H H' : Hp} {d : Addr} {S : List Addr} (s : Kp S H H') (n : d ∉ S) (x : DrawsAt H d) : DrawsAt H' d := let ⟨ds, q, z⟩ := x; ⟨ds, s _ _ n q, z⟩
theorem DrawsAt.ne {H : Hp} {d p : Addr} (x : DrawsAt H d) (hp : H p = none) : d ≠ p := let ⟨_, q, _⟩ := x; ne_of_none q hp
def zq4t (K : PySem.W.Frag) : Sp := fun vs H Q _ => ∃ (a : Addr) (ns : List Int), vs = [.ref a] ∧ SqL K H a (ns.map V.int) ∧ ns.length ≤ 63 ∧ ∀ p H', H p = none → Same H H' → DrawsAt H' p → Q (.ref p) H'
def zqz : Sp := fun vs H Q _ => ∃ (d : Addr) (lim : Int), vs = [.ref d, .int lim] ∧ DrawsAt H d ∧ 0 < lim ∧ ∀ g H', 0 ≤ g → g < lim → DrawsAt H' d → Kp [d] H H' → Q (.int g) H'
structure RowN (ns : List Int) : Prop where
  ne : 1 ≤ ns.length
  le : ns.length ≤ 120
  nn : ∀ n ∈ ns, 0 ≤ n
  ub : ∀ n ∈ ns, n ≤ 1000000000000
def zq68 : Sp := fun vs H Q _ => ∃ (d : Addr) (most : Int), vs = [.ref d, .int most] ∧ DrawsAt H d ∧ 1 ≤ most ∧ most ≤ 120 ∧ ∀ (p : Addr) (ns : List Int) (H' : Hp), RowN ns → (ns.length : Int) ≤ most → DrawsAt H' d → Kp [d] H H' → H' p = some (.lst (ns.map V.int)) → p ≠ d → H p = none → Q (.ref p) H'
def zq48 : Sp := fun vs H Q _ => ∃ (d r : Addr) (ns : List Int), vs = [.ref d, .ref r] ∧ DrawsAt H d ∧ H r = some (.lst (ns.map V.int)) ∧ r ≠ d ∧ 1 ≤ ns.length ∧ ns.length ≤ 1000 ∧ ∀ (m : Nat) (H' : Hp), 1 ≤ m → m ≤ ns.length → DrawsAt H' d → Kp [d] H H' → Q (.int m) H'
end L2
namespace K
open PySem L2
def top (i : Nat) : Stmt := PySem.Challenge.pw_piecebounds_k38_whole_papers_and_cuts.main.body.getD i (.Pass ⟨0, 0, 0, 0⟩)
end K
set_option linter.all false
set_option Elab.async false
set_option maxRecDepth 100000
set_option maxHeartbeats 4000000
namespace K
open PySem L2
section
variable {C : Addr} {P : Program} {w : World} {K : PySem.W.Frag} {mg : Str → Option Value} {base : Heap} {f : Addr} {fd : FuncData}
abbrev zqd : Stmt := top 30
theorem zq15 : FnScope ["script", "draws", "k", "rest", "stir", "many"] ["script"] (defScope zqd) := ⟨rfl, rfl, rfl, by decide +kernel, rfl, by decide +kernel, by decide +kernel⟩
theorem zq9o : Loc (defScope zqd) "draws" := Or.inl (by kernel_rfl)
theorem zqc2 : Loc (defScope zqd) "k" := Or.inl (by kernel_rfl)
theorem zq6j : Loc (defScope zqd) "many" := Or.inl (by kernel_rfl)
theorem zq6k : Loc (defScope zqd) "rest" := Or.inl (by kernel_rfl)
theorem zq4c : Loc (defScope zqd) "stir" := Or.inl (by kernel_rfl)
theorem zq1x : Vis (defScope zqd) "draws" := Or.inl (by kernel_rfl)
theorem zq5u : Vis (defScope zqd) "k" := Or.inl (by kernel_rfl)
theorem zq6l : Vis (defScope zqd) "many" := Or.inl (by kernel_rfl)
theorem zq25 : Vis (defScope zqd) "rest" := Or.inl (by kernel_rfl)
theorem zq5b : Vis (defScope zqd) "script" := Or.inl (by kernel_rfl)
theorem zq1b : Vis (defScope zqd) "stir" := Or.inl (by kernel_rfl)
theorem zqax : (defScope zqd).names.lookup ("abs" : Str) = some NameKind.globalImplicit := by kernel_rfl
theorem zqay : (defScope zqd).names.lookup ("len" : Str) = some NameKind.globalImplicit := by kernel_rfl
theorem zqaz : (defScope zqd).names.lookup ("min" : Str) = some NameKind.globalImplicit := by kernel_rfl
theorem zq9p : (defScope zqd).names.lookup ("range" : Str) = some NameKind.globalImplicit := by kernel_rfl
def zqcx {cdv : Value} {A : Around} {outer : List Env} {s : Shared} {H : Hp} {E : XK} (B : Bl mg) (hr : Room 0 (A.deeper (PyProof.Rows.envOfC "_law_draws" (defScope zqd) s.heap.objs.size f cdv))) :
    { t : TS // QB (cxOf CX0 P w K mg base ["script", "draws", "k", "rest", "stir", "many"] "_law_draws" (defScope zqd) f cdv A outer s H E).nox (defBody zqd) t } :=
  ⟨_, (qb_cons (qs_set (i := 1) zq15.nd rfl zq9o (.inl rfl) (qe_lst qa_nil))
    (qb_mid (qs_for PassesOwn.never rfl (qi_r1 zq9p B.range (qa_cons (qe_cB (kMin (K := K) rfl rfl) zqaz B.min boot_min' (qa_cons (qe_cB (kLen (K := K) rfl) zqay B.len boot_len' (qa_cons (qv 0 rfl zq5b) qa_nil)) (qa_cons qe_int qa_nil))) qa_nil)) (qg_name (i := 2) zq15.nd rfl zqc2 (.inl rfl)) (qb_cons (qs_set (i := 3) zq15.nd rfl zq6k (.inl rfl) (qe_cB (callAbs) zqax B.abs boot_abs' (qa_cons (ke_ix (K := K) rfl (qv 0 rfl zq5b) (qv 2 rfl zq5u) (fun _ _ => rfl)) qa_nil)))
    (qb_one (qs_if (qt_cmp opLt (qv 3 rfl zq25) (qe_op opPow qe_int qe_int)) (qb_cons (qs_set (i := 4) zq15.nd rfl zq4c (.inl rfl) (qe_op opMod (qe_op opMul (qe_op opMod (qe_op opAdd (qe_op opAdd (qv 3 rfl zq25) (qe_op opMul qe_int (qv 2 rfl zq5u))) qe_int) qe_int) qe_int) qe_int))
    (qb_cons (qs_set (i := 4) zq15.nd rfl zq4c (.inl rfl) (qe_op opMod (qe_op opMul (qv 4 rfl zq1b) (qv 4 rfl zq1b)) qe_int))
    (qb_cons (qs_ex (ke_m1 (K := K) rfl PySem.F.plainAttrs_list PySem.F.slot_list_append PySem.F.type_list_append mtApp (qv 1 rfl zq1x) (qe_op opMod (qe_op opFdiv (qv 4 rfl zq1b) qe_int) qe_int)))
    (qb_cons (qs_ex (ke_m1 (K := K) rfl PySem.F.plainAttrs_list PySem.F.slot_list_append PySem.F.type_list_append mtApp (qv 1 rfl zq1x) (qe_op opMod (qe_op opFdiv (qv 4 rfl zq1b) qe_int) qe_int)))
    (qb_cons (qs_set (i := 4) zq15.nd rfl zq4c (.inl rfl) (qe_op opMod (qe_op opAdd (qv 4 rfl zq1b) (qe_op opMul qe_int (qe_op opAdd (qv 2 rfl zq5u) qe_int))) qe_int))
    (qb_one (qs_ex (ke_m1 (K := K) rfl PySem.F.plainAttrs_list PySem.F.slot_list_append PySem.F.type_list_append mtApp (qv 1 rfl zq1x) (qe_op opMod (qe_op opFdiv (qe_op opMod (qe_op opMul (qv 4 rfl zq1b) (qv 4 rfl zq1b)) qe_int) qe_int) qe_int))))))))) (qb_cons (qs_set (i := 5) zq15.nd rfl zq6j (.inl rfl) qe_int)
    (qb_one (qs_while PassesOwn.never (QW.pt (qw_and (qt_cmp opGe (qv 3 rfl zq25) qe_int) (qw_and1 (qt_cmp opLt (qv 5 rfl zq6l) qe_int)))) (qb_cons (qs_ex (ke_m1 (K := K) rfl PySem.F.plainAttrs_list PySem.F.slot_list_append PySem.F.type_list_append mtApp (qv 1 rfl zq1x) (qe_op opMod (qv 3 rfl zq25) qe_int)))
    (qb_cons (qs_set (i := 3) zq15.nd rfl zq6k (.inl rfl) (qe_op opFdiv (qv 3 rfl zq25) qe_int))
    (qb_one (qs_set (i := 5) zq15.nd rfl zq6j (.inl rfl) (qe_op opAdd (qv 5 rfl zq6l) qe_int))))))))))))
    (qb_one (qs_ret (ke_slice (K := K) rfl (qv 1 rfl zq1x) qo_none (qo_some qe_int))))))⟩
abbrev zq1d : Stmt := top 31
theorem zqcy : FnScope ["draws", "many"] ["draws", "many"] (defScope zq1d) := ⟨rfl, rfl, rfl, by decide +kernel, rfl, by decide +kernel, by decide +kernel⟩
theorem zq6m : Vis (defScope zq1d) "draws" := Or.inl (by kernel_rfl)
theorem zqb0 : Vis (defScope zq1d) "many" := Or.inl (by kernel_rfl)
def zqd8 {cdv : Value} {A : Around} {outer : List Env} {s : Shared} {H : Hp} {E : XK} (B : Bl mg) (hr : Room 0 (A.deeper (PyProof.Rows.envOfC "_law_take" (defScope zq1d) s.heap.objs.size f cdv))) :
    { t : TS // QB (cxOf CX0 P w K mg base ["draws", "many"] "_law_take" (defScope zq1d) f cdv A outer s H E).nox (defBody zq1d) t } :=
  ⟨_, (qb_cons (qs_if (qt_cmp (kEqG (K := K) rfl hr) (qv 0 rfl zq6m) (qe_lst qa_nil)) (qb_one (qs_ret qe_int)) qb_nil)
    (qb_one (qs_ret (qe_op opMod (ke_m1 (K := K) rfl PySem.F.plainAttrs_list PySem.F.slot_list_pop PySem.F.type_list_pop mtPopAt (qv 0 rfl zq6m) qe_int) (qv 1 rfl zqb0)))))⟩
theorem cutV_ints (ns : List Int) (lo hi : Option Int) : cutV (ns.map V.int) lo hi = ((ns.drop (HT.sIx ns.length 0 lo)).take (HT.sIx ns.length ns.length hi - HT.sIx ns.length 0 lo)).map V.int := by
  unfold cutV
  rw [List.length_map, List.map_take, List.map_drop]
theorem mod_nn (x : Int) {y : Int} (h : 0 < y) : 0 ≤ x % y := Int.emod_nonneg _ (by omega)
def MoreAt (H : Hp) (d : Addr) (n : Nat) : Prop := ∃ ds : List Int, H d = some (.lst (ds.map V.int)) ∧ (∀ x ∈ ds, 0 ≤ x) ∧ ds.length ≤ n
theorem more_app {H : Hp} {d : Addr} {n : Nat} {z : Int} {Q : VK} (h : MoreAt H d n) (hn : n < 50000) (hz : 0 ≤ z) (q : ∀ H', Kp [d] H H' → MoreAt H' d (n + 1) → Q .non H') : hApp d (.int z) H Q := by
  obtain ⟨ds, e, h0, hl⟩ := h
  refine i_appI e (by omega) fun H' k e' => q H' k ⟨ds ++ [z], e', fun x hx => ?_, by simp; omega⟩
  rcases List.mem_append.mp hx with hx | hx
  · exact h0 x hx
  · have : x = z := by simpa using hx
    subst this; exact hz
theorem more_ty {K : PySem.W.Frag} {H : Hp} {d : Addr} {n : Nat} (h : MoreAt H d n) : tyV K "list" (.ref d) H := let ⟨_, e, _⟩ := h; i_tyL e
theorem MoreAt.le {H : Hp} {d : Addr} {n m : Nat} (h : MoreAt H d n) (l : n ≤ m) : MoreAt H d m := let ⟨ds, e, a, b⟩ := h; ⟨ds, e, a, by omega⟩
theorem zqci (B : Bl mg) (F : Fun K "_law_draws" "_law_draws" zqd f fd) : FnOk P w K mg base CX0 1 f fd ["script"] (zq4t K) := by
  refine F.okq zq15 (fun vs H Q E h => ?_) (fun cdv A outer s H vs Q E hr h => ?_)
  · obtain ⟨a, ns, rfl, _⟩ := h; rfl
  obtain ⟨a, ns, rfl, hS, h63, q⟩ := h
  refine ⟨zqcx B  hr, ?_⟩
  refine i_newL (by show 0 ≤ sizeLine; decide) fun d H1 hd s1 e1 => ?_
  refine ⟨fun σ H' => Same H H' ∧ MoreAt H' d 5000 ∧ ∃ o2 o3 o4 o5, σ = [some (.ref a), some (.ref d), o2, o3, o4, o5], ?_, ?_⟩
  · refine i_len (.inl (s1.seq hS)) ?_
    rw [List.length_map]
    refine ⟨⟨by omega, by omega⟩, for_range (fun i σ H' => Same H H' ∧ MoreAt H' d (60 * i) ∧ ∃ o2 o3 o4 o5, σ = [some (.ref a), some (.ref d), o2, o3, o4, o5]) ?_ ?_ ?_⟩
    · exact ⟨s1, ⟨[], e1, by simp, by simp⟩, _, _, _, _, rfl⟩
    · rintro i σ H2 hi ⟨s2, m2, o2, o3, o4, o5, rfl⟩
      have hi' : i < ns.length := by omega
      have hx : (ns.map V.int)[i]? = some (.int ns[i]) := by rw [List.getElem?_map, List.getElem?_eq_getElem hi']; rfl
      refine i_ix (.inl (s2.seq hS)) (v := .int ns[i]) (by rw [show (0 + (i : Int)) = ((i : Nat) : Int) by omega]; exact atI_nat hx) ?_
      have hab : 0 ≤ (if ns[i] < 0 then -ns[i] else ns[i]) := by split <;> omega
      refine ⟨⟨by decide, by decide, by decide⟩, dec2 (fun c => ?_) (fun c => ?_)⟩
      · refine ⟨.inl ⟨by decide, by decide⟩, by decide, .inr ⟨by decide, by decide⟩, by decide, ?_⟩
        have b1 := Int.emod_lt_of_pos (((if ns[i] < 0 then -ns[i] else ns[i]) + 7919 * (0 + (i : Int)) + 3) % 2147483647 * 48271) (show (0 : Int) < 2147483647 by decide)
        have b0 := mod_nn (((if ns[i] < 0 then -ns[i] else ns[i]) + 7919 * (0 + (i : Int)) + 3) % 2147483647 * 48271) (show (0 : Int) < 2147483647 by decide)
        generalize ((if ns[i] < 0 then -ns[i] else ns[i]) + 7919 * (0 + (i : Int)) + 3) % 2147483647 * 48271 % 2147483647 = st at b1 b0
        refine ⟨.inl ⟨by omega, by omega⟩, by decide, ?_⟩
        have c1 := Int.emod_lt_of_pos (st * st) (show (0 : Int) < 2147483629 by decide)
        have c0 := mod_nn (st * st) (show (0 : Int) < 2147483629 by decide)
        generalize st * st % 2147483629 = st at c1 c0
        refine ⟨more_ty m2, ⟨by decide, by decide⟩, by decide, more_app m2 (by omega) (mod_nn _ (by decide)) fun H3 k3 m3 => ?_⟩
        refine ⟨more_ty m3, ⟨by decide, by decide⟩, by decide, more_app m3 (by omega) (mod_nn _ (by decide)) fun H4 k4 m4 => ?_⟩
        refine ⟨.inl ⟨by decide, by decide⟩, by decide, ?_⟩
        have d1 := Int.emod_lt_of_pos (st + 40692 * (0 + (i : Int) + 7)) (show (0 : Int) < 2147483587 by decide)
        have d0 := mod_nn (st + 40692 * (0 + (i : Int) + 7)) (show (0 : Int) < 2147483587 by decide)
        generalize (st + 40692 * (0 + (i : Int) + 7)) % 2147483587 = st at d1 d0
        refine ⟨more_ty m4, .inl ⟨by omega, by omega⟩, by decide, ⟨by decide, by decide⟩, by decide, more_app m4 (by omega) (mod_nn _ (by decide)) fun H5 k5 m5 => ?_⟩
        exact ⟨((s2.new k3 hd).new k4 hd).new k5 hd, m5.le (by omega), _, _, _, _, rfl⟩
      · refine while_m (fun mm σ H' => Same H H' ∧ ∃ (rest : Int) (many : Nat), 0 ≤ rest ∧ many ≤ 60 ∧ mm = 60 - many ∧ MoreAt H' d (60 * i + many) ∧ σ = [some (.ref a), some (.ref d), some (.int (0 + (i : Int))), some (.int rest), o4, some (.int many)]) 60 ⟨s2, (if ns[i] < 0 then -ns[i] else ns[i]), 0, hab, by omega, rfl, m2, rfl⟩ ?_
        rintro mm σ H3 ⟨s3, rest, many, hr0, hm60, hmm, m3, rfl⟩
        refine dec2 (fun c1 => dec2 (fun c2 => ?_) (fun c2 => ?_)) (fun c1 => bF ?_)
        · refine ⟨more_ty m3, by decide, more_app m3 (by omega) (mod_nn _ (by decide)) fun H4 k4 m4 => ?_⟩
          refine ⟨⟨by decide, by decide⟩, ?_⟩
          refine ⟨60 - (many + 1), by omega, s3.new k4 hd, rest / 1000, many + 1, by omega, by omega, rfl, m4, rfl⟩
        · exact ⟨s3, m3.le (by omega), _, _, _, _, rfl⟩
        · exact ⟨s3, m3.le (by omega), _, _, _, _, rfl⟩
    · rintro σ H' ⟨h1, h2, o⟩
      refine ⟨h1, h2.le ?_, o⟩
      omega
  · rintro σ H' ⟨s', ⟨ds, e, h0, hl⟩, o2, o3, o4, o5, rfl⟩
    refine i_sl (SqL.of e) fun p H2 hp s2 e2 => ?_
    rw [cutV_ints] at e2
    refine q p H2 (s'.free hp) (s'.trans s2) ⟨_, e2, fun x hx => h0 x (List.mem_of_mem_drop (List.mem_of_mem_take hx)), ?_⟩
    have e240 : HT.sIx ds.length ds.length (some 240) = min 240 ds.length := HT.sIx_nat ..
    rw [List.length_take, e240]; omega
theorem zqcz (B : Bl mg) (F : Fun K "_law_take" "_law_take" zq1d f fd) : FnOk P w K mg base CX0 1 f fd ["draws", "many"] zqz := by
  refine F.okq zqcy (fun vs H Q E h => ?_) (fun cdv A outer s H vs Q E hr h => ?_)
  · obtain ⟨d, lim, rfl, _⟩ := h; rfl
  obtain ⟨d, lim, rfl, ⟨ds, e, h0, hl⟩, l0, q⟩ := h
  refine ⟨zqd8 B  hr, ?_⟩
  refine i_newL (by show 0 ≤ sizeLine; decide) fun p H1 hp s1 e1 => ?_
  refine i_eqI (ns := ds) (ms := []) (SqL.of (s1 _ _ e)) (SqL.of e1) (dec2 (fun c => ?_) (fun c => ?_))
  · exact q 0 H1 (by omega) l0 ⟨ds, s1 _ _ e, h0, hl⟩ s1.kp
  · cases ds with
    | nil => exact absurd rfl c
    | cons x ds =>
    refine ⟨i_tyL (s1 _ _ e), i_popAt 0 (s1 _ _ e) rfl (by decide) rfl fun H2 k2 e2 => ⟨l0, ?_⟩⟩
    refine q _ H2 (mod_nn _ l0) (Int.emod_lt_of_pos _ l0) ⟨ds, e2, fun y hy => h0 y (List.mem_cons_of_mem _ hy), by simp at hl; omega⟩ (s1.kp.trans k2)
end
end K
set_option linter.all false
set_option Elab.async false
set_option maxRecDepth 100000
set_option maxHeartbeats 4000000
namespace K
open PySem L2
section
variable {C : Addr} {P : Program} {w : World} {K : PySem.W.Frag} {mg : Str → Option Value} {base : Heap} {f : Addr} {fd : FuncData}
abbrev zq2 : Stmt := top 32
theorem zqu : FnScope ["draws", "most", "many", "bases", "base", "mixed", "one", "other", "third", "free", "likes", "found", "k", "at", "turn", "number", "shape"] ["draws", "most"] (defScope zq2) := ⟨rfl, rfl, rfl, by decide +kernel, rfl, by decide +kernel, by decide +kernel⟩
theorem zqcj : Loc (defScope zq2) "at" := Or.inl (by kernel_rfl)
theorem zq7s : Loc (defScope zq2) "base" := Or.inl (by kernel_rfl)
theorem zqb1 : Loc (defScope zq2) "bases" := Or.inl (by kernel_rfl)
theorem zqb2 : Loc (defScope zq2) "found" := Or.inr (by kernel_rfl)
theorem zqbp : Loc (defScope zq2) "free" := Or.inl (by kernel_rfl)
theorem zqd0 : Loc (defScope zq2) "k" := Or.inl (by kernel_rfl)
theorem zqb3 : Loc (defScope zq2) "likes" := Or.inl (by kernel_rfl)
theorem zq7t : Loc (defScope zq2) "many" := Or.inl (by kernel_rfl)
theorem zqb4 : Loc (defScope zq2) "mixed" := Or.inl (by kernel_rfl)
theorem zqa5 : Loc (defScope zq2) "number" := Or.inl (by kernel_rfl)
theorem zqc3 : Loc (defScope zq2) "one" := Or.inl (by kernel_rfl)
theorem zqb5 : Loc (defScope zq2) "other" := Or.inl (by kernel_rfl)
theorem zqb6 : Loc (defScope zq2) "shape" := Or.inl (by kernel_rfl)
theorem zqb7 : Loc (defScope zq2) "third" := Or.inl (by kernel_rfl)
theorem zq7u : Loc (defScope zq2) "turn" := Or.inl (by kernel_rfl)
theorem zq2s : Vis (defScope zq2) "at" := Or.inl (by kernel_rfl)
theorem zq3r : Vis (defScope zq2) "base" := Or.inl (by kernel_rfl)
theorem zq79 : Vis (defScope zq2) "bases" := Or.inl (by kernel_rfl)
theorem zqn : Vis (defScope zq2) "draws" := Or.inl (by kernel_rfl)
theorem zq2f : Vis (defScope zq2) "found" := Or.inr (Or.inl (by kernel_rfl))
theorem zqbq : Vis (defScope zq2) "free" := Or.inl (by kernel_rfl)
theorem zqd1 : Vis (defScope zq2) "k" := Or.inl (by kernel_rfl)
theorem zqb8 : Vis (defScope zq2) "likes" := Or.inl (by kernel_rfl)
theorem zq7v : Vis (defScope zq2) "many" := Or.inl (by kernel_rfl)
theorem zqb9 : Vis (defScope zq2) "mixed" := Or.inl (by kernel_rfl)
theorem zq57 : Vis (defScope zq2) "most" := Or.inl (by kernel_rfl)
theorem zqa6 : Vis (defScope zq2) "number" := Or.inl (by kernel_rfl)
theorem zqc4 : Vis (defScope zq2) "one" := Or.inl (by kernel_rfl)
theorem zqba : Vis (defScope zq2) "other" := Or.inl (by kernel_rfl)
theorem zq4u : Vis (defScope zq2) "shape" := Or.inl (by kernel_rfl)
theorem zqbb : Vis (defScope zq2) "third" := Or.inl (by kernel_rfl)
theorem zq2t : Vis (defScope zq2) "turn" := Or.inl (by kernel_rfl)
theorem zqc : (defScope zq2).names.lookup ("_law_take" : Str) = some NameKind.globalImplicit := by kernel_rfl
theorem zq8o : (defScope zq2).names.lookup ("int" : Str) = some NameKind.globalImplicit := by kernel_rfl
theorem zqc5 : (defScope zq2).names.lookup ("len" : Str) = some NameKind.globalImplicit := by kernel_rfl
theorem zqc6 : (defScope zq2).names.lookup ("min" : Str) = some NameKind.globalImplicit := by kernel_rfl
theorem zqbc : (defScope zq2).names.lookup ("range" : Str) = some NameKind.globalImplicit := by kernel_rfl
theorem zq6n : (defScope zq2).names.lookup ("sorted" : Str) = some NameKind.globalImplicit := by kernel_rfl
def zqdf {cdv : Value} {A : Around} {outer : List Env} {s : Shared} {H : Hp} {E : XK} (B : Bl mg) (zq1 : Def P w K mg base 1 "_law_take" ["draws", "many"] zqz) (hr : Room 1 (A.deeper (PyProof.Rows.envOfC "_law_row" (defScope zq2) s.heap.objs.size f cdv))) :
    { t : TS // QB (cxOf CX0 P w K mg base ["draws", "most", "many", "bases", "base", "mixed", "one", "other", "third", "free", "likes", "found", "k", "at", "turn", "number", "shape"] "_law_row" (defScope zq2) f cdv A outer s H E).nox (defBody zq2) t } :=
  ⟨_, (qb_cons (qs_set (i := 2) zqu.nd rfl zq7t (.inl rfl) (qe_cB (kMin (K := K) rfl rfl) zqc6 B.min boot_min' (qa_cons (qv 1 rfl zq57) (qa_cons (qe_op opAdd qe_int (qe_def zq1 hr (by decide) zqc (qa_cons (qv 0 rfl zqn) (qa_cons qe_int qa_nil)))) qa_nil))))
    (qb_mid (qs_if (qt_cmp (kEqG (K := K) rfl hr) (qe_def zq1 hr (by decide) zqc (qa_cons (qv 0 rfl zqn) (qa_cons qe_int qa_nil))) qe_int) (qb_one (qs_set (i := 2) zqu.nd rfl zq7t (.inl rfl) (ke_ix (K := K) rfl (qe_lst (qa_cons (qv 1 rfl zq57) (qa_cons (qe_op opAdd qe_int (qe_def zq1 hr (by decide) zqc (qa_cons (qv 0 rfl zqn) (qa_cons (qv 1 rfl zq57) qa_nil)))) qa_nil))) (qe_def zq1 hr (by decide) zqc (qa_cons (qv 0 rfl zqn) (qa_cons qe_int qa_nil))) (fun _ _ => rfl)))) qb_nil)
    (qb_cons (qs_set (i := 3) zqu.nd rfl zqb1 (.inl rfl) (qe_lst (qa_cons qe_int (qa_cons qe_int (qa_cons qe_int (qa_cons qe_int (qa_cons qe_int (qa_cons (qe_op opPow qe_int qe_int) (qa_cons (qe_op opPow qe_int qe_int) (qa_cons (qe_op opAdd (qe_op opPow qe_int qe_int) qe_int) qa_nil))))))))))
    (qb_cons (qs_set (i := 4) zqu.nd rfl zq7s (.inl rfl) (ke_ix (K := K) rfl (qv 3 rfl zq79) (qe_def zq1 hr (by decide) zqc (qa_cons (qv 0 rfl zqn) (qa_cons qe_int qa_nil))) (fun _ _ => rfl)))
    (qb_cons (qs_set (i := 5) zqu.nd rfl zqb4 (.inl rfl) (qe_cmp (kEqG (K := K) rfl hr) (qe_def zq1 hr (by decide) zqc (qa_cons (qv 0 rfl zqn) (qa_cons qe_int qa_nil))) qe_int))
    (qb_cons (qs_set (i := 6) zqu.nd rfl zqc3 (.inl rfl) (qe_def zq1 hr (by decide) zqc (qa_cons (qv 0 rfl zqn) (qa_cons qe_int qa_nil))))
    (qb_cons (qs_set (i := 7) zqu.nd rfl zqb5 (.inl rfl) (qe_op opAdd qe_int (qe_def zq1 hr (by decide) zqc (qa_cons (qv 0 rfl zqn) (qa_cons qe_int qa_nil)))))
    (qb_cons (qs_set (i := 8) zqu.nd rfl zqb7 (.inl rfl) (qe_def zq1 hr (by decide) zqc (qa_cons (qv 0 rfl zqn) (qa_cons qe_int qa_nil))))
    (qb_cons (qs_set (i := 9) zqu.nd rfl zqbp (.inl rfl) (qe_cmp (kEqG (K := K) rfl hr) (qe_def zq1 hr (by decide) zqc (qa_cons (qv 0 rfl zqn) (qa_cons qe_int qa_nil))) qe_int))
    (qb_cons (qs_set (i := 10) zqu.nd rfl zqb3 (.inl rfl) (ke_ix (K := K) rfl (qe_lst (qa_cons qe_int (qa_cons qe_int (qa_cons (qe_op opAdd qe_int (qe_def zq1 hr (by decide) zqc (qa_cons (qv 0 rfl zqn) (qa_cons qe_int qa_nil)))) qa_nil)))) (qe_def zq1 hr (by decide) zqc (qa_cons (qv 0 rfl zqn) (qa_cons qe_int qa_nil))) (fun _ _ => rfl)))
    (qb_cons (qs_set (i := 11) zqu.nd rfl zqb2 (.inl rfl) (qe_lst qa_nil))
    (qb_mid (qs_for PassesOwn.never rfl (qi_r1 zqbc B.range (qa_cons (qv 2 rfl zq7v) qa_nil)) (qg_name (i := 12) zqu.nd rfl zqd0 (.inl rfl)) (qb_cons (qs_set (i := 13) zqu.nd rfl zqcj (.inl rfl) (qe_op opFdiv (qv 12 rfl zqd1) (qv 10 rfl zqb8)))
    (qb_cons (qs_set (i := 14) zqu.nd rfl zq7u (.inl rfl) (qe_op opMod (qe_op opAdd (qe_op opAdd (qe_op opAdd (qe_op opMul (qe_op opMul (qv 13 rfl zq2s) (qv 13 rfl zq2s)) (qv 6 rfl zqc4)) (qe_op opMul (qv 13 rfl zq2s) (qv 7 rfl zqba))) (qe_op opMul (qe_op opFdiv (qv 13 rfl zq2s) qe_int) qe_int)) (qv 8 rfl zqbb)) qe_int))
    (qb_mid (qs_if (kt_val (K := K) rfl (qv 5 rfl zqb9)) (qb_one (qs_set (i := 4) zqu.nd rfl zq7s (.inl rfl) (ke_ix (K := K) rfl (qv 3 rfl zq79) (qe_op opMod (qe_op opAdd (qv 14 rfl zq2t) (qe_op opMul (qv 13 rfl zq2s) (qv 13 rfl zq2s))) qe_int) (fun _ _ => rfl)))) qb_nil)
    (qb_mid (qs_if (QW.pt (qw_or (qt_cmp opLt (qv 2 rfl zq7v) qe_int) (qw_or1 (QW.pt (qw_and (kt_val (K := K) rfl (qv 9 rfl zqbq)) (qw_and1 (qt_cmp opGt (qe_cB (kLen (K := K) rfl) zqc5 B.len boot_len' (qa_cons (qv 0 rfl zqn) qa_nil)) qe_int))))))) (qb_one (qs_set (i := 14) zqu.nd rfl zq7u (.inl rfl) (qe_def zq1 hr (by decide) zqc (qa_cons (qv 0 rfl zqn) (qa_cons qe_int qa_nil))))) qb_nil)
    (qb_cons (qs_set (i := 15) zqu.nd rfl zqa5 (.inl rfl) (ke_ix (K := K) rfl (qe_lst (qa_cons (qe_op opMod (qv 14 rfl zq2t) (qv 4 rfl zq3r)) (qa_cons (qe_op opAdd (qe_op opMul (qv 14 rfl zq2t) (qe_op opFdiv (qv 4 rfl zq3r) qe_int)) (qe_op opMod (qv 14 rfl zq2t) qe_int)) qa_nil))) (qe_cT callInt zq8o B.int boot_int (qa_cons (qe_cmp opGt (qv 4 rfl zq3r) qe_int) qa_nil)) (fun _ _ => rfl)))
    (qb_one (qs_ex (ke_m1 (K := K) rfl PySem.F.plainAttrs_list PySem.F.slot_list_append PySem.F.type_list_append mtApp (qv 11 rfl zq2f) (ke_ix (K := K) rfl (qe_lst (qa_cons (qv 15 rfl zqa6) (qa_cons (qe_op opPow qe_int qe_int) qa_nil))) (qe_cT callInt zq8o B.int boot_int (qa_cons (ke_and (K := K) rfl (qe_cmp opGt (qv 4 rfl zq3r) (qe_op opPow qe_int qe_int)) (qe_one (qe_cmp (kEqG (K := K) rfl hr) (qe_op opMod (qv 14 rfl zq2t) qe_int) qe_int))) qa_nil)) (fun _ _ => rfl)))))))))))
    (qb_cons (qs_set (i := 16) zqu.nd rfl zqb6 (.inl rfl) (qe_def zq1 hr (by decide) zqc (qa_cons (qv 0 rfl zqn) (qa_cons qe_int qa_nil))))
    (qb_cons (qs_if (qt_cmp (kEqG (K := K) rfl hr) (qv 16 rfl zq4u) qe_int) (qb_one (qs_ret (qe_cB (kSorted (K := K) rfl) zq6n B.sorted boot_sorted' (qa_cons (qv 11 rfl zq2f) qa_nil)))) qb_nil)
    (qb_cons (qs_if (qt_cmp (kEqG (K := K) rfl hr) (qv 16 rfl zq4u) qe_int) (qb_one (qs_ret (qe_rev (K := K) rfl (qe_cB (kSorted (K := K) rfl) zq6n B.sorted boot_sorted' (qa_cons (qv 11 rfl zq2f) qa_nil)) (qo_some (qe_un unNeg qe_int))))) qb_nil)
    (qb_cons (qs_if (qt_cmp (kEqG (K := K) rfl hr) (qv 16 rfl zq4u) qe_int) (qb_one (qs_ret (qe_cp ["number", "found"] [none, some 11] rfl (ki_list (K := K) rfl (qv 11 rfl zq2f)) (fun _ _ _ _ _ _ => (qg_name (i := 0) (show (["number", "found"] : List Str).Nodup by decide +kernel) rfl (by first | exact Or.inl rfl | exact Or.inr rfl) (by first | exact .inl rfl | exact .inr rfl))) (fun _ _ _ _ _ _ => qif_nil) (fun _ _ _ _ _ _ => (ke_ix (K := K) rfl (qe_lst (qa_cons qe_int (qa_cons (qv 0 rfl (by first | exact Or.inl rfl | exact Or.inr (Or.inl rfl) | exact Or.inr (Or.inr rfl))) qa_nil))) (qe_cT callInt rfl B.int boot_int (qa_cons (qe_cmp (kEqG (K := K) rfl hr) (qv 0 rfl (by first | exact Or.inl rfl | exact Or.inr (Or.inl rfl) | exact Or.inr (Or.inr rfl))) (qe_cB (kMax (K := K) rfl rfl) rfl B.max boot_max' (qa_cons (qv 1 rfl (by first | exact Or.inl rfl | exact Or.inr (Or.inl rfl) | exact Or.inr (Or.inr rfl))) qa_nil))) qa_nil)) (fun _ _ => rfl)))))) qb_nil)
    (qb_one (qs_ret (qv 11 rfl zq2f)))))))))))))))))))⟩
theorem atInts {ns : List Int} {g : Int} (h0 : 0 ≤ g) (h1 : g < ns.length) : ns.getD g.toNat 0 ∈ ns := by
  have hk : g.toNat < ns.length := by omega
  rw [List.getD_eq_getElem?_getD, List.getElem?_eq_getElem hk]
  exact List.getElem_mem hk
theorem at2 {x y : V} {g : Int} (h0 : 0 ≤ g) (h1 : g < 2) : atI [x, y] g = some (if g = 0 then x else y) := by
  have : g = 0 ∨ g = 1 := by omega
  rcases this with rfl | rfl <;> rfl
theorem at3 {x y z : V} {g : Int} (h0 : 0 ≤ g) (h1 : g < 3) : atI [x, y, z] g = some (if g = 0 then x else if g = 1 then y else z) := by
  have : g = 0 ∨ g = 1 ∨ g = 2 := by omega
  rcases this with rfl | rfl | rfl <;> rfl
def bsL : List Int := [1, 2, 3, 10, 100, 10 ^ Int.toNat 5, 10 ^ Int.toNat 9, 10 ^ Int.toNat 12 + 1]
theorem bsL_ok : ∀ z ∈ bsL, 1 ≤ z ∧ z ≤ 1000000000001 := by decide
theorem bsL_at {g : Int} (h0 : 0 ≤ g) (h1 : g < 8) : 1 ≤ bsL.getD g.toNat 0 ∧ bsL.getD g.toNat 0 ≤ 1000000000001 := bsL_ok _ (atInts h0 h1)
theorem num_ok {turn base : Int} (t0 : 0 ≤ turn) (t1 : turn < 9973) (b0 : 1 ≤ base) (b1 : base ≤ 1000000000001) : (0 ≤ turn % base ∧ (¬ 1000 < base → turn % base ≤ 1000)) ∧ 0 ≤ turn * (base / 9973) + turn % 7 ∧ turn * (base / 9973) + turn % 7 ≤ 1000000000000 := by
  have q0 : 0 ≤ base / 9973 := by omega
  have q1 : base / 9973 ≤ 100270731 := by omega
  have m0 : 0 ≤ turn * (base / 9973) := Int.mul_nonneg t0 q0
  have m1 : turn * (base / 9973) ≤ 9972 * 100270731 := Int.mul_le_mul (by omega) q1 q0 (by decide)
  have h7 : 0 ≤ turn % 7 ∧ turn % 7 < 7 := by omega
  have e1 := Int.emod_nonneg turn (show base ≠ 0 by omega)
  have e2 := Int.emod_lt_of_pos turn (show 0 < base by omega)
  refine ⟨⟨e1, fun h => by omega⟩, by omega, by omega⟩
theorem zqd9 (B : Bl mg) (zq1 : Def P w K mg base 1 "_law_take" ["draws", "many"] zqz) (F : Fun K "_law_row" "_law_row" zq2 f fd) : FnOk P w K mg base CX0 2 f fd ["draws", "most"] zq68 := by
  refine F.okq zqu (fun vs H Q E h => ?_) (fun cdv A outer s H vs Q E hr h => ?_)
  · obtain ⟨d, most, rfl, _⟩ := h; rfl
  obtain ⟨d, most, rfl, hd, m1, m2, q⟩ := h
  refine ⟨zqdf B zq1 hr, ?_⟩
  refine ⟨d, 12, rfl, hd, by decide, fun g1 H1 g10 g11 hd1 k1 => ?_⟩
  refine ⟨fun σ H' => ∃ many : Int, 1 ≤ many ∧ many ≤ most ∧ DrawsAt H' d ∧ Kp [d] H H' ∧ σ = [some (.ref d), some (.int most), some (.int many), none, none, none, none, none, none, none, none, none, none, none, none, none, none], ?_, ?_⟩
  · refine ⟨d, 8, rfl, hd1, by decide, fun g2 H2 g20 g21 hd2 k2 => dec2 (fun c => ?_) (fun c => ?_)⟩
    · refine ⟨d, most, rfl, hd2, by omega, fun g3 H3 g30 g31 hd3 k3 => ?_⟩
      refine i_newL (by show 2 ≤ sizeLine; decide) fun p4 H4 hp4 s4 e4 => ?_
      refine ⟨d, 2, rfl, hd3.same s4, by decide, fun g5 H5 g50 g51 hd5 k5 => ?_⟩
      have n4 : p4 ≠ d := (hd3.ne hp4).symm
      refine i_ix (.inl (SqL.of (k5.one n4 e4))) (at2 g50 g51) ?_
      refine ⟨if g5 = 0 then most else 1 + g3, by split <;> omega, by split <;> omega, hd5, ((k1.trans k2).trans k3).trans (s4.kp.trans k5), ?_⟩
      by_cases z : g5 = 0
      · rw [if_pos z, if_pos z]; rfl
      · rw [if_neg z, if_neg z]; rfl
    · exact ⟨min most (1 + g1), by omega, by omega, hd2, k1.trans k2, rfl⟩
  rintro σ H2 ⟨many, mn1, mn2, hd2, k2, rfl⟩
  refine ⟨⟨by decide, by decide, by decide⟩, ⟨by decide, by decide, by decide⟩, ⟨by decide, by decide, by decide⟩, ?_⟩
  refine i_newL (by show 8 ≤ sizeLine; decide) fun bs H3 hbs s3 e3 => ?_
  have nbs : bs ≠ d := (hd2.ne hbs).symm
  have e3' : H3 bs = some (.lst (bsL.map V.int)) := e3
  refine ⟨d, 8, rfl, hd2.same s3, by decide, fun g4 H4 g40 g41 hd4 k4 => ?_⟩
  refine i_ixI (k4.one nbs e3') g40 g41 ?_
  have bb0 := bsL_at g40 g41
  generalize hb0 : bsL.getD g4.toNat 0 = b0 at bb0
  have k34 : Kp [d] H H4 := (k2.same s3).trans k4
  have eb4 := k4.one nbs e3'
  refine ⟨d, 4, rfl, hd4, by decide, fun g5 H5 g50 g51 hd5 k5 => ?_⟩
  refine ⟨d, 1000, rfl, hd5, by decide, fun one H6 on0 on1 hd6 k6 => ?_⟩
  refine ⟨d, 1000, rfl, hd6, by decide, fun ot H7 ot0 ot1 hd7 k7 => ?_⟩
  refine ⟨d, 1000, rfl, hd7, by decide, fun th H8 th0 th1 hd8 k8 => ?_⟩
  refine ⟨d, 3, rfl, hd8, by decide, fun fr H9 fr0 fr1 hd9 k9 => ?_⟩
  refine ⟨d, 20, rfl, hd9, by decide, fun lk H10 lk0 lk1 hd10 k10 => ?_⟩
  refine i_newL (by show 3 ≤ sizeLine; decide) fun p11 H11 hp11 s11 e11 => ?_
  refine ⟨d, 3, rfl, hd10.same s11, by decide, fun g12 H12 g120 g121 hd12 k12 => ?_⟩
  have n11 : p11 ≠ d := (hd10.ne hp11).symm
  have hlk : ∃ l : Int, (if g12 = 0 then V.int 1 else if g12 = 1 then V.int 1 else V.int (1 + lk)) = V.int l ∧ 1 ≤ l ∧ l ≤ 20 := by
    by_cases z : g12 = 0
    · exact ⟨1, by rw [if_pos z], by decide, by decide⟩
    · by_cases z1 : g12 = 1
      · exact ⟨1, by rw [if_neg z, if_pos z1], by decide, by decide⟩
      · exact ⟨1 + lk, by rw [if_neg z, if_neg z1], by omega, by omega⟩
  obtain ⟨likes, el, l0, l1⟩ := hlk
  refine i_ix (.inl (SqL.of (k12.one n11 e11))) ((at3 g120 g121).trans (congrArg some el)) ?_
  have kA : Kp [d] H4 H10 := ((((k5.trans k6).trans k7).trans k8).trans k9).trans k10
  have kB : Kp [d] H4 H12 := (kA.same s11).trans k12
  have k12' : Kp [d] H H12 := k34.trans kB
  have eb12 := kB.one nbs eb4
  generalize hmx : decide (g5 = 1) = mixed
  generalize hfr : decide (fr = 1) = free
  refine i_newL (by show 0 ≤ sizeLine; decide) fun fo H13 hfo s13 e13 => ?_
  have nfo : fo ≠ d := (hd12.ne hfo).symm
  have nfb : bs ≠ fo := ne_of_none eb12 hfo
  have hfo0 : H fo = none := k12'.free (by simpa using nfo) hfo
  refine ⟨fun σ H' => ∃ (base : Int) (ns : List Int) (o12 o13 o14 o15 : Option V), (ns.length : Int) = many ∧ (∀ z ∈ ns, 0 ≤ z ∧ z ≤ 1000000000000) ∧ DrawsAt H' d ∧ Kp [d] H H' ∧ H' fo = some (.lst (ns.map V.int)) ∧ σ = [some (.ref d), some (.int most), some (.int many), some (.ref bs), some (.int base), some (.bl mixed), some (.int one), some (.int (1 + ot)), some (.int th), some (.bl free), some (.int likes), some (.ref fo), o12, o13, o14, o15, none], ?_, ?_⟩
  · refine ⟨⟨by omega, by omega⟩, for_range (fun i σ H' => ∃ (base : Int) (ns : List Int) (o12 o13 o14 o15 : Option V), 1 ≤ base ∧ base ≤ 1000000000001 ∧ ns.length = i ∧ (∀ z ∈ ns, 0 ≤ z ∧ z ≤ 1000000000000) ∧ DrawsAt H' d ∧ Kp [d] H H' ∧ H' bs = some (.lst (bsL.map V.int)) ∧ H' fo = some (.lst (ns.map V.int)) ∧ σ = [some (.ref d), some (.int most), some (.int many), some (.ref bs), some (.int base), some (.bl mixed), some (.int one), some (.int (1 + ot)), some (.int th), some (.bl free), some (.int likes), some (.ref fo), o12, o13, o14, o15, none]) ?_ ?_ ?_⟩
    · exact ⟨b0, [], _, _, _, _, bb0.1, bb0.2, rfl, by simp, hd12.same s13, k12'.same s13, s13 _ _ eb12, e13, by first | rfl | (subst hmx; subst hfr; rfl) | (subst hmx; subst hfr; subst hb0; rfl)⟩
    · rintro i σ H14 hi ⟨base, ns, o12, o13, o14, o15, ba0, ba1, hl, hz, hd14, k14, eb14, ef14, rfl⟩
      have hi' : (i : Int) < many := by omega
      refine ⟨⟨by omega, by omega⟩, ?_⟩
      have at0 : 0 ≤ (0 + (i : Int)) / likes := Int.ediv_nonneg (by omega) (by omega)
      have at1 : (0 + (i : Int)) / likes ≤ 120 := by
        have := Int.ediv_le_self likes (show 0 ≤ (0 + (i : Int)) by omega)
        omega
      generalize (0 + (i : Int)) / likes = at_ at at0 at1
      refine ⟨.inl ⟨by omega, by omega⟩, .inr ⟨by omega, by omega⟩, .inl ⟨by omega, by omega⟩, ⟨by decide, by decide⟩, .inr ⟨by decide, by decide⟩, by decide, ?_⟩
      have tn1 := Int.emod_lt_of_pos (at_ * at_ * one + at_ * (1 + ot) + at_ / 7 * 31 + th) (show (0 : Int) < 9973 by decide)
      have tn0 := Int.emod_nonneg (at_ * at_ * one + at_ * (1 + ot) + at_ / 7 * 31 + th) (show (9973 : Int) ≠ 0 by decide)
      generalize (at_ * at_ * one + at_ * (1 + ot) + at_ / 7 * 31 + th) % 9973 = turn at tn1 tn0
      refine ⟨fun σ H' => ∃ base : Int, 1 ≤ base ∧ base ≤ 1000000000001 ∧ H' = H14 ∧ σ = [some (.ref d), some (.int most), some (.int many), some (.ref bs), some (.int base), some (.bl mixed), some (.int one), some (.int (1 + ot)), some (.int th), some (.bl free), some (.int likes), some (.ref fo), some (.int (0 + (i : Int))), some (.int at_), some (.int turn), o15, none], ?_, ?_⟩
      · refine b2 (fun c => ?_) (fun c => ?_)
        · refine ⟨.inl ⟨by omega, by omega⟩, by decide, ?_⟩
          have x0 := Int.emod_nonneg (turn + at_ * at_) (show (8 : Int) ≠ 0 by decide)
          have x1 := Int.emod_lt_of_pos (turn + at_ * at_) (show (0 : Int) < 8 by decide)
          have := bsL_at x0 x1
          exact i_ixI eb14 x0 x1 ⟨_, this.1, this.2, rfl, rfl⟩
        · exact ⟨base, ba0, ba1, rfl, rfl⟩
      rintro σ H' ⟨base, ba0, ba1, rfl, rfl⟩
      refine ⟨fun σ H15 => ∃ turn : Int, 0 ≤ turn ∧ turn < 9973 ∧ DrawsAt H15 d ∧ Kp [d] H' H15 ∧ σ = [some (.ref d), some (.int most), some (.int many), some (.ref bs), some (.int base), some (.bl mixed), some (.int one), some (.int (1 + ot)), some (.int th), some (.bl free), some (.int likes), some (.ref fo), some (.int (0 + (i : Int))), some (.int at_), some (.int turn), o15, none], ?_, ?_⟩
      · have tk : ∀ (D : Ends) (σ : St), True := fun _ _ => trivial
        refine dec2 (fun c => bT ?_) (fun c => b2 (fun c1 => ?_) (fun c1 => bF ?_))
        · exact ⟨d, 1000, rfl, hd14, by decide, fun g H15 g0 g1 hd15 k15 => ⟨g, g0, by omega, hd15, k15, rfl⟩⟩
        · obtain ⟨ds, ed, hd0, hdl⟩ := hd14
          refine i_lenI ed (dec2 (fun c2 => ?_) (fun c2 => ?_))
          · exact ⟨d, 1000, rfl, ⟨ds, ed, hd0, hdl⟩, by decide, fun g H15 g0 g1 hd15 k15 => ⟨g, g0, by omega, hd15, k15, rfl⟩⟩
          · exact ⟨turn, tn0, tn1, ⟨ds, ed, hd0, hdl⟩, Kp.refl _ _, rfl⟩
        · exact ⟨turn, tn0, tn1, hd14, Kp.refl _ _, rfl⟩
      rintro σ H15 ⟨turn, tn0, tn1, hd15, k15, rfl⟩
      obtain ⟨⟨na, nb⟩, nc, nd⟩ := num_ok tn0 tn1 ba0 ba1
      refine ⟨by omega, ⟨by decide, by decide⟩, .inl ⟨by omega, by omega⟩, by decide, ?_⟩
      refine i_newL (by show 2 ≤ sizeLine; decide) fun p16 H16 hp16 s16 e16 => ?_
      have hnum : ∃ number : Int, atI [V.int (turn % base), V.int (turn * (base / 9973) + turn % 7)] (if decide (1000 < base) = true then 1 else 0) = some (.int number) ∧ 0 ≤ number ∧ number ≤ 1000000000000 := by
        by_cases z : 1000 < base
        · exact ⟨_, by rw [decide_eq_true z, if_pos rfl]; rfl, nc, nd⟩
        · exact ⟨_, by rw [decide_eq_false z, if_neg (by decide)]; rfl, na, by have := nb z; omega⟩
      obtain ⟨number, enu, nu0, nu1⟩ := hnum
      refine i_ix (.inl (SqL.of e16)) enu ?_
      have hp16' := hp16
      have ef16 := s16 _ _ (k15.one nfo ef14)
      have eb16 := s16 _ _ (k15.one nbs eb14)
      have kk16 : Kp [d] H H16 := (k14.trans k15).same s16
      refine ⟨i_tyL ef16, ⟨by decide, by decide, by decide⟩, ?_⟩
      refine i_newL (by show 2 ≤ sizeLine; decide) fun p17 H17 hp17 s17 e17 => ?_
      have pick : ∀ bb : Bool, ∃ z : Int, atI [V.int number, V.int (10 ^ Int.toNat 12)] (if bb = true then 1 else 0) = some (.int z) ∧ 0 ≤ z ∧ z ≤ 1000000000000 := fun bb => by
        cases bb
        · exact ⟨number, rfl, nu0, nu1⟩
        · exact ⟨10 ^ Int.toNat 12, rfl, by decide, by decide⟩
      have put : ∀ (bb : Bool) (Q' : VK), (∀ (z : Int) (H' : Hp), 0 ≤ z → z ≤ 1000000000000 → Kp [fo] H17 H' → H' fo = some (.lst ((ns ++ [z]).map V.int)) → Q' .non H') → hIx K p17 (if bb = true then 1 else 0) H17 (fun y H1 => hApp fo y H1 Q') := fun bb Q' hq => by
        obtain ⟨z, ez, z0, z1⟩ := pick bb
        exact i_ix (.inl (SqL.of e17)) ez (i_appI (s17 _ _ ef16) (by omega) fun H18 k18 e18 => hq z H18 z0 z1 k18 e18)
      have fin : ∀ (z : Int) (H18 : Hp), 0 ≤ z → z ≤ 1000000000000 → Kp [fo] H17 H18 → H18 fo = some (.lst ((ns ++ [z]).map V.int)) → ∀ σ : St, σ = [some (.ref d), some (.int most), some (.int many), some (.ref bs), some (.int base), some (.bl mixed), some (.int one), some (.int (1 + ot)), some (.int th), some (.bl free), some (.int likes), some (.ref fo), some (.int (0 + (i : Int))), some (.int at_), some (.int turn), some (.int number), none] → ∃ (base : Int) (ns' : List Int) (o12 o13 o14 o15 : Option V), 1 ≤ base ∧ base ≤ 1000000000001 ∧ ns'.length = i + 1 ∧ (∀ z ∈ ns', 0 ≤ z ∧ z ≤ 1000000000000) ∧ DrawsAt H18 d ∧ Kp [d] H H18 ∧ H18 bs = some (.lst (bsL.map V.int)) ∧ H18 fo = some (.lst (ns'.map V.int)) ∧ σ = [some (.ref d), some (.int most), some (.int many), some (.ref bs), some (.int base), some (.bl mixed), some (.int one), some (.int (1 + ot)), some (.int th), some (.bl free), some (.int likes), some (.ref fo), o12, o13, o14, o15, none] := fun z H18 z0 z1 k18 e18 σ hσ =>
        ⟨base, ns ++ [z], _, _, _, _, ba0, ba1, by simp [hl], fun y hy => by
          rcases List.mem_append.mp hy with hy | hy
          · exact hz y hy
          · have : y = z := by simpa using hy
            subst this; exact ⟨z0, z1⟩, ((hd15.same s16).same s17).kp k18 (by simpa using Ne.symm nfo), (kk16.same s17).new k18 hfo0, k18.one nfb (s17 _ _ eb16), e18, hσ⟩
      refine ⟨⟨by decide, by decide, by decide⟩, dec2 (fun c => ⟨by decide, ?_⟩) (fun c => ?_)⟩
      · exact put _ _ fun z H18 z0 z1 k18 e18 => fin z H18 z0 z1 k18 e18 _ rfl
      · refine put _ _ fun z H18 z0 z1 k18 e18 => ?_
        exact fin z H18 z0 z1 k18 e18 _ rfl
    · rintro σ H' ⟨base, ns, o12, o13, o14, o15, _, _, h1, h2, h3, h4, _, h5, rfl⟩
      exact ⟨base, ns, o12, o13, o14, o15, by omega, h2, h3, h4, h5, rfl⟩
  rintro σ H14 ⟨base, ns, o12, o13, o14, o15, hl, hz, hd14, k14, e14, rfl⟩
  refine ⟨d, 8, rfl, hd14, by decide, fun sh H15 sh0 sh1 hd15 k15 => ?_⟩
  have e15 := k15.one nfo e14
  have kk15 := k14.trans k15
  have rowN : ∀ ms : List Int, ms.length = ns.length → (∀ z ∈ ms, 0 ≤ z ∧ z ≤ 1000000000000) → RowN ms := fun ms h1 h2 => ⟨by omega, by omega, fun n hn => (h2 n hn).1, fun n hn => (h2 n hn).2⟩
  refine dec2 (fun c => ?_) (fun c => ?_)
  · refine i_sorted (SqL.of e15) (by omega) fun p16 H16 ns' hperm hp16 s16 e16 => ?_
    have n16 : p16 ≠ d := (hd15.ne hp16).symm
    exact q p16 ns' H16 (rowN _ hperm.length_eq fun z hz' => hz z (hperm.mem_iff.mp hz')) (by rw [hperm.length_eq]; omega) (hd15.same s16) (kk15.same s16) e16 n16 (kk15.free (by simpa using n16) hp16)
  refine dec2 (fun c => ?_) (fun c => ?_)
  · refine i_sorted (SqL.of e15) (by omega) fun p16 H16 ns' hperm hp16 s16 e16 => ?_
    refine ⟨rfl, i_rev (SqL.of e16) fun p17 H17 hp17 s17 e17 => ?_⟩
    have n17 : p17 ≠ d := ((hd15.same s16).ne hp17).symm
    have e17' : H17 p17 = some (.lst (ns'.reverse.map V.int)) := by rw [e17, List.map_reverse]
    exact q p17 ns'.reverse H17 (rowN _ (by rw [List.length_reverse]; exact hperm.length_eq) fun z hz' => hz z (hperm.mem_iff.mp (List.mem_reverse.mp hz'))) (by rw [List.length_reverse, hperm.length_eq]; omega) ((hd15.same s16).same s17) ((kk15.same s16).same s17) e17' n17 ((kk15.same s16).free (by simpa using n17) hp17)
  refine dec2 (fun c => ?_) (fun c => ?_)
  · have hne : ns ≠ [] := fun z => by rw [z] at hl; simp at hl; omega
    refine ⟨⟨_, SqL.of e15⟩, comp_lst (ns.map V.int) (fun i D σ H' ys => ∃ ws : List Int, ys = ws.map V.int ∧ ws.length = i ∧ (∀ z ∈ ws, 0 ≤ z ∧ z ≤ 1000000000000) ∧ Same H15 H' ∧ ∃ o, σ = [o, some (.ref fo)]) ?_ ?_ ?_ ?_⟩
    · intro D H' hD s' e'
      exact ⟨[], rfl, rfl, by simp, s', _, rfl⟩
    · rintro i D σ H' ys hD ⟨_, _, _, _, s', _⟩
      exact SqL.of (s' _ _ e15)
    · rintro i x D σ H' ys hx hD ⟨ws, rfl, hlw, hw, s', o, rfl⟩ eD
      obtain ⟨z, rfl, hz1, hz2⟩ := vints_at hx
      have hi : i < ns.length := (List.getElem?_eq_some_iff.mp hz1).1
      refine bT (i_newL (by show 2 ≤ sizeLine; decide) fun p17 H17 hp17 s17 e17 => ?_)
      refine i_max (SqL.of (s17 _ _ (s' _ _ e15))) hne fun M hM hmax => ?_
      have pick : ∀ bb : Bool, ∃ y : Int, atI [V.int 0, V.int z] (if bb = true then 1 else 0) = some (.int y) ∧ 0 ≤ y ∧ y ≤ 1000000000000 := fun bb => by
        cases bb
        · exact ⟨0, rfl, by decide, by decide⟩
        · exact ⟨z, rfl, (hz z hz2).1, (hz z hz2).2⟩
      obtain ⟨y, ey, y0, y1⟩ := pick (decide (z = M))
      refine i_ix (.inl (SqL.of e17)) ey ?_
      refine ⟨s17 _ _ eD, sz_lt (by rw [List.length_map]; omega), fun H18 k18 e18 => ⟨ws ++ [y], map_snoc ws _, by simp [hlw], fun v hv => ?_, (s'.trans s17).new k18 hD, _, rfl⟩⟩
      rcases List.mem_append.mp hv with hv | hv
      · exact hw v hv
      · have : v = y := by simpa using hv
        subst this; exact ⟨y0, y1⟩
    · rintro D σ H' ys hD ⟨ws, rfl, hlw, hw, s', _⟩ eD
      rw [List.length_map] at hlw
      have nD : D ≠ d := (hd15.ne hD).symm
      exact q D ws H' (rowN _ hlw hw) (by rw [hlw]; omega) (hd15.same s') (kk15.same s') eD nD (kk15.free (by simpa using nD) hD)
  · exact q fo ns H15 (rowN _ rfl hz) (by omega) hd15 kk15 e15 nfo hfo0
abbrev zqt : Stmt := top 33
theorem zq8p : FnScope ["draws", "row", "some"] ["draws", "row"] (defScope zqt) := ⟨rfl, rfl, rfl, by decide +kernel, rfl, by decide +kernel, by decide +kernel⟩
theorem zq9q : Loc (defScope zqt) "some" := Or.inl (by kernel_rfl)
theorem zq3g : Vis (defScope zqt) "draws" := Or.inl (by kernel_rfl)
theorem zq4d : Vis (defScope zqt) "row" := Or.inl (by kernel_rfl)
theorem zq9r : Vis (defScope zqt) "some" := Or.inl (by kernel_rfl)
theorem zq2l : (defScope zqt).names.lookup ("_law_take" : Str) = some NameKind.globalImplicit := by kernel_rfl
theorem zq4e : (defScope zqt).names.lookup ("len" : Str) = some NameKind.globalImplicit := by kernel_rfl
theorem zqa7 : (defScope zqt).names.lookup ("min" : Str) = some NameKind.globalImplicit := by kernel_rfl
def zqck {cdv : Value} {A : Around} {outer : List Env} {s : Shared} {H : Hp} {E : XK} (B : Bl mg) (zq1 : Def P w K mg base 1 "_law_take" ["draws", "many"] zqz) (hr : Room 1 (A.deeper (PyProof.Rows.envOfC "_law_pieces" (defScope zqt) s.heap.objs.size f cdv))) :
    { t : TS // QB (cxOf CX0 P w K mg base ["draws", "row", "some"] "_law_pieces" (defScope zqt) f cdv A outer s H E).nox (defBody zqt) t } :=
  ⟨_, (qb_cons (qs_set (i := 2) zq8p.nd rfl zq9q (.inl rfl) (qe_lst (qa_cons qe_int (qa_cons (qe_cB (kLen (K := K) rfl) zq4e B.len boot_len' (qa_cons (qv 1 rfl zq4d) qa_nil)) (qa_cons (qe_cB (kMin (K := K) rfl rfl) zqa7 B.min boot_min' (qa_cons (qe_cB (kLen (K := K) rfl) zq4e B.len boot_len' (qa_cons (qv 1 rfl zq4d) qa_nil)) (qa_cons (qe_op opAdd qe_int (qe_def zq1 hr (by decide) zq2l (qa_cons (qv 0 rfl zq3g) (qa_cons qe_int qa_nil)))) qa_nil))) (qa_cons (qe_op opAdd qe_int (qe_op opMod (qe_def zq1 hr (by decide) zq2l (qa_cons (qv 0 rfl zq3g) (qa_cons qe_int qa_nil))) (qe_cB (kLen (K := K) rfl) zq4e B.len boot_len' (qa_cons (qv 1 rfl zq4d) qa_nil)))) qa_nil))))))
    (qb_one (qs_ret (ke_ix (K := K) rfl (qv 2 rfl zq9r) (ke_ix (K := K) rfl (qe_lst (qa_cons qe_int (qa_cons qe_int (qa_cons qe_int (qa_cons qe_int (qa_cons qe_int (qa_cons qe_int (qa_cons qe_int qa_nil)))))))) (qe_def zq1 hr (by decide) zq2l (qa_cons (qv 0 rfl zq3g) (qa_cons qe_int qa_nil))) (fun _ _ => rfl)) (fun _ _ => rfl)))))⟩
theorem zqc7 (B : Bl mg) (zq1 : Def P w K mg base 1 "_law_take" ["draws", "many"] zqz) (F : Fun K "_law_pieces" "_law_pieces" zqt f fd) : FnOk P w K mg base CX0 2 f fd ["draws", "row"] zq48 := by
  refine F.okq zq8p (fun vs H Q E h => ?_) (fun cdv A outer s H vs Q E hr h => ?_)
  · obtain ⟨d, r, ns, rfl, _⟩ := h; rfl
  obtain ⟨d, r, ns, rfl, hd, hr0, nrd, n1, n2, q⟩ := h
  refine ⟨zqck B zq1 hr, ?_⟩
  refine i_lenI hr0 (i_lenI hr0 ⟨d, 4, rfl, hd, by decide, fun g H1 g0 g1 hd1 k1 => ?_⟩)
  refine ⟨d, 1000, rfl, hd1, by decide, fun g' H2 g0' g1' hd2 k2 => ?_⟩
  have er2 := k2.one nrd (k1.one nrd hr0)
  refine i_lenI er2 ⟨by omega, i_newL (by show 4 ≤ sizeLine; decide) fun p3 H3 hp3 s3 e3 => ?_⟩
  refine i_newL (by show 7 ≤ sizeLine; decide) fun p4 H4 hp4 s4 e4 => ?_
  refine ⟨d, 7, rfl, (hd2.same s3).same s4, by decide, fun g5 H5 g50 g51 hd5 k5 => ?_⟩
  have n3 : p3 ≠ d := (hd2.ne hp3).symm
  have n4 : p4 ≠ d := ((hd2.same s3).ne hp4).symm
  have e4' : H5 p4 = some (.lst (([0, 1, 2, 2, 3, 3, 3] : List Int).map V.int)) := k5.one n4 e4
  refine i_ixI e4' g50 (by simpa using g51) ?_
  have hm := atInts (ns := [0, 1, 2, 2, 3, 3, 3]) g50 (by simpa using g51)
  generalize ([0, 1, 2, 2, 3, 3, 3] : List Int).getD g5.toNat 0 = j at hm
  have hj : 0 ≤ j ∧ j < 4 := by
    simp only [List.mem_cons, List.not_mem_nil, or_false] at hm
    omega
  have b0 := Int.emod_nonneg g' (show (ns.length : Int) ≠ 0 by omega)
  have b1 := Int.emod_lt_of_pos g' (show (0 : Int) < ns.length by omega)
  have e3' : H5 p3 = some (.lst (([1, (ns.length : Int), min (ns.length : Int) (2 + g), 1 + g' % (ns.length : Int)] : List Int).map V.int)) := k5.one n3 (s4 _ _ e3)
  refine i_ixI e3' hj.1 (by simpa using hj.2) ?_
  have hm2 := atInts (ns := [1, (ns.length : Int), min (ns.length : Int) (2 + g), 1 + g' % (ns.length : Int)]) hj.1 (by simpa using hj.2)
  generalize ([1, (ns.length : Int), min (ns.length : Int) (2 + g), 1 + g' % (ns.length : Int)] : List Int).getD j.toNat 0 = z at hm2
  have hz : 1 ≤ z ∧ z ≤ ns.length := by
    simp only [List.mem_cons, List.not_mem_nil, or_false] at hm2
    omega
  have ez : z = ((z.toNat : Nat) : Int) := by omega
  rw [ez]
  exact q _ H5 (by omega) (by omega) hd5 ((((k1.trans k2).same s3).same s4).trans k5)
end
end K
set_option linter.all false
set_option Elab.async false
set_option maxRecDepth 100000
set_option maxHeartbeats 4000000
namespace K
open PySem L2
section
variable {C : Addr} {P : Program} {w : World} {K : PySem.W.Frag} {mg : Str → Option Value} {base : Heap} {f : Addr} {fd : FuncData}
abbrev zq12 : Stmt := top 4
theorem zqd2 : FnScope ["thing"] ["thing"] (defScope zq12) := ⟨rfl, rfl, rfl, by decide +kernel, rfl, by decide +kernel, by decide +kernel⟩
theorem zq6o : Vis (defScope zq12) "thing" := Or.inl (by kernel_rfl)
theorem zqbd : (defScope zq12).names.lookup ("bool" : Str) = some NameKind.globalImplicit := by kernel_rfl
theorem zqbr : (defScope zq12).names.lookup ("int" : Str) = some NameKind.globalImplicit := by kernel_rfl
theorem zq4i : (defScope zq12).names.lookup ("isinstance" : Str) = some NameKind.globalImplicit := by kernel_rfl
def zqda {cdv : Value} {A : Around} {outer : List Env} {s : Shared} {H : Hp} {E : XK} (B : Bl mg) (hr : Room 0 (A.deeper (PyProof.Rows.envOfC "is_whole" (defScope zq12) s.heap.objs.size f cdv))) :
    { t : TS // QB (cxOf CX0 P w K mg base ["thing"] "is_whole" (defScope zq12) f cdv A outer s H E).nox (defBody zq12) t } :=
  ⟨_, (qb_one (qs_ret (ke_and (K := K) rfl (qe_cB (kIsi (K := K) rfl) zq4i B.isinstance boot_isinstance' (qa_cons (qv 0 rfl zq6o) (qa_cons (qe_ty zqbr B.int boot_int) qa_nil))) (qe_one (ke_not (K := K) rfl (qe_cB (kIsi (K := K) rfl) zq4i B.isinstance boot_isinstance' (qa_cons (qv 0 rfl zq6o) (qa_cons (qe_ty zqbd B.bool boot_bool) qa_nil))))))))⟩
def zq5a : Sp := fun vs H Q _ => ∃ i : Int, vs = [.int i] ∧ Q (.bl true) H
theorem zqd3 (B : Bl mg) (F : Fun K "is_whole" "is_whole" zq12 f fd) : FnOk P w K mg base CX0 1 f fd ["thing"] zq5a := by
  refine F.okq zqd2 (fun vs H Q E h => ?_) (fun cdv A outer s H vs Q E hr h => ?_)
  · obtain ⟨i, rfl, _⟩ := h; rfl
  obtain ⟨i, rfl, q⟩ := h
  refine ⟨zqda B hr, ?_⟩
  refine i_isi (.int i) (by simp) (by simp) (bIs (by decide +kernel) ?_)
  refine i_isi (.int i) (by simp) (by simp) ?_
  have e : isTy "int" "bool" = false := by decide +kernel
  rw [e]; exact q
abbrev zq10 : Stmt := top 5
theorem zqcl : FnScope ["thing", "low", "high"] ["thing", "low", "high"] (defScope zq10) := ⟨rfl, rfl, rfl, by decide +kernel, rfl, by decide +kernel, by decide +kernel⟩
theorem zqa8 : Vis (defScope zq10) "high" := Or.inl (by kernel_rfl)
theorem zqbe : Vis (defScope zq10) "low" := Or.inl (by kernel_rfl)
theorem zq60 : Vis (defScope zq10) "thing" := Or.inl (by kernel_rfl)
theorem zq87 : (defScope zq10).names.lookup ("is_whole" : Str) = some NameKind.globalImplicit := by kernel_rfl
def zqd4 {cdv : Value} {A : Around} {outer : List Env} {s : Shared} {H : Hp} {E : XK} (B : Bl mg) (zq4v : Def P w K mg base 1 "is_whole" ["thing"] zq5a) (hr : Room 1 (A.deeper (PyProof.Rows.envOfC "is_within" (defScope zq10) s.heap.objs.size f cdv))) :
    { t : TS // QB (cxOf CX0 P w K mg base ["thing", "low", "high"] "is_within" (defScope zq10) f cdv A outer s H E).nox (defBody zq10) t } :=
  ⟨_, (qb_one (qs_ret (ke_and (K := K) rfl (qe_def zq4v hr (by decide) zq87 (qa_cons (qv 0 rfl zq60) qa_nil)) (qe_one (qe_chain opLe opLe (qv 1 rfl zqbe) (qv 0 rfl zq60) (qv 2 rfl zqa8))))))⟩
def zq16 : Sp := fun vs H Q _ => ∃ i l u : Int, vs = [.int i, .int l, .int u] ∧ Q (.bl (decide (l ≤ i ∧ i ≤ u))) H
theorem zqcm (B : Bl mg) (zq4v : Def P w K mg base 1 "is_whole" ["thing"] zq5a) (F : Fun K "is_within" "is_within" zq10 f fd) : FnOk P w K mg base CX0 2 f fd ["thing", "low", "high"] zq16 := by
  refine F.okq zqcl (fun vs H Q E h => ?_) (fun cdv A outer s H vs Q E hr h => ?_)
  · obtain ⟨i, l, u, rfl, _⟩ := h; rfl
  obtain ⟨i, l, u, rfl, q⟩ := h
  refine ⟨zqd4 B zq4v hr, ?_⟩
  refine ⟨i, rfl, bT (dec2 (fun c => ?_) (fun c => ?_))⟩
  · have e : decide (l ≤ i ∧ i ≤ u) = decide (i ≤ u) := by simp [c]
    rw [e] at q; exact q
  · have e : decide (l ≤ i ∧ i ≤ u) = false := by simp [c]
    rw [e] at q; exact q
abbrev zqi : Stmt := top 6
theorem zq49 : FnScope ["row", "thing", "first", "least", "place"] ["row", "thing", "first"] (defScope zqi) := ⟨rfl, rfl, rfl, by decide +kernel, rfl, by decide +kernel, by decide +kernel⟩
theorem zq5c : Loc (defScope zqi) "least" := Or.inl (by kernel_rfl)
theorem zq98 : Loc (defScope zqi) "place" := Or.inl (by kernel_rfl)
theorem zq99 : Vis (defScope zqi) "first" := Or.inl (by kernel_rfl)
theorem zq9a : Vis (defScope zqi) "least" := Or.inl (by kernel_rfl)
theorem zq5d : Vis (defScope zqi) "place" := Or.inl (by kernel_rfl)
theorem zqa9 : Vis (defScope zqi) "row" := Or.inl (by kernel_rfl)
theorem zq5e : Vis (defScope zqi) "thing" := Or.inl (by kernel_rfl)
theorem zq7f : (defScope zqi).names.lookup ("is_within" : Str) = some NameKind.globalImplicit := by kernel_rfl
theorem zq6z : (defScope zqi).names.lookup ("isinstance" : Str) = some NameKind.globalImplicit := by kernel_rfl
theorem zqaa : (defScope zqi).names.lookup ("len" : Str) = some NameKind.globalImplicit := by kernel_rfl
theorem zq9s : (defScope zqi).names.lookup ("list" : Str) = some NameKind.globalImplicit := by kernel_rfl
def zqcn {cdv : Value} {A : Around} {outer : List Env} {s : Shared} {H : Hp} {E : XK} (B : Bl mg) (zqm : Def P w K mg base 2 "is_within" ["thing", "low", "high"] zq16) (hr : Room 2 (A.deeper (PyProof.Rows.envOfC "are_places" (defScope zqi) s.heap.objs.size f cdv))) :
    { t : TS // QB (cxOf CX0 P w K mg base ["row", "thing", "first", "least", "place"] "are_places" (defScope zqi) f cdv A outer s H E).nox (defBody zqi) t } :=
  ⟨_, (qb_cons (qs_if (qt_not (kt_val (K := K) rfl (qe_cB (kIsi (K := K) rfl) zq6z B.isinstance boot_isinstance' (qa_cons (qv 1 rfl zq5e) (qa_cons (qe_ty zq9s B.list boot_list) qa_nil))))) (qb_one (qs_ret qe_bl)) qb_nil)
    (qb_cons (qs_set (i := 3) zq49.nd rfl zq5c (.inl rfl) (qv 2 rfl zq99))
    (qb_mid (qs_for PassesOwn.never rfl (ki_list (K := K) rfl (qv 1 rfl zq5e)) (qg_name (i := 4) zq49.nd rfl zq98 (.inl rfl)) (qb_cons (qs_if (qt_not (kt_val (K := K) rfl (qe_def zqm hr (by decide) zq7f (qa_cons (qv 4 rfl zq5d) (qa_cons (qv 3 rfl zq9a) (qa_cons (qe_op opSub (qe_cB (kLen (K := K) rfl) zqaa B.len boot_len' (qa_cons (qv 0 rfl zqa9) qa_nil)) qe_int) qa_nil)))))) (qb_one (qs_ret qe_bl)) qb_nil)
    (qb_one (qs_set (i := 3) zq49.nd rfl zq5c (.inl rfl) (qe_op opAdd (qv 4 rfl zq5d) qe_int)))))
    (qb_one (qs_ret qe_bl)))))⟩
abbrev nzs (cs : List Nat) : List Int := cs.map fun (n : Nat) => (n : Int)
theorem nzs_at {cs : List Nat} {i : Nat} {x : V} (h : ((nzs cs).map V.int)[i]? = some x) : ∃ n : Nat, x = .int n ∧ cs[i]? = some n := by
  obtain ⟨z, rfl, hz, _⟩ := vints_at h
  rw [List.getElem?_map] at hz
  cases e : cs[i]? with
  | none => rw [e] at hz; cases hz
  | some n => rw [e] at hz; cases hz; exact ⟨n, rfl, rfl⟩
def zq2e : Sp := fun vs H Q _ => ∃ (r p : Addr) (xs : List V) (qs : List Nat) (f : Nat), vs = [.ref r, .ref p, .int f] ∧ H r = some (.lst xs) ∧ H p = some (.lst ((nzs qs).map V.int)) ∧ qs.Pairwise (· < ·) ∧ (∀ q ∈ qs, f ≤ q ∧ q < xs.length) ∧ Q (.bl true) H
theorem zqc8 (B : Bl mg) (zqm : Def P w K mg base 2 "is_within" ["thing", "low", "high"] zq16) (F : Fun K "are_places" "are_places" zqi f fd) : FnOk P w K mg base CX0 3 f fd ["row", "thing", "first"] zq2e := by
  refine F.okq zq49 (fun vs H Q E h => ?_) (fun cdv A outer s H vs Q E hr h => ?_)
  · obtain ⟨r, p, xs, qs, f, rfl, _⟩ := h; rfl
  obtain ⟨r, p, xs, qs, f, rfl, hr0, hp0, hup, hq, q⟩ := h
  refine ⟨zqcn B zqm hr, ?_⟩
  refine i_isi (.lst hp0) (by simp) (by simp) (bNo (by decide +kernel) ?_)
  refine ⟨fun σ H' => H' = H, ?_, ?_⟩
  · refine ⟨⟨_, SqL.of hp0⟩, for_list (xs := (nzs qs).map V.int) (fun i σ H' => H' = H ∧ ∃ (l : Nat) (o : Option V), (∀ q ∈ qs.drop i, l ≤ q) ∧ σ = [some (.ref r), some (.ref p), some (.int f), some (.int l), o]) ?_ ?_ ?_ ?_⟩
    · exact ⟨rfl, f, _, fun q hq' => (hq q (by simpa using hq')).1, rfl⟩
    · rintro i σ H' _ ⟨rfl, _⟩
      exact SqL.of hp0
    · rintro i x σ H' hx ⟨rfl, l, o, hl, rfl⟩
      obtain ⟨n, rfl, hn⟩ := nzs_at hx
      have hi : i < qs.length := (List.getElem?_eq_some_iff.mp hn).1
      have hd : qs.drop i = n :: qs.drop (i + 1) := by
        rw [List.drop_eq_getElem_cons hi]
        have : qs[i] = n := by rw [List.getElem?_eq_getElem hi] at hn; exact Option.some.inj hn
        rw [this]
      have h1 := hl n (by rw [hd]; simp)
      have h2 := (hq n (List.mem_of_getElem? hn)).2
      have hp2 : (n :: qs.drop (i + 1)).Pairwise (· < ·) := by rw [← hd]; exact hup.sublist (List.drop_sublist _ _)
      refine i_lenL hr0 ⟨n, l, _, rfl, ?_⟩
      have e : decide ((l : Int) ≤ (n : Int) ∧ (n : Int) ≤ (xs.length : Int) - 1) = true := decide_eq_true ⟨by omega, by omega⟩
      rw [e]
      refine bF ⟨rfl, n + 1, _, fun q' hq' => (List.pairwise_cons.mp hp2).1 q' hq', rfl⟩
    · rintro σ H' ⟨rfl, _⟩
      rfl
  · rintro σ H' rfl
    exact q
abbrev zqy : Stmt := top 10
theorem zqc9 : FnScope ["row", "many"] ["row", "many"] (defScope zqy) := ⟨rfl, rfl, rfl, by decide +kernel, rfl, by decide +kernel, by decide +kernel⟩
theorem zq9t : Vis (defScope zqy) "many" := Or.inl (by kernel_rfl)
theorem zqab : Vis (defScope zqy) "row" := Or.inl (by kernel_rfl)
theorem zq7g : (defScope zqy).names.lookup ("is_within" : Str) = some NameKind.globalImplicit := by kernel_rfl
theorem zqac : (defScope zqy).names.lookup ("len" : Str) = some NameKind.globalImplicit := by kernel_rfl
def zqco {cdv : Value} {A : Around} {outer : List Env} {s : Shared} {H : Hp} {E : XK} (B : Bl mg) (zqm : Def P w K mg base 2 "is_within" ["thing", "low", "high"] zq16) (hr : Room 2 (A.deeper (PyProof.Rows.envOfC "check_many" (defScope zqy) s.heap.objs.size f cdv))) :
    { t : TS // QB (cxOf CX0 P w K mg base ["row", "many"] "check_many" (defScope zqy) f cdv A outer s H E).nox (defBody zqy) t } :=
  ⟨_, (qb_one (qs_if (qt_not (kt_val (K := K) rfl (qe_def zqm hr (by decide) zq7g (qa_cons (qv 1 rfl zq9t) (qa_cons qe_int (qa_cons (qe_cB (kLen (K := K) rfl) zqac B.len boot_len' (qa_cons (qv 0 rfl zqab) qa_nil)) qa_nil)))))) (qb_one qs_never) qb_nil))⟩
def zq11 : Sp := fun vs H Q _ => ∃ (r : Addr) (m : Int) (xs : List V), vs = [.ref r, .int m] ∧ H r = some (.lst xs) ∧ 1 ≤ m ∧ m ≤ xs.length ∧ Q .non H
theorem zqca (B : Bl mg) (zqm : Def P w K mg base 2 "is_within" ["thing", "low", "high"] zq16) (F : Fun K "check_many" "check_many" zqy f fd) : FnOk P w K mg base CX0 3 f fd ["row", "many"] zq11 := by
  refine F.okq zqc9 (fun vs H Q E h => ?_) (fun cdv A outer s H vs Q E hr h => ?_)
  · obtain ⟨r, m, xs, rfl, _⟩ := h; rfl
  obtain ⟨r, m, xs, rfl, hr0, h1, h2, q⟩ := h
  refine ⟨zqco B zqm hr, ?_⟩
  refine i_lenL hr0 ⟨m, 1, _, rfl, ?_⟩
  have e : decide ((1 : Int) ≤ m ∧ m ≤ (xs.length : Int)) = true := decide_eq_true ⟨h1, h2⟩
  rw [e]
  exact bF q
end
end K
set_option linter.all false
set_option Elab.async false
set_option maxRecDepth 100000
set_option maxHeartbeats 4000000
namespace K
open PySem L2
section
variable {C : Addr} {P : Program} {w : World} {K : PySem.W.Frag} {mg : Str → Option Value} {base : Heap} {f : Addr} {fd : FuncData}
abbrev zqr : Stmt := top 12
theorem zq2m : FnScope ["row", "bound", "cut", "total", "place", "number"] ["row", "bound"] (defScope zqr) := ⟨rfl, rfl, rfl, by decide +kernel, rfl, by decide +kernel, by decide +kernel⟩
theorem zqbs : Loc (defScope zqr) "cut" := Or.inl (by kernel_rfl)
theorem zq9u : Loc (defScope zqr) "number" := Or.inl (by kernel_rfl)
theorem zqad : Loc (defScope zqr) "place" := Or.inl (by kernel_rfl)
theorem zq4f : Loc (defScope zqr) "total" := Or.inl (by kernel_rfl)
theorem zq6p : Vis (defScope zqr) "bound" := Or.inl (by kernel_rfl)
theorem zq7w : Vis (defScope zqr) "cut" := Or.inl (by kernel_rfl)
theorem zq61 : Vis (defScope zqr) "number" := Or.inl (by kernel_rfl)
theorem zqae : Vis (defScope zqr) "place" := Or.inl (by kernel_rfl)
theorem zq7x : Vis (defScope zqr) "row" := Or.inl (by kernel_rfl)
theorem zqaf : Vis (defScope zqr) "total" := Or.inl (by kernel_rfl)
theorem zq88 : (defScope zqr).names.lookup ("enumerate" : Str) = some NameKind.globalImplicit := by kernel_rfl
theorem zqbt : (defScope zqr).names.lookup ("max" : Str) = some NameKind.globalImplicit := by kernel_rfl
def zqdb {cdv : Value} {A : Around} {outer : List Env} {s : Shared} {H : Hp} {E : XK} (B : Bl mg) (hr : Room 0 (A.deeper (PyProof.Rows.envOfC "long_cut" (defScope zqr) s.heap.objs.size f cdv))) :
    { t : TS // QB (cxOf CX0 P w K mg base ["row", "bound", "cut", "total", "place", "number"] "long_cut" (defScope zqr) f cdv A outer s H E).nox (defBody zqr) t } :=
  ⟨_, (qb_cons (qs_if (qt_cmp opGt (qe_cB (kMax (K := K) rfl rfl) zqbt B.max boot_max' (qa_cons (qv 0 rfl zq7x) qa_nil)) (qv 1 rfl zq6p)) (qb_one (qs_ret qe_non)) qb_nil)
    (qb_cons (qs_set (i := 2) zq2m.nd rfl zqbs (.inl rfl) (qe_lst qa_nil))
    (qb_cons (qs_set (i := 3) zq2m.nd rfl zq4f (.inl rfl) qe_int)
    (qb_mid (qs_for PassesOwn.never rfl (ki_enum (K := K) rfl zq88 B.enumerate (qa_cons (qv 0 rfl zq7x) qa_nil)) (kg_tup (K := K) rfl rfl (qgs_cons (qg_name (i := 4) zq2m.nd rfl zqad (.inl rfl)) (qgs_cons (qg_name (i := 5) zq2m.nd rfl zq9u (.inl rfl)) qgs_nil))) (qb_mid (qs_if (qt_cmp opGt (qe_op opAdd (qv 3 rfl zqaf) (qv 5 rfl zq61)) (qv 1 rfl zq6p)) (qb_cons (qs_ex (ke_m1 (K := K) rfl PySem.F.plainAttrs_list PySem.F.slot_list_append PySem.F.type_list_append mtApp (qv 2 rfl zq7w) (qv 4 rfl zqae)))
    (qb_one (qs_set (i := 3) zq2m.nd rfl zq4f (.inl rfl) qe_int))) qb_nil)
    (qb_one (qs_aug (i := 3) zq2m.nd rfl zq4f (.inl rfl) (qv 5 rfl zq61) ipAdd))))
    (qb_one (qs_ret (qv 2 rfl zq7w)))))))⟩
open M5 in
def zq3d : Sp := fun vs H Q _ => ∃ (r : Addr) (b : Int) (ns : List Int), vs = [.ref r, .int b] ∧ H r = some (.lst (ns.map V.int)) ∧ ns ≠ [] ∧ ns.length ≤ 1000 ∧ ((∃ n ∈ ns, b < n) → Q .non H) ∧
  ((∀ n ∈ ns, n ≤ b) → ∀ p H', H p = none → Same H H' → H' p = some (.lst ((lcut b 0 0 ns).map V.int)) → Q (.ref p) H')
open M5 in
theorem zqd5 (B : Bl mg) (F : Fun K "long_cut" "long_cut" zqr f fd) : FnOk P w K mg base CX0 1 f fd ["row", "bound"] zq3d := by
  refine F.okq zq2m (fun vs H Q E h => ?_) (fun cdv A outer s H vs Q E hr h => ?_)
  · obtain ⟨r, b, ns, rfl, _⟩ := h; rfl
  obtain ⟨r, b, ns, rfl, hr0, hne, hle, q1, q2⟩ := h
  refine ⟨zqdb B hr, ?_⟩
  refine i_max (SqL.of hr0) hne fun M hM hmax => dec2 (fun c => q1 ⟨M, hM, c⟩) (fun c => ?_)
  have hb : ∀ n ∈ ns, n ≤ b := fun n hn => by have := hmax n hn; omega
  refine i_newL (by show 0 ≤ sizeLine; decide) fun p H1 hp s1 e1 => ?_
  refine ⟨fun σ H' => Same H H' ∧ H' p = some (.lst ((lcut b 0 0 ns).map V.int)) ∧ gt σ 2 = some (.ref p), ?_, ?_⟩
  · refine ⟨⟨_, SqL.of (s1 _ _ hr0)⟩, for_en (ns.map V.int) (fun i σ H' => ∃ o1 o2, σ = [some (.ref r), some (.int b), some (.ref p), some (.int (ltot b 0 (ns.take i))), o1, o2] ∧ Same H H' ∧ H' p = some (.lst ((lcut b 0 0 (ns.take i)).map V.int))) ?_ ?_ ?_ ?_⟩
    · exact ⟨none, none, rfl, s1, e1⟩
    · rintro i σ H' _ ⟨o1, o2, rfl, s', e'⟩
      exact SqL.of (s' _ _ hr0)
    · rintro i x σ H' T H2 hx ⟨o1, o2, rfl, s', e'⟩ hT s2 e2
      obtain ⟨z, rfl, hz, _⟩ := vints_at hx
      have hi : i < ns.length := (List.getElem?_eq_some_iff.mp hz).1
      have hlen : (ns.take i).length = i := by rw [List.length_take]; omega
      have et := take_snoc hz
      have e3 := s2 _ _ e'
      refine i_unp e2 rfl ?_
      refine ⟨fun σ H' => σ = [some (.ref r), some (.int b), some (.ref p), some (.int (if ltot b 0 (ns.take i) + z > b then 0 else ltot b 0 (ns.take i))), some (.int i), some (.int z)] ∧ Same H H' ∧ H' p = some (.lst ((lcut b 0 0 (ns.take (i + 1))).map V.int)), ?_, ?_⟩
      · have el : lcut b 0 0 (ns.take (i + 1)) = lcut b 0 0 (ns.take i) ++ (if ltot b 0 (ns.take i) + z > b then [(i : Int)] else []) := by
          rw [et, lcut_app, hlen, Nat.zero_add]
          simp only [lcut]
        have ll : (lcut b 0 0 (ns.take i)).length ≤ 1000 := by
          have := lcut_len b (ns.take i) 0 0; omega
        refine dec2 (fun c => ?_) (fun c => ?_)
        · refine ⟨i_tyL e3, i_appI e3 (by omega) fun H4 k4 e4 => ?_⟩
          have c' : ltot b 0 (ns.take i) + z > b := c
          refine ⟨by rw [if_pos c']; rfl, (s'.trans s2).new k4 hp, by rw [e4, el, if_pos c']⟩
        · have c' : ¬ ltot b 0 (ns.take i) + z > b := c
          refine ⟨by rw [if_neg c']; rfl, s'.trans s2, by rw [e3, el, if_neg c', List.append_nil]⟩
      · rintro σ H4 ⟨rfl, s4, e4⟩
        refine ⟨some (.int i), some (.int z), ?_, s4, e4⟩
        rw [et, ltot_app]
        simp only [ltot]
        by_cases c : ltot b 0 (ns.take i) + z > b
        · simp [c]
        · simp [c]
    · rintro σ H' ⟨o1, o2, rfl, s', e'⟩
      rw [List.length_map, List.take_length] at e'
      exact ⟨s', e', rfl⟩
  · rintro σ H' ⟨s', e', hg⟩
    show mVar 2 σ H' Q
    unfold mVar
    rw [hg]
    exact q2 hb p H' hp s' e'
abbrev zqo : Stmt := top 13
theorem zq6q : FnScope ["row", "bound", "cut"] ["row", "bound"] (defScope zqo) := ⟨rfl, rfl, rfl, by decide +kernel, rfl, by decide +kernel, by decide +kernel⟩
theorem zq8r : Loc (defScope zqo) "cut" := Or.inl (by kernel_rfl)
theorem zq7y : Vis (defScope zqo) "bound" := Or.inl (by kernel_rfl)
theorem zq54 : Vis (defScope zqo) "cut" := Or.inl (by kernel_rfl)
theorem zq8s : Vis (defScope zqo) "row" := Or.inl (by kernel_rfl)
theorem zq8t : (defScope zqo).names.lookup ("len" : Str) = some NameKind.globalImplicit := by kernel_rfl
theorem zq6r : (defScope zqo).names.lookup ("long_cut" : Str) = some NameKind.globalImplicit := by kernel_rfl
def zqbf {cdv : Value} {A : Around} {outer : List Env} {s : Shared} {H : Hp} {E : XK} (B : Bl mg) (zq1o : Def P w K mg base 1 "long_cut" ["row", "bound"] zq3d) (hr : Room 1 (A.deeper (PyProof.Rows.envOfC "fewest_pieces" (defScope zqo) s.heap.objs.size f cdv))) :
    { t : TS // QB (cxOf CX0 P w K mg base ["row", "bound", "cut"] "fewest_pieces" (defScope zqo) f cdv A outer s H E).nox (defBody zqo) t } :=
  ⟨_, (qb_cons (qs_set (i := 2) zq6q.nd rfl zq8r (.inl rfl) (qe_def zq1o hr (by decide) zq6r (qa_cons (qv 0 rfl zq8s) (qa_cons (qv 1 rfl zq7y) qa_nil))))
    (qb_cons (qs_if (qt_cmp opIs (qv 2 rfl zq54) qe_non) (qb_one (qs_ret qe_non)) qb_nil)
    (qb_one (qs_ret (qe_op opAdd (qe_cB (kLen (K := K) rfl) zq8t B.len boot_len' (qa_cons (qv 2 rfl zq54) qa_nil)) qe_int)))))⟩
open M5 in
def fewV (b : Int) (ns : List Int) : V := if ns.all (fun n => decide (n ≤ b)) = true then .int ((lcut b 0 0 ns).length + 1) else .non
theorem fewV_ok {b : Int} {ns : List Int} (h : ∀ n ∈ ns, n ≤ b) : fewV b ns = .int ((M5.lcut b 0 0 ns).length + 1) := by
  unfold fewV; rw [if_pos]; rw [List.all_eq_true]; intro n hn; exact decide_eq_true (h n hn)
theorem fewV_no {b : Int} {ns : List Int} (h : ∃ n ∈ ns, b < n) : fewV b ns = .non := by
  obtain ⟨n, hn, hb⟩ := h
  unfold fewV; rw [if_neg]; rw [List.all_eq_true]; intro h; have := of_decide_eq_true (h n hn); omega
def zq30 : Sp := fun vs H Q _ => ∃ (r : Addr) (b : Int) (ns : List Int), vs = [.ref r, .int b] ∧ H r = some (.lst (ns.map V.int)) ∧ ns ≠ [] ∧ ns.length ≤ 1000 ∧ ∀ H', Same H H' → Q (fewV b ns) H'
theorem zqag (B : Bl mg) (zq1o : Def P w K mg base 1 "long_cut" ["row", "bound"] zq3d) (F : Fun K "fewest_pieces" "fewest_pieces" zqo f fd) : FnOk P w K mg base CX0 2 f fd ["row", "bound"] zq30 := by
  refine F.okq zq6q (fun vs H Q E h => ?_) (fun cdv A outer s H vs Q E hr h => ?_)
  · obtain ⟨r, b, ns, rfl, _⟩ := h; rfl
  obtain ⟨r, b, ns, rfl, hr0, hne, hle, q⟩ := h
  refine ⟨zqbf B zq1o hr, ?_⟩
  refine ⟨r, b, ns, rfl, hr0, hne, hle, fun h => ?_, fun h p H1 hp s1 e1 => ?_⟩
  · refine bT ?_
    have := q H (Same.refl H)
    rw [fewV_no h] at this; exact this
  · refine bF (i_lenI e1 ?_)
    have := q H1 s1
    rw [fewV_ok h] at this; exact this
end
end K
set_option linter.all false
set_option Elab.async false
set_option maxRecDepth 100000
set_option maxHeartbeats 4000000
namespace K
open PySem L2
section
variable {C : Addr} {P : Program} {w : World} {K : PySem.W.Frag} {mg : Str → Option Value} {base : Heap} {f : Addr} {fd : FuncData}
abbrev zqe : Stmt := top 15
theorem zq24 : FnScope ["row", "many", "low", "high", "middle"] ["row", "many"] (defScope zqe) := ⟨rfl, rfl, rfl, by decide +kernel, rfl, by decide +kernel, by decide +kernel⟩
theorem zq5f : Loc (defScope zqe) "high" := Or.inl (by kernel_rfl)
theorem zq62 : Loc (defScope zqe) "low" := Or.inl (by kernel_rfl)
theorem zq89 : Loc (defScope zqe) "middle" := Or.inl (by kernel_rfl)
theorem zq5g : Vis (defScope zqe) "high" := Or.inl (by kernel_rfl)
theorem zq3w : Vis (defScope zqe) "low" := Or.inl (by kernel_rfl)
theorem zq9b : Vis (defScope zqe) "many" := Or.inl (by kernel_rfl)
theorem zq31 : Vis (defScope zqe) "middle" := Or.inl (by kernel_rfl)
theorem zq3x : Vis (defScope zqe) "row" := Or.inl (by kernel_rfl)
theorem zq5h : (defScope zqe).names.lookup ("fewest_pieces" : Str) = some NameKind.globalImplicit := by kernel_rfl
theorem zq9v : (defScope zqe).names.lookup ("max" : Str) = some NameKind.globalImplicit := by kernel_rfl
theorem zq9w : (defScope zqe).names.lookup ("sum" : Str) = some NameKind.globalImplicit := by kernel_rfl
def zqcb {cdv : Value} {A : Around} {outer : List Env} {s : Shared} {H : Hp} {E : XK} (B : Bl mg) (zq2g : Def P w K mg base 2 "fewest_pieces" ["row", "bound"] zq30) (hr : Room 2 (A.deeper (PyProof.Rows.envOfC "least_bound" (defScope zqe) s.heap.objs.size f cdv))) :
    { t : TS // QB (cxOf CX0 P w K mg base ["row", "many", "low", "high", "middle"] "least_bound" (defScope zqe) f cdv A outer s H E).nox (defBody zqe) t } :=
  ⟨_, (qb_cons (qs_set (i := 2) zq24.nd rfl zq62 (.inl rfl) (qe_cB (kMax (K := K) rfl rfl) zq9v B.max boot_max' (qa_cons (qv 0 rfl zq3x) qa_nil)))
    (qb_cons (qs_set (i := 3) zq24.nd rfl zq5f (.inl rfl) (qe_cB (kSum (K := K) rfl rfl) zq9w B.sum boot_sum' (qa_cons (qv 0 rfl zq3x) qa_nil)))
    (qb_mid (qs_while PassesOwn.never (qt_cmp opLt (qv 2 rfl zq3w) (qv 3 rfl zq5g)) (qb_cons (qs_set (i := 4) zq24.nd rfl zq89 (.inl rfl) (qe_op opFdiv (qe_op opAdd (qv 2 rfl zq3w) (qv 3 rfl zq5g)) qe_int))
    (qb_one (qs_if (qt_cmp opLe (qe_def zq2g hr (by decide) zq5h (qa_cons (qv 0 rfl zq3x) (qa_cons (qv 4 rfl zq31) qa_nil))) (qv 1 rfl zq9b)) (qb_one (qs_set (i := 3) zq24.nd rfl zq5f (.inl rfl) (qv 4 rfl zq31))) (qb_one (qs_set (i := 2) zq24.nd rfl zq62 (.inl rfl) (qe_op opAdd (qv 4 rfl zq31) qe_int)))))))
    (qb_one (qs_ret (qv 2 rfl zq3w))))))⟩
open M5 M10 M11 M7
theorem row_sum' {ns : List Int} (h : RowN ns) : 0 ≤ ns.sum ∧ ns.sum ≤ 120000000000000 := by
  have key : ∀ l : List Int, (∀ n ∈ l, 0 ≤ n) → (∀ n ∈ l, n ≤ 1000000000000) → 0 ≤ l.sum ∧ l.sum ≤ 1000000000000 * l.length := by
    intro l
    induction l with
    | nil => intro _ _; simp
    | cons x l ih =>
      intro h0 h1
      obtain ⟨a, b⟩ := ih (fun n hn => h0 n (List.mem_cons_of_mem _ hn)) fun n hn => h1 n (List.mem_cons_of_mem _ hn)
      have := h0 x List.mem_cons_self
      have := h1 x List.mem_cons_self
      rw [List.sum_cons, List.length_cons]
      omega
  have := key ns h.nn h.ub
  have := h.le
  omega
def zq3s : Sp := fun vs H Q _ => ∃ (r : Addr) (m : Nat) (ns : List Int) (t : Int), vs = [.ref r, .int m] ∧ H r = some (.lst (ns.map V.int)) ∧ RowN ns ∧ 1 ≤ m ∧ m ≤ ns.length ∧ T 0 ns (m - 1) 0 = some t ∧ ∀ H', Same H H' → 0 ≤ t → t ≤ 120000000000000 → (∀ n ∈ ns, n ≤ t) → Q (.int t) H'
theorem zqbu (B : Bl mg) (zq2g : Def P w K mg base 2 "fewest_pieces" ["row", "bound"] zq30) (F : Fun K "least_bound" "least_bound" zqe f fd) : FnOk P w K mg base CX0 3 f fd ["row", "many"] zq3s := by
  refine F.okq zq24 (fun vs H Q E h => ?_) (fun cdv A outer s H vs Q E hr h => ?_)
  · obtain ⟨r, m, ns, t, rfl, _⟩ := h; rfl
  obtain ⟨r, m, ns, t, rfl, hr0, rn, hm1, hmn, hT, q⟩ := h
  refine ⟨zqcb B zq2g hr, ?_⟩
  have hnn := rn.nn
  have hle : ns.length ≤ 1000 := by have := rn.le; omega
  have hne : ns ≠ [] := fun z => by have := rn.ne; rw [z] at this; simp at this
  have hiff : ∀ b, t ≤ b ↔ (∀ x ∈ ns, x ≤ b) ∧ gp b ns ≤ m := fun b => by
    have := T_iff0 hnn b (k := m - 1) (i := 0) (by omega) hT
    rw [show m - 1 + 1 = m by omega, List.drop_zero] at this; exact this
  have hall := ((hiff t).mp (Int.le_refl t)).1
  have hsum := row_sum' rn
  have hts : t ≤ ns.sum := by
    refine (hiff _).mpr ⟨fun x hx => mem_le_sum hnn x hx, ?_⟩
    unfold gp
    rw [if_neg hne, lcut_nil _ 0 0 hnn (by omega)]
    simp; omega
  refine i_max (SqL.of hr0) hne fun M hM hmax => i_sum (SqL.of hr0) ?_
  have hMt : M ≤ t := hall M hM
  have hM0 := hnn M hM
  refine ⟨fun σ H' => Same H H' ∧ ∃ o3 o4, σ = [some (.ref r), some (.int m), some (.int t), o3, o4], ?_, ?_⟩
  · refine while_m (fun mm σ H' => ∃ lo hi : Int, ∃ o4, M ≤ lo ∧ lo ≤ t ∧ t ≤ hi ∧ hi ≤ ns.sum ∧ mm = (hi - lo).toNat ∧ Same H H' ∧ σ = [some (.ref r), some (.int m), some (.int lo), some (.int hi), o4]) _ ⟨M, ns.sum, _, Int.le_refl M, hMt, hts, Int.le_refl _, rfl, Same.refl H, rfl⟩ ?_
    rintro mm σ H1 ⟨lo, hi, o4, h1, h2, h3, h4, rfl, s1, rfl⟩
    refine dec2 (fun c => ?_) (fun c => ?_)
    · refine ⟨⟨by decide, by decide⟩, r, (lo + hi) / 2, ns, rfl, s1 _ _ hr0, hne, hle, fun H2 s2 => ?_⟩
      have hmid : ∀ n ∈ ns, n ≤ (lo + hi) / 2 := fun n hn => by have := hmax n hn; omega
      have hi2 := hiff ((lo + hi) / 2)
      have hgp : gp ((lo + hi) / 2) ns = (lcut ((lo + hi) / 2) 0 0 ns).length + 1 := by unfold gp; rw [if_neg hne]
      rw [fewV_ok hmid]
      refine dec2 (fun c2 => ?_) (fun c2 => ?_)
      · have := hi2.mpr ⟨hmid, by omega⟩
        exact ⟨((lo + hi) / 2 - lo).toNat, by omega, lo, (lo + hi) / 2, _, h1, h2, this, by omega, rfl, s1.trans s2, rfl⟩
      · have : ¬ t ≤ (lo + hi) / 2 := fun z => c2 (by have := (hi2.mp z).2; omega)
        exact ⟨(hi - ((lo + hi) / 2 + 1)).toNat, by omega, (lo + hi) / 2 + 1, hi, _, by omega, by omega, h3, h4, rfl, s1.trans s2, rfl⟩
    · have : lo = t := by omega
      subst this
      exact ⟨s1, _, _, rfl⟩
  · rintro σ H1 ⟨s1, o3, o4, rfl⟩
    exact q H1 s1 (by omega) (by omega) hall
abbrev zqb : Stmt := top 17
theorem zq1y : FnScope ["row", "ahead", "end", "bound", "begin", "total"] ["row", "ahead", "end", "bound"] (defScope zqb) := ⟨rfl, rfl, rfl, by decide +kernel, rfl, by decide +kernel, by decide +kernel⟩
theorem zq3z : Loc (defScope zqb) "begin" := Or.inl (by kernel_rfl)
theorem zq40 : Loc (defScope zqb) "total" := Or.inl (by kernel_rfl)
theorem zq7h : Vis (defScope zqb) "ahead" := Or.inl (by kernel_rfl)
theorem zq17 : Vis (defScope zqb) "begin" := Or.inl (by kernel_rfl)
theorem zq7i : Vis (defScope zqb) "bound" := Or.inl (by kernel_rfl)
theorem zq8a : Vis (defScope zqb) "end" := Or.inl (by kernel_rfl)
theorem zq32 : Vis (defScope zqb) "row" := Or.inl (by kernel_rfl)
theorem zq7j : Vis (defScope zqb) "total" := Or.inl (by kernel_rfl)
def zqah {cdv : Value} {A : Around} {outer : List Env} {s : Shared} {H : Hp} {E : XK} (B : Bl mg) (hr : Room 0 (A.deeper (PyProof.Rows.envOfC "earliest_begin" (defScope zqb) s.heap.objs.size f cdv))) :
    { t : TS // QB (cxOf CX0 P w K mg base ["row", "ahead", "end", "bound", "begin", "total"] "earliest_begin" (defScope zqb) f cdv A outer s H E).nox (defBody zqb) t } :=
  ⟨_, (qb_cons (qs_set (i := 4) zq1y.nd rfl zq3z (.inl rfl) (qe_op opSub (qv 2 rfl zq8a) qe_int))
    (qb_cons (qs_set (i := 5) zq1y.nd rfl zq40 (.inl rfl) (ke_ix (K := K) rfl (qv 0 rfl zq32) (qv 4 rfl zq17) (fun _ _ => rfl)))
    (qb_mid (qs_while PassesOwn.never (QW.pt (qw_and (qt_cmp opGt (qv 4 rfl zq17) (qv 1 rfl zq7h)) (qw_and1 (qt_cmp opLe (qe_op opAdd (qv 5 rfl zq7j) (ke_ix (K := K) rfl (qv 0 rfl zq32) (qe_op opSub (qv 4 rfl zq17) qe_int) (fun _ _ => rfl))) (qv 3 rfl zq7i))))) (qb_cons (qs_aug (i := 4) zq1y.nd rfl zq3z (.inl rfl) qe_int ipSub)
    (qb_one (qs_aug (i := 5) zq1y.nd rfl zq40 (.inl rfl) (ke_ix (K := K) rfl (qv 0 rfl zq32) (qv 4 rfl zq17) (fun _ _ => rfl)) ipAdd))))
    (qb_one (qs_ret (qv 4 rfl zq17))))))⟩
def zq2p : Sp := fun vs H Q _ => ∃ (r : Addr) (a e : Nat) (b : Int) (ns : List Int), vs = [.ref r, .int a, .int e, .int b] ∧ H r = some (.lst (ns.map V.int)) ∧ a < e ∧ e ≤ ns.length ∧ (∀ n ∈ ns, n ≤ b) ∧
  ∀ y : Nat, a ≤ y → y < e → seg ns y e ≤ b → (y = a ∨ (1 ≤ y ∧ b < seg ns (y - 1) e)) → Q (.int y) H
theorem zq9x (B : Bl mg) (F : Fun K "earliest_begin" "earliest_begin" zqb f fd) : FnOk P w K mg base CX0 1 f fd ["row", "ahead", "end", "bound"] zq2p := by
  refine F.okq zq1y (fun vs H Q E h => ?_) (fun cdv A outer s H vs Q E hr h => ?_)
  · obtain ⟨r, a, e, b, ns, rfl, _⟩ := h; rfl
  obtain ⟨r, a, e, b, ns, rfl, hr0, hae, hen, hall, q⟩ := h
  refine ⟨zqah B hr, ?_⟩
  have e1 : (((e : Int) - 1)).toNat = e - 1 := by omega
  refine i_ixI hr0 (by omega) (by omega) ?_
  rw [e1]
  have hs1 : seg ns (e - 1) e = ns.getD (e - 1) 0 := by
    rw [seg_step (show e - 1 < e by omega) hen, show e - 1 + 1 = e by omega, seg_self]; omega
  have hin : ns.getD (e - 1) 0 ≤ b := by
    refine hall _ ?_
    rw [List.getD_eq_getElem?_getD, List.getElem?_eq_getElem (show e - 1 < ns.length by omega)]
    exact List.getElem_mem _
  refine ⟨fun σ H' => H' = H ∧ ∃ y : Nat, a ≤ y ∧ y < e ∧ seg ns y e ≤ b ∧ (y = a ∨ (1 ≤ y ∧ b < seg ns (y - 1) e)) ∧ ∃ o5, σ = [some (.ref r), some (.int a), some (.int e), some (.int b), some (.int y), o5], ?_, ?_⟩
  · refine while_m (fun mm σ H' => H' = H ∧ ∃ y : Nat, a ≤ y ∧ y < e ∧ mm = y ∧ seg ns y e ≤ b ∧ σ = [some (.ref r), some (.int a), some (.int e), some (.int b), some (.int y), some (.int (seg ns y e))]) (e - 1) ⟨rfl, e - 1, by omega, by omega, rfl, by omega, by rw [hs1, show ((e - 1 : Nat) : Int) = (e : Int) - 1 by omega]; rfl⟩ ?_
    rintro mm σ H' ⟨rfl, y, h1, h2, hmm, h3, rfl⟩
    refine dec2 (fun c => ?_) (fun c => ?_)
    · have hst := seg_step (ns := ns) (k := y - 1) (e := e) (by omega) hen
      rw [show y - 1 + 1 = y by omega] at hst
      have ey : ((y : Int) - 1).toNat = y - 1 := by omega
      refine i_ixI hr0 (by omega) (by omega) ?_
      rw [ey]
      refine dec2 (fun c2 => ?_) (fun c2 => ?_)
      · refine i_ixI (i := (y : Int) - 1) hr0 (by omega) (by omega) ?_
        rw [ey]
        have e2 : ((y - 1 : Nat) : Int) = (y : Int) - 1 := by omega
        have hfin : seg ns (y - 1) e = seg ns y e + ns.getD (y - 1) 0 := by omega
        refine ⟨y - 1, by omega, rfl, y - 1, by omega, by omega, rfl, ?_, ?_⟩
        · have c2' : seg ns y e + ns.getD (y - 1) 0 ≤ b := c2
          omega
        · rw [e2, hfin]; rfl
      · have c2' : ¬ seg ns y e + ns.getD (y - 1) 0 ≤ b := c2
        exact ⟨rfl, y, h1, h2, h3, .inr ⟨by omega, by omega⟩, _, rfl⟩
    · exact bF ⟨rfl, y, h1, h2, h3, .inl (by omega), _, rfl⟩
  · rintro σ H' ⟨rfl, y, h1, h2, h3, h4, o5, rfl⟩
    exact q y h1 h2 h3 h4
end
end K
set_option linter.all false
set_option Elab.async false
set_option maxRecDepth 100000
set_option maxHeartbeats 4000000
namespace K
open PySem L2
section
variable {C : Addr} {P : Program} {w : World} {K : PySem.W.Frag} {mg : Str → Option Value} {base : Heap} {f : Addr} {fd : FuncData}
def worse (w : Nat) (o : Option Int) (b : Int) : Bool := match o with
  | none => true
  | some t => if w = 0 then decide (b < t) else decide (t < b)
open M5 M10 M11
inductive FirstCut (w : Nat) (ns : List Int) (t : Int) : Nat → Nat → List Int → Prop where
  | nil (i : Nat) : FirstCut w ns t 0 i []
  | step {l i e : Nat} {c : List Int} (h1 : i < e) (h2 : e < ns.length) (h3 : worse w (some (seg ns i e)) t = false) (h4 : worse w (T w ns l e) t = false)
      (h5 : ∀ j, i < j → j < e → worse w (some (seg ns i j)) t = true ∨ worse w (T w ns l j) t = true) (h6 : FirstCut w ns t l e c) : FirstCut w ns t (l + 1) i ((e : Int) :: c)
theorem FirstCut.len {w : Nat} {ns : List Int} {t : Int} {l i : Nat} {c : List Int} (h : FirstCut w ns t l i c) : c.length = l := by
  induction h with
  | nil => rfl
  | step _ _ _ _ _ _ ih => rw [List.length_cons, ih]
abbrev zqa : Stmt := top 16
theorem zq2h : FnScope ["row", "many", "bound", "places", "end", "ahead"] ["row", "many", "bound"] (defScope zqa) := ⟨rfl, rfl, rfl, by decide +kernel, rfl, by decide +kernel, by decide +kernel⟩
theorem zq8b : Loc (defScope zqa) "ahead" := Or.inl (by kernel_rfl)
theorem zq5i : Loc (defScope zqa) "end" := Or.inl (by kernel_rfl)
theorem zq7z : Loc (defScope zqa) "places" := Or.inl (by kernel_rfl)
theorem zq8c : Vis (defScope zqa) "ahead" := Or.inl (by kernel_rfl)
theorem zq8d : Vis (defScope zqa) "bound" := Or.inl (by kernel_rfl)
theorem zq5j : Vis (defScope zqa) "end" := Or.inl (by kernel_rfl)
theorem zq8u : Vis (defScope zqa) "many" := Or.inl (by kernel_rfl)
theorem zq4j : Vis (defScope zqa) "places" := Or.inl (by kernel_rfl)
theorem zq5k : Vis (defScope zqa) "row" := Or.inl (by kernel_rfl)
theorem zq51 : (defScope zqa).names.lookup ("earliest_begin" : Str) = some NameKind.globalImplicit := by kernel_rfl
theorem zq9c : (defScope zqa).names.lookup ("len" : Str) = some NameKind.globalImplicit := by kernel_rfl
theorem zq8e : (defScope zqa).names.lookup ("range" : Str) = some NameKind.globalImplicit := by kernel_rfl
def zqbv {cdv : Value} {A : Around} {outer : List Env} {s : Shared} {H : Hp} {E : XK} (B : Bl mg) (zq26 : Def P w K mg base 1 "earliest_begin" ["row", "ahead", "end", "bound"] zq2p) (hr : Room 1 (A.deeper (PyProof.Rows.envOfC "earliest_cut" (defScope zqa) s.heap.objs.size f cdv))) :
    { t : TS // QB (cxOf CX0 P w K mg base ["row", "many", "bound", "places", "end", "ahead"] "earliest_cut" (defScope zqa) f cdv A outer s H E).nox (defBody zqa) t } :=
  ⟨_, (qb_cons (qs_set (i := 3) zq2h.nd rfl zq7z (.inl rfl) (qe_lst qa_nil))
    (qb_cons (qs_set (i := 4) zq2h.nd rfl zq5i (.inl rfl) (qe_cB (kLen (K := K) rfl) zq9c B.len boot_len' (qa_cons (qv 0 rfl zq5k) qa_nil)))
    (qb_mid (qs_for PassesOwn.never rfl (qi_r3 zq8e B.range (qa_cons (qe_op opSub (qv 1 rfl zq8u) qe_int) (qa_cons qe_int (qa_cons (qe_un unNeg qe_int) qa_nil)))) (qg_name (i := 5) zq2h.nd rfl zq8b (.inl rfl)) (qb_cons (qs_set (i := 4) zq2h.nd rfl zq5i (.inl rfl) (qe_def zq26 hr (by decide) zq51 (qa_cons (qv 0 rfl zq5k) (qa_cons (qv 5 rfl zq8c) (qa_cons (qv 4 rfl zq5j) (qa_cons (qv 2 rfl zq8d) qa_nil))))))
    (qb_one (qs_ex (ke_m1 (K := K) rfl PySem.F.plainAttrs_list PySem.F.slot_list_append PySem.F.type_list_append mtApp (qv 3 rfl zq4j) (qv 4 rfl zq5j))))))
    (qb_one (qs_ret (qe_rev (K := K) rfl (qv 3 rfl zq4j) (qo_some (qe_un unNeg qe_int))))))))⟩
open M5 M10 M11 M7
def zq3f : Sp := fun vs H Q _ => ∃ (r : Addr) (m : Nat) (ns : List Int) (t : Int), vs = [.ref r, .int m, .int t] ∧ H r = some (.lst (ns.map V.int)) ∧ (∀ n ∈ ns, 0 ≤ n) ∧ ns.length ≤ 1000 ∧ (∀ n ∈ ns, n ≤ t) ∧ 1 ≤ m ∧ m ≤ ns.length ∧ T 0 ns (m - 1) 0 = some t ∧
  ∀ p c H', FirstCut 0 ns t (m - 1) 0 c → (∀ n ∈ c, 0 ≤ n ∧ n ≤ 1000) → H p = none → Same H H' → H' p = some (.lst (c.map V.int)) → Q (.ref p) H'
theorem zqbg (B : Bl mg) (zq26 : Def P w K mg base 1 "earliest_begin" ["row", "ahead", "end", "bound"] zq2p) (F : Fun K "earliest_cut" "earliest_cut" zqa f fd) : FnOk P w K mg base CX0 2 f fd ["row", "many", "bound"] zq3f := by
  refine F.okq zq2h (fun vs H Q E h => ?_) (fun cdv A outer s H vs Q E hr h => ?_)
  · obtain ⟨r, m, ns, t, rfl, _⟩ := h; rfl
  obtain ⟨r, m, ns, t, rfl, hr0, hnn, hle, hall, hm1, hmn, hT, q⟩ := h
  refine ⟨zqbv B zq26 hr, ?_⟩
  refine i_newL (by show 0 ≤ sizeLine; decide) fun p H1 hp s1 e1 => ?_
  refine i_lenI (s1 _ _ hr0) ?_
  refine ⟨fun σ H' => Same H H' ∧ ∃ (c : List Int), FirstCut 0 ns t (m - 1) 0 c.reverse ∧ (∀ n ∈ c, 0 ≤ n ∧ n ≤ 1000) ∧ H' p = some (.lst (c.map V.int)) ∧ ∃ o4 o5, σ = [some (.ref r), some (.int m), some (.int t), some (.ref p), o4, o5], ?_, ?_⟩
  · refine ⟨rfl, ⟨by omega, by omega, by omega, by omega⟩, for_down (fun l σ H' => Same H H' ∧ l ≤ m - 1 ∧ ∃ (x : Nat) (c : List Int), Back ns t m l x ∧ c.length = l ∧ (∀ n ∈ c, 0 ≤ n ∧ n ≤ 1000) ∧ (∀ i, (l = 0 ∨ (m - l - 1 ≤ i ∧ i < x ∧ seg ns i x ≤ t)) → FirstCut 0 ns t l i c.reverse) ∧ H' p = some (.lst (c.map V.int)) ∧ ∃ o5, σ = [some (.ref r), some (.int m), some (.int t), some (.ref p), some (.int x), o5]) ?_ ?_ ?_⟩
    · exact ⟨s1, Nat.zero_le _, ns.length, [], Back.start ns t m, rfl, by simp, fun i _ => FirstCut.nil i, e1, _, rfl⟩
    · rintro l σ H2 hl ⟨s2, _, x, c, hb, hcl, hc1, hF, e2, o5, rfl⟩
      have hl' : l + 1 < m := by omega
      have hxl := hb.le
      have hxge : m - l - 1 < x := by
        by_cases z : l = 0
        · have := hb.at0 z; omega
        · have := hb.ge (by omega); omega
      have ea : ((m : Int) - 1 - l) = ((m - l - 1 : Nat) : Int) := by omega
      rw [ea]
      refine ⟨r, m - l - 1, x, t, ns, rfl, s2 _ _ hr0, hxge, by omega, hall, fun y h1 h2 h3 h4 => ?_⟩
      have hb' := hb.step hnn hl' hmn h1 h2 h3 h4
      refine ⟨i_tyL e2, i_appI e2 (by omega) fun H3 k3 e3 => ?_⟩
      refine ⟨s2.new k3 hp, by omega, y, c ++ [(y : Int)], hb', by simp [hcl], fun n hn => ?_, fun i hi => ?_, e3, _, rfl⟩
      · rcases List.mem_append.mp hn with hn | hn
        · exact hc1 n hn
        · have : n = (y : Int) := by simpa using hn
          omega
      · rcases hi with z | ⟨i1, i2, i3⟩
        · omega
        rw [List.reverse_append, List.reverse_singleton, List.singleton_append]
        obtain ⟨v, hv, hvt⟩ := hb'.fit l rfl
        refine FirstCut.step i2 (by omega) ?_ ?_ (fun j hj1 hj2 => .inr ?_) (hF y ?_)
        · simp only [worse]; rw [if_pos trivial]; exact decide_eq_false (by omega)
        · rw [hv]; simp only [worse]; rw [if_pos trivial]; exact decide_eq_false (by omega)
        · cases hTj : T 0 ns l j with
          | none => rfl
          | some u =>
            have := hb'.no l rfl j (by omega) hj2 u hTj
            simp only [worse]; rw [if_pos trivial]; exact decide_eq_true this
        · by_cases z : l = 0
          · exact .inl z
          · exact .inr ⟨h1, h2, h3⟩
    · rintro σ H2 ⟨s2, _, x, c, hb, hcl, hc1, hF, e2, o5, rfl⟩
      have en : ((m : Int) - 1 - 0).toNat = m - 1 := by omega
      rw [en] at hb hF hcl
      refine ⟨s2, c, hF 0 ?_, hc1, e2, _, _, rfl⟩
      by_cases z : m = 1
      · exact .inl (by omega)
      · obtain ⟨h1, h2⟩ := hb.top hnn (by omega) hmn hT
        exact .inr ⟨by omega, h1, h2⟩
  · rintro σ H2 ⟨s2, c, hF, hc1, e2, o4, o5, rfl⟩
    refine ⟨rfl, i_rev (SqL.of e2) fun p3 H3 hp3 s3 e3 => q p3 c.reverse H3 hF (fun n hn => hc1 n (by simpa using hn)) (s2.free hp3) (s2.trans s3) ?_⟩
    rw [e3, List.map_reverse]
end
end K
set_option linter.all false
set_option Elab.async false
set_option maxRecDepth 100000
set_option maxHeartbeats 4000000
namespace K
open PySem L2
section
variable {C : Addr} {P : Program} {w : World} {K : PySem.W.Frag} {mg : Str → Option Value} {base : Heap} {f : Addr} {fd : FuncData}
abbrev zqf : Stmt := top 14
theorem zq63 : FnScope ["row", "many", "bound"] ["row", "many"] (defScope zqf) := ⟨rfl, rfl, rfl, by decide +kernel, rfl, by decide +kernel, by decide +kernel⟩
theorem zq7k : Loc (defScope zqf) "bound" := Or.inl (by kernel_rfl)
theorem zq41 : Vis (defScope zqf) "bound" := Or.inl (by kernel_rfl)
theorem zq2u : Vis (defScope zqf) "many" := Or.inl (by kernel_rfl)
theorem zq33 : Vis (defScope zqf) "row" := Or.inl (by kernel_rfl)
theorem zq5l : (defScope zqf).names.lookup ("check_many" : Str) = some NameKind.globalImplicit := by kernel_rfl
theorem zq52 : (defScope zqf).names.lookup ("earliest_cut" : Str) = some NameKind.globalImplicit := by kernel_rfl
theorem zq58 : (defScope zqf).names.lookup ("least_bound" : Str) = some NameKind.globalImplicit := by kernel_rfl
def zqai {cdv : Value} {A : Around} {outer : List Env} {s : Shared} {H : Hp} {E : XK} (B : Bl mg) (zqj : Def P w K mg base 3 "check_many" ["row", "many"] zq11) (zq3b : Def P w K mg base 3 "least_bound" ["row", "many"] zq3s) (zq2v : Def P w K mg base 2 "earliest_cut" ["row", "many", "bound"] zq3f) (hr : Room 3 (A.deeper (PyProof.Rows.envOfC "least_greatest" (defScope zqf) s.heap.objs.size f cdv))) :
    { t : TS // QB (cxOf CX0 P w K mg base ["row", "many", "bound"] "least_greatest" (defScope zqf) f cdv A outer s H E).nox (defBody zqf) t } :=
  ⟨_, (qb_cons (qs_ex (qe_def zqj hr (by decide) zq5l (qa_cons (qv 0 rfl zq33) (qa_cons (qv 1 rfl zq2u) qa_nil))))
    (qb_cons (qs_set (i := 2) zq63.nd rfl zq7k (.inl rfl) (qe_def zq3b hr (by decide) zq58 (qa_cons (qv 0 rfl zq33) (qa_cons (qv 1 rfl zq2u) qa_nil))))
    (qb_one (qs_ret (qe_tup (qa_cons (qv 2 rfl zq41) (qa_cons (qe_def zq2v hr (by decide) zq52 (qa_cons (qv 0 rfl zq33) (qa_cons (qv 1 rfl zq2u) (qa_cons (qv 2 rfl zq41) qa_nil)))) qa_nil)))))))⟩
open M5 M10 M11 M7
def zq1e : Sp := fun vs H Q _ => ∃ (r : Addr) (m : Nat) (ns : List Int) (t : Int), vs = [.ref r, .int m] ∧ H r = some (.lst (ns.map V.int)) ∧ RowN ns ∧ 1 ≤ m ∧ m ≤ ns.length ∧ T 0 ns (m - 1) 0 = some t ∧
  ∀ p pc c H', 0 ≤ t → t ≤ 120000000000000 → FirstCut 0 ns t (m - 1) 0 c → (∀ n ∈ c, 0 ≤ n ∧ n ≤ 1000) → H p = none → H pc = none → Same H H' → H' p = some (.tup [.int t, .ref pc]) → H' pc = some (.lst (c.map V.int)) → Q (.ref p) H'
theorem zq9y (B : Bl mg) (zqj : Def P w K mg base 3 "check_many" ["row", "many"] zq11) (zq3b : Def P w K mg base 3 "least_bound" ["row", "many"] zq3s) (zq2v : Def P w K mg base 2 "earliest_cut" ["row", "many", "bound"] zq3f)
    (F : Fun K "least_greatest" "least_greatest" zqf f fd) : FnOk P w K mg base CX0 4 f fd ["row", "many"] zq1e := by
  refine F.okq zq63 (fun vs H Q E h => ?_) (fun cdv A outer s H vs Q E hr h => ?_)
  · obtain ⟨r, m, ns, t, rfl, _⟩ := h; rfl
  obtain ⟨r, m, ns, t, rfl, hr0, rn, hm1, hmn, hT, q⟩ := h
  refine ⟨zqai B zqj zq3b zq2v hr, ?_⟩
  have hle : ns.length ≤ 1000 := by have := rn.le; omega
  refine ⟨r, m, _, rfl, hr0, by omega, by rw [List.length_map]; omega, ?_⟩
  refine ⟨r, m, ns, t, rfl, hr0, rn, hm1, hmn, hT, fun H1 s1 ht0 htb hall => ?_⟩
  refine ⟨r, m, ns, t, rfl, s1 _ _ hr0, rn.nn, hle, hall, hm1, hmn, hT, fun pc c H2 hF hc hpc s2 e2 => ?_⟩
  refine i_newT (by show 2 ≤ sizeLine; decide) fun p H3 hp s3 e3 => ?_
  exact q p pc c H3 ht0 htb hF hc ((s1.trans s2).free hp) (s1.free hpc) (s1.trans (s2.trans s3)) e3 (s3 _ _ e2)
end
end K
set_option linter.all false
set_option Elab.async false
set_option maxRecDepth 100000
set_option maxHeartbeats 4000000
namespace K
open PySem L2
section
variable {C : Addr} {P : Program} {w : World} {K : PySem.W.Frag} {mg : Str → Option Value} {base : Heap} {f : Addr} {fd : FuncData}
abbrev zqk : Stmt := top 19
theorem zq1u : FnScope ["row", "bound", "ends", "total", "place", "number"] ["row", "bound"] (defScope zqk) := ⟨rfl, rfl, rfl, by decide +kernel, rfl, by decide +kernel, by decide +kernel⟩
theorem zq9z : Loc (defScope zqk) "ends" := Or.inl (by kernel_rfl)
theorem zq8v : Loc (defScope zqk) "number" := Or.inl (by kernel_rfl)
theorem zq9d : Loc (defScope zqk) "place" := Or.inl (by kernel_rfl)
theorem zq3h : Loc (defScope zqk) "total" := Or.inl (by kernel_rfl)
theorem zq9e : Vis (defScope zqk) "bound" := Or.inl (by kernel_rfl)
theorem zq64 : Vis (defScope zqk) "ends" := Or.inl (by kernel_rfl)
theorem zq8w : Vis (defScope zqk) "number" := Or.inl (by kernel_rfl)
theorem zq9f : Vis (defScope zqk) "place" := Or.inl (by kernel_rfl)
theorem zqaj : Vis (defScope zqk) "row" := Or.inl (by kernel_rfl)
theorem zq9g : Vis (defScope zqk) "total" := Or.inl (by kernel_rfl)
theorem zq7l : (defScope zqk).names.lookup ("enumerate" : Str) = some NameKind.globalImplicit := by kernel_rfl
def zqcp {cdv : Value} {A : Around} {outer : List Env} {s : Shared} {H : Hp} {E : XK} (B : Bl mg) (hr : Room 0 (A.deeper (PyProof.Rows.envOfC "short_ends" (defScope zqk) s.heap.objs.size f cdv))) :
    { t : TS // QB (cxOf CX0 P w K mg base ["row", "bound", "ends", "total", "place", "number"] "short_ends" (defScope zqk) f cdv A outer s H E).nox (defBody zqk) t } :=
  ⟨_, (qb_cons (qs_set (i := 2) zq1u.nd rfl zq9z (.inl rfl) (qe_lst qa_nil))
    (qb_cons (qs_set (i := 3) zq1u.nd rfl zq3h (.inl rfl) qe_int)
    (qb_mid (qs_for PassesOwn.never rfl (ki_enum (K := K) rfl zq7l B.enumerate (qa_cons (qv 0 rfl zqaj) qa_nil)) (kg_tup (K := K) rfl rfl (qgs_cons (qg_name (i := 4) zq1u.nd rfl zq9d (.inl rfl)) (qgs_cons (qg_name (i := 5) zq1u.nd rfl zq8v (.inl rfl)) qgs_nil))) (qb_cons (qs_aug (i := 3) zq1u.nd rfl zq3h (.inl rfl) (qv 5 rfl zq8w) ipAdd)
    (qb_one (qs_if (qt_cmp opGe (qv 3 rfl zq9g) (qv 1 rfl zq9e)) (qb_cons (qs_ex (ke_m1 (K := K) rfl PySem.F.plainAttrs_list PySem.F.slot_list_append PySem.F.type_list_append mtApp (qv 2 rfl zq64) (qe_op opAdd (qv 4 rfl zq9f) qe_int)))
    (qb_one (qs_set (i := 3) zq1u.nd rfl zq3h (.inl rfl) qe_int))) qb_nil))))
    (qb_one (qs_ret (qv 2 rfl zq64))))))⟩
open M10 in
def zq1h : Sp := fun vs H Q _ => ∃ (r : Addr) (b : Int) (ns : List Int), vs = [.ref r, .int b] ∧ H r = some (.lst (ns.map V.int)) ∧ ns.length ≤ 1000 ∧
  ∀ p H', H p = none → Same H H' → H' p = some (.lst ((sends b 0 0 ns).map V.int)) → Q (.ref p) H'
open M10 in
theorem zqcc (B : Bl mg) (F : Fun K "short_ends" "short_ends" zqk f fd) : FnOk P w K mg base CX0 1 f fd ["row", "bound"] zq1h := by
  refine F.okq zq1u (fun vs H Q E h => ?_) (fun cdv A outer s H vs Q E hr h => ?_)
  · obtain ⟨r, b, ns, rfl, _⟩ := h; rfl
  obtain ⟨r, b, ns, rfl, hr0, hle, q⟩ := h
  refine ⟨zqcp B hr, ?_⟩
  refine i_newL (by show 0 ≤ sizeLine; decide) fun p H1 hp s1 e1 => ?_
  refine ⟨fun σ H' => Same H H' ∧ H' p = some (.lst ((sends b 0 0 ns).map V.int)) ∧ ∃ o3 o4 o5, σ = [some (.ref r), some (.int b), some (.ref p), o3, o4, o5], ?_, ?_⟩
  · refine ⟨⟨_, SqL.of (s1 _ _ hr0)⟩, for_en (ns.map V.int) (fun i σ H' => ∃ o1 o2, σ = [some (.ref r), some (.int b), some (.ref p), some (.int (stot b 0 (ns.take i))), o1, o2] ∧ Same H H' ∧ H' p = some (.lst ((sends b 0 0 (ns.take i)).map V.int))) ?_ ?_ ?_ ?_⟩
    · exact ⟨none, none, rfl, s1, e1⟩
    · rintro i σ H' _ ⟨o1, o2, rfl, s', e'⟩
      exact SqL.of (s' _ _ hr0)
    · rintro i x σ H' T H2 hx ⟨o1, o2, rfl, s', e'⟩ hT s2 e2
      obtain ⟨z, rfl, hz, _⟩ := vints_at hx
      have hi : i < ns.length := (List.getElem?_eq_some_iff.mp hz).1
      have hlen : (ns.take i).length = i := by rw [List.length_take]; omega
      have et := take_snoc hz
      have e3 := s2 _ _ e'
      have ll : (sends b 0 0 (ns.take i)).length ≤ 1000 := by have := sends_len b (ns.take i) 0 0; omega
      have el : sends b 0 0 (ns.take (i + 1)) = sends b 0 0 (ns.take i) ++ (if stot b 0 (ns.take i) + z ≥ b then [((i + 1 : Nat) : Int)] else []) := by
        rw [et, sends_app, hlen, Nat.zero_add]
        simp only [sends]
      have es : stot b 0 (ns.take (i + 1)) = if stot b 0 (ns.take i) + z ≥ b then 0 else stot b 0 (ns.take i) + z := by
        rw [et, stot_app]
        simp only [stot]
      refine i_unp e2 rfl ?_
      refine dec2 (fun c => ?_) (fun c => ?_)
      · have c' : stot b 0 (ns.take i) + z ≥ b := c
        refine ⟨i_tyL e3, i_appI e3 (by omega) fun H4 k4 e4 => ?_⟩
        refine ⟨some (.int i), some (.int z), by rw [es, if_pos c']; rfl, (s'.trans s2).new k4 hp, ?_⟩
        rw [e4, el, if_pos c']; rfl
      · have c' : ¬ stot b 0 (ns.take i) + z ≥ b := c
        refine ⟨some (.int i), some (.int z), by rw [es, if_neg c']; rfl, s'.trans s2, ?_⟩
        rw [e3, el, if_neg c', List.append_nil]
    · rintro σ H' ⟨o1, o2, rfl, s', e'⟩
      rw [List.length_map, List.take_length] at e'
      exact ⟨s', e', _, _, _, rfl⟩
  · rintro σ H' ⟨s', e', o3, o4, o5, rfl⟩
    exact q p H' hp s' e'
end
end K
set_option linter.all false
set_option Elab.async false
set_option maxRecDepth 100000
set_option maxHeartbeats 4000000
namespace K
open PySem L2
section
variable {C : Addr} {P : Program} {w : World} {K : PySem.W.Frag} {mg : Str → Option Value} {base : Heap} {f : Addr} {fd : FuncData}
abbrev zq7 : Stmt := top 21
theorem zq1f : FnScope ["row", "many", "low", "high", "middle"] ["row", "many"] (defScope zq7) := ⟨rfl, rfl, rfl, by decide +kernel, rfl, by decide +kernel, by decide +kernel⟩
theorem zq4k : Loc (defScope zq7) "high" := Or.inl (by kernel_rfl)
theorem zq4w : Loc (defScope zq7) "low" := Or.inl (by kernel_rfl)
theorem zq70 : Loc (defScope zq7) "middle" := Or.inl (by kernel_rfl)
theorem zq4l : Vis (defScope zq7) "high" := Or.inl (by kernel_rfl)
theorem zq34 : Vis (defScope zq7) "low" := Or.inl (by kernel_rfl)
theorem zq4m : Vis (defScope zq7) "many" := Or.inl (by kernel_rfl)
theorem zq2d : Vis (defScope zq7) "middle" := Or.inl (by kernel_rfl)
theorem zq4x : Vis (defScope zq7) "row" := Or.inl (by kernel_rfl)
theorem zq8f : (defScope zq7).names.lookup ("len" : Str) = some NameKind.globalImplicit := by kernel_rfl
theorem zq5m : (defScope zq7).names.lookup ("short_ends" : Str) = some NameKind.globalImplicit := by kernel_rfl
theorem zq8g : (defScope zq7).names.lookup ("sum" : Str) = some NameKind.globalImplicit := by kernel_rfl
def zqak {cdv : Value} {A : Around} {outer : List Env} {s : Shared} {H : Hp} {E : XK} (B : Bl mg) (zqv : Def P w K mg base 1 "short_ends" ["row", "bound"] zq1h) (hr : Room 1 (A.deeper (PyProof.Rows.envOfC "greatest_bound" (defScope zq7) s.heap.objs.size f cdv))) :
    { t : TS // QB (cxOf CX0 P w K mg base ["row", "many", "low", "high", "middle"] "greatest_bound" (defScope zq7) f cdv A outer s H E).nox (defBody zq7) t } :=
  ⟨_, (qb_cons (qs_set (i := 2) zq1f.nd rfl zq4w (.inl rfl) qe_int)
    (qb_cons (qs_set (i := 3) zq1f.nd rfl zq4k (.inl rfl) (qe_op opFdiv (qe_cB (kSum (K := K) rfl rfl) zq8g B.sum boot_sum' (qa_cons (qv 0 rfl zq4x) qa_nil)) (qv 1 rfl zq4m)))
    (qb_mid (qs_while PassesOwn.never (qt_cmp opLt (qv 2 rfl zq34) (qv 3 rfl zq4l)) (qb_cons (qs_set (i := 4) zq1f.nd rfl zq70 (.inl rfl) (qe_op opFdiv (qe_op opAdd (qe_op opAdd (qv 2 rfl zq34) (qv 3 rfl zq4l)) qe_int) qe_int))
    (qb_one (qs_if (qt_cmp opGe (qe_cB (kLen (K := K) rfl) zq8f B.len boot_len' (qa_cons (qe_def zqv hr (by decide) zq5m (qa_cons (qv 0 rfl zq4x) (qa_cons (qv 4 rfl zq2d) qa_nil))) qa_nil)) (qv 1 rfl zq4m)) (qb_one (qs_set (i := 2) zq1f.nd rfl zq4w (.inl rfl) (qv 4 rfl zq2d))) (qb_one (qs_set (i := 3) zq1f.nd rfl zq4k (.inl rfl) (qe_op opSub (qv 4 rfl zq2d) qe_int)))))))
    (qb_one (qs_ret (qv 2 rfl zq34))))))⟩
open M5 M10 M11
theorem sum_seg0 (ns : List Int) : ns.sum = seg ns 0 ns.length := by unfold seg; rw [List.take_length, List.drop_zero]
theorem G_len0 (b : Int) (ns : List Int) : (sends b 0 0 ns).length = G b ns 0 := by unfold G cnt; rw [List.drop_zero]
def zq2q : Sp := fun vs H Q _ => ∃ (r : Addr) (m : Nat) (ns : List Int) (t : Int), vs = [.ref r, .int m] ∧ H r = some (.lst (ns.map V.int)) ∧ RowN ns ∧ 1 ≤ m ∧ m ≤ ns.length ∧ T 1 ns (m - 1) 0 = some t ∧ ∀ H', Same H H' → 0 ≤ t → t ≤ 120000000000000 → Q (.int t) H'
theorem zqa0 (B : Bl mg) (zqv : Def P w K mg base 1 "short_ends" ["row", "bound"] zq1h) (F : Fun K "greatest_bound" "greatest_bound" zq7 f fd) : FnOk P w K mg base CX0 2 f fd ["row", "many"] zq2q := by
  refine F.okq zq1f (fun vs H Q E h => ?_) (fun cdv A outer s H vs Q E hr h => ?_)
  · obtain ⟨r, m, ns, t, rfl, _⟩ := h; rfl
  obtain ⟨r, m, ns, t, rfl, hr0, rn, hm1, hmn, hT, q⟩ := h
  refine ⟨zqak B zqv hr, ?_⟩
  have hnn := rn.nn
  have hle : ns.length ≤ 1000 := by have := rn.le; omega
  have hiff : ∀ b, b ≤ t ↔ m ≤ G b ns 0 := fun b => by
    have := T_iff hnn b (k := m - 1) (i := 0) (by omega) hT
    rw [show m - 1 + 1 = m by omega] at this; exact this
  have ht0 : 0 ≤ t := (hiff 0).mpr (by rw [G_zero hnn]; exact hmn)
  have hsum := row_sum' rn
  have htm : t ≤ ns.sum / m := by
    rw [Int.le_ediv_iff_mul_le (by omega)]
    have h1 := G_sum hnn ht0 ns.length 0 (by omega) (by omega)
    have h2 := (hiff t).mp (Int.le_refl t)
    rw [← sum_seg0] at h1
    have h3 : t * (m : Int) ≤ t * (G t ns 0 : Int) := Int.mul_le_mul_of_nonneg_left (by omega) ht0
    omega
  have htb : t ≤ 120000000000000 := by
    have h1 := G_sum hnn ht0 ns.length 0 (by omega) (by omega)
    have h2 := (hiff t).mp (Int.le_refl t)
    rw [← sum_seg0] at h1
    have h3 : t * 1 ≤ t * (G t ns 0 : Int) := Int.mul_le_mul_of_nonneg_left (by omega) ht0
    omega
  have hmI : (0 : Int) < m := by omega
  refine i_sum (SqL.of hr0) ⟨⟨by omega, by omega⟩, ?_⟩
  have hhi : ns.sum / (m : Int) ≤ 120000000000000 := by
    have := Int.ediv_le_self (a := ns.sum) (m : Int) hsum.1
    omega
  refine ⟨fun σ H' => Same H H' ∧ ∃ o3 o4, σ = [some (.ref r), some (.int m), some (.int t), o3, o4], ?_, ?_⟩
  · refine while_m (fun mm σ H' => ∃ lo hi : Int, ∃ o4, 0 ≤ lo ∧ lo ≤ t ∧ t ≤ hi ∧ hi ≤ 120000000000000 ∧ mm = (hi - lo).toNat ∧ Same H H' ∧ σ = [some (.ref r), some (.int m), some (.int lo), some (.int hi), o4]) _ ⟨0, ns.sum / m, _, Int.le_refl 0, ht0, htm, hhi, rfl, Same.refl H, rfl⟩ ?_
    rintro mm σ H1 ⟨lo, hi, o4, h1, h2, h3, h4, rfl, s1, rfl⟩
    refine dec2 (fun c => ?_) (fun c => ?_)
    · refine ⟨⟨by decide, by decide⟩, r, (lo + hi + 1) / 2, ns, rfl, s1 _ _ hr0, hle, fun p H2 hp s2 e2 => ?_⟩
      refine i_lenI e2 ?_
      rw [G_len0]
      have hi2 := hiff ((lo + hi + 1) / 2)
      refine dec2 (fun c2 => ?_) (fun c2 => ?_)
      · have := hi2.mpr (by omega)
        exact ⟨(hi - (lo + hi + 1) / 2).toNat, by omega, (lo + hi + 1) / 2, hi, _, by omega, this, h3, h4, rfl, s1.trans s2, rfl⟩
      · have : ¬ (lo + hi + 1) / 2 ≤ t := fun z => c2 (by have := hi2.mp z; omega)
        exact ⟨((lo + hi + 1) / 2 - 1 - lo).toNat, by omega, lo, (lo + hi + 1) / 2 - 1, _, h1, h2, by omega, by omega, rfl, s1.trans s2, rfl⟩
    · have : lo = t := by omega
      subst this
      exact ⟨s1, _, _, rfl⟩
  · rintro σ H1 ⟨s1, o3, o4, rfl⟩
    exact q H1 s1 ht0 htb
end
end K
set_option linter.all false
set_option Elab.async false
set_option maxRecDepth 100000
set_option maxHeartbeats 4000000
namespace K
open PySem L2
section
variable {C : Addr} {P : Program} {w : World} {K : PySem.W.Frag} {mg : Str → Option Value} {base : Heap} {f : Addr} {fd : FuncData}
abbrev zqg : Stmt := top 20
theorem zq65 : FnScope ["row", "many", "bound"] ["row", "many"] (defScope zqg) := ⟨rfl, rfl, rfl, by decide +kernel, rfl, by decide +kernel, by decide +kernel⟩
theorem zq7m : Loc (defScope zqg) "bound" := Or.inl (by kernel_rfl)
theorem zq42 : Vis (defScope zqg) "bound" := Or.inl (by kernel_rfl)
theorem zq2w : Vis (defScope zqg) "many" := Or.inl (by kernel_rfl)
theorem zq35 : Vis (defScope zqg) "row" := Or.inl (by kernel_rfl)
theorem zq5n : (defScope zqg).names.lookup ("check_many" : Str) = some NameKind.globalImplicit := by kernel_rfl
theorem zq4r : (defScope zqg).names.lookup ("greatest_bound" : Str) = some NameKind.globalImplicit := by kernel_rfl
theorem zq5o : (defScope zqg).names.lookup ("short_ends" : Str) = some NameKind.globalImplicit := by kernel_rfl
def zqal {cdv : Value} {A : Around} {outer : List Env} {s : Shared} {H : Hp} {E : XK} (B : Bl mg) (zqj : Def P w K mg base 3 "check_many" ["row", "many"] zq11) (zq27 : Def P w K mg base 2 "greatest_bound" ["row", "many"] zq2q) (zqv : Def P w K mg base 1 "short_ends" ["row", "bound"] zq1h) (hr : Room 3 (A.deeper (PyProof.Rows.envOfC "greatest_least" (defScope zqg) s.heap.objs.size f cdv))) :
    { t : TS // QB (cxOf CX0 P w K mg base ["row", "many", "bound"] "greatest_least" (defScope zqg) f cdv A outer s H E).nox (defBody zqg) t } :=
  ⟨_, (qb_cons (qs_ex (qe_def zqj hr (by decide) zq5n (qa_cons (qv 0 rfl zq35) (qa_cons (qv 1 rfl zq2w) qa_nil))))
    (qb_cons (qs_set (i := 2) zq65.nd rfl zq7m (.inl rfl) (qe_def zq27 hr (by decide) zq4r (qa_cons (qv 0 rfl zq35) (qa_cons (qv 1 rfl zq2w) qa_nil))))
    (qb_one (qs_ret (qe_tup (qa_cons (qv 2 rfl zq42) (qa_cons (ke_slice (K := K) rfl (qe_def zqv hr (by decide) zq5o (qa_cons (qv 0 rfl zq35) (qa_cons (qv 2 rfl zq42) qa_nil))) qo_none (qo_some (qe_op opSub (qv 1 rfl zq2w) qe_int))) qa_nil)))))))⟩
open M5 M10 M11
def zq1g : Sp := fun vs H Q _ => ∃ (r : Addr) (m : Nat) (ns : List Int) (t : Int), vs = [.ref r, .int m] ∧ H r = some (.lst (ns.map V.int)) ∧ RowN ns ∧ 1 ≤ m ∧ m ≤ ns.length ∧ T 1 ns (m - 1) 0 = some t ∧
  ∀ p pc H', 0 ≤ t → t ≤ 120000000000000 → H p = none → H pc = none → Same H H' → H' p = some (.tup [.int t, .ref pc]) → H' pc = some (.lst (((sends t 0 0 ns).take (m - 1)).map V.int)) → Q (.ref p) H'
theorem zqa1 (B : Bl mg) (zqj : Def P w K mg base 3 "check_many" ["row", "many"] zq11) (zq27 : Def P w K mg base 2 "greatest_bound" ["row", "many"] zq2q) (zqv : Def P w K mg base 1 "short_ends" ["row", "bound"] zq1h)
    (F : Fun K "greatest_least" "greatest_least" zqg f fd) : FnOk P w K mg base CX0 4 f fd ["row", "many"] zq1g := by
  refine F.okq zq65 (fun vs H Q E h => ?_) (fun cdv A outer s H vs Q E hr h => ?_)
  · obtain ⟨r, m, ns, t, rfl, _⟩ := h; rfl
  obtain ⟨r, m, ns, t, rfl, hr0, rn, hm1, hmn, hT, q⟩ := h
  refine ⟨zqal B zqj zq27 zqv hr, ?_⟩
  have hle : ns.length ≤ 1000 := by have := rn.le; omega
  refine ⟨r, m, _, rfl, hr0, by omega, by rw [List.length_map]; omega, ?_⟩
  refine ⟨r, m, ns, t, rfl, hr0, rn, hm1, hmn, hT, fun H1 s1 ht0 htb => ?_⟩
  refine ⟨r, t, ns, rfl, s1 _ _ hr0, hle, fun p2 H2 hp2 s2 e2 => ?_⟩
  refine i_sl (SqL.of e2) fun pc H3 hpc s3 e3 => ?_
  refine i_newT (by show 2 ≤ sizeLine; decide) fun p H4 hp s4 e4 => ?_
  refine q p pc H4 ht0 htb ((s1.trans (s2.trans s3)).free hp) ((s1.trans s2).free hpc) (s1.trans (s2.trans (s3.trans s4))) e4 ?_
  rw [s4 _ _ e3, cutV_ints]
  have e1 : HT.sIx (sends t 0 0 ns).length 0 none = 0 := rfl
  have e2' : ((m : Int) - 1) = ((m - 1 : Nat) : Int) := by omega
  rw [e1, e2', HT.sIx_nat, List.drop_zero, Nat.sub_zero]
  congr 3
  by_cases c : m - 1 ≤ (sends t 0 0 ns).length
  · rw [Nat.min_eq_left c]
  · rw [Nat.min_eq_right (by omega), List.take_of_length_le (Nat.le_refl _), List.take_of_length_le (by omega)]
end
end K
set_option linter.all false
set_option Elab.async false
set_option maxRecDepth 100000
set_option maxHeartbeats 4000000
namespace K
open PySem L2
section
variable {C : Addr} {P : Program} {w : World} {K : PySem.W.Frag} {mg : Str → Option Value} {base : Heap} {f : Addr} {fd : FuncData}
abbrev zqh : Stmt := top 27
theorem zq66 : FnScope ["row", "many", "bound"] ["row", "many"] (defScope zqh) := ⟨rfl, rfl, rfl, by decide +kernel, rfl, by decide +kernel, by decide +kernel⟩
theorem zq7n : Loc (defScope zqh) "bound" := Or.inl (by kernel_rfl)
theorem zq7o : Vis (defScope zqh) "bound" := Or.inl (by kernel_rfl)
theorem zq80 : Vis (defScope zqh) "many" := Or.inl (by kernel_rfl)
theorem zq4y : Vis (defScope zqh) "row" := Or.inl (by kernel_rfl)
theorem zq4s : (defScope zqh).names.lookup ("greatest_least" : Str) = some NameKind.globalImplicit := by kernel_rfl
theorem zq5p : (defScope zqh).names.lookup ("short_ends" : Str) = some NameKind.globalImplicit := by kernel_rfl
def zqam {cdv : Value} {A : Around} {outer : List Env} {s : Shared} {H : Hp} {E : XK} (B : Bl mg) (zqw : Def P w K mg base 4 "greatest_least" ["row", "many"] zq1g) (zqv : Def P w K mg base 1 "short_ends" ["row", "bound"] zq1h) (hr : Room 4 (A.deeper (PyProof.Rows.envOfC "paper_of_least" (defScope zqh) s.heap.objs.size f cdv))) :
    { t : TS // QB (cxOf CX0 P w K mg base ["row", "many", "bound"] "paper_of_least" (defScope zqh) f cdv A outer s H E).nox (defBody zqh) t } :=
  ⟨_, (qb_cons (qs_set (i := 2) zq66.nd rfl zq7n (.inl rfl) (ke_ix (K := K) rfl (qe_def zqw hr (by decide) zq4s (qa_cons (qv 0 rfl zq4y) (qa_cons (qv 1 rfl zq80) qa_nil))) qe_int (fun _ _ => rfl)))
    (qb_one (qs_ret (qe_cp ["end"] [none] rfl (ki_list (K := K) rfl (qe_def zqv hr (by decide) zq5p (qa_cons (qv 0 rfl zq4y) (qa_cons (qe_op opAdd (qv 2 rfl zq7o) qe_int) qa_nil)))) (fun _ _ _ _ _ _ => (qg_name (i := 0) (show (["end"] : List Str).Nodup by decide +kernel) rfl (by first | exact Or.inl rfl | exact Or.inr rfl) (by first | exact .inl rfl | exact .inr rfl))) (fun _ _ _ _ _ _ => qif_nil) (fun _ _ _ _ _ _ => (qe_op opSub (qv 0 rfl (by first | exact Or.inl rfl | exact Or.inr (Or.inl rfl) | exact Or.inr (Or.inr rfl))) qe_int))))))⟩
abbrev zqp : Stmt := top 28
theorem zq8q : FnScope ["row", "many", "thing", "begins"] ["row", "many", "thing"] (defScope zqp) := ⟨rfl, rfl, rfl, by decide +kernel, rfl, by decide +kernel, by decide +kernel⟩
theorem zq8x : Loc (defScope zqp) "begins" := Or.inl (by kernel_rfl)
theorem zq8y : Vis (defScope zqp) "begins" := Or.inl (by kernel_rfl)
theorem zq67 : Vis (defScope zqp) "many" := Or.inl (by kernel_rfl)
theorem zq4g : Vis (defScope zqp) "row" := Or.inr (Or.inl (by kernel_rfl))
theorem zq2i : Vis (defScope zqp) "thing" := Or.inl (by kernel_rfl)
theorem zq71 : (defScope zqp).names.lookup ("are_places" : Str) = some NameKind.globalImplicit := by kernel_rfl
theorem zq72 : (defScope zqp).names.lookup ("check_many" : Str) = some NameKind.globalImplicit := by kernel_rfl
theorem zq6s : (defScope zqp).names.lookup ("len" : Str) = some NameKind.globalImplicit := by kernel_rfl
theorem zqan : (defScope zqp).names.lookup ("max" : Str) = some NameKind.globalImplicit := by kernel_rfl
theorem zqao : (defScope zqp).names.lookup ("zip" : Str) = some NameKind.globalImplicit := by kernel_rfl
def zqcq {cdv : Value} {A : Around} {outer : List Env} {s : Shared} {H : Hp} {E : XK} (B : Bl mg) (zqj : Def P w K mg base 3 "check_many" ["row", "many"] zq11) (zq18 : Def P w K mg base 3 "are_places" ["row", "thing", "first"] zq2e) (hr : Room 3 (A.deeper (PyProof.Rows.envOfC "says_least" (defScope zqp) s.heap.objs.size f cdv))) :
    { t : TS // QB (cxOf CX0 P w K mg base ["row", "many", "thing", "begins"] "says_least" (defScope zqp) f cdv A outer s H E).nox (defBody zqp) t } :=
  ⟨_, (qb_cons (qs_ex (qe_def zqj hr (by decide) zq72 (qa_cons (qv 0 rfl zq4g) (qa_cons (qv 1 rfl zq67) qa_nil))))
    (qb_cons (qs_if (QW.pt (qw_or (qt_not (kt_val (K := K) rfl (qe_def zq18 hr (by decide) zq71 (qa_cons (qv 0 rfl zq4g) (qa_cons (qv 2 rfl zq2i) (qa_cons qe_int qa_nil)))))) (qw_or1 (qt_cmp opGe (qe_cB (kLen (K := K) rfl) zq6s B.len boot_len' (qa_cons (qv 2 rfl zq2i) qa_nil)) (qv 1 rfl zq67))))) (qb_one (qs_ret qe_non)) qb_nil)
    (qb_cons (qs_set (i := 3) zq8q.nd rfl zq8x (.inl rfl) (qe_op opAdd (qe_lst (qa_cons qe_int qa_nil)) (qe_cp ["place"] [none] rfl (ki_list (K := K) rfl (qv 2 rfl zq2i)) (fun _ _ _ _ _ _ => (qg_name (i := 0) (show (["place"] : List Str).Nodup by decide +kernel) rfl (by first | exact Or.inl rfl | exact Or.inr rfl) (by first | exact .inl rfl | exact .inr rfl))) (fun _ _ _ _ _ _ => qif_nil) (fun _ _ _ _ _ _ => (qe_op opAdd (qv 0 rfl (by first | exact Or.inl rfl | exact Or.inr (Or.inl rfl) | exact Or.inr (Or.inr rfl))) qe_int)))))
    (qb_one (qs_ret (qe_cB (kMax (K := K) rfl rfl) zqan B.max boot_max' (qa_cons (qe_cp ["begin", "end", "row"] [none, none, some 0] rfl (ki_zip (K := K) rfl zqao B.zip (qa_cons (qv 3 rfl zq8y) (qa_cons (qe_op opAdd (qv 2 rfl zq2i) (qe_lst (qa_cons (qe_cB (kLen (K := K) rfl) zq6s B.len boot_len' (qa_cons (qv 0 rfl zq4g) qa_nil)) qa_nil))) qa_nil))) (fun _ _ _ _ _ _ => (kg_tup (K := K) rfl rfl (qgs_cons (qg_name (i := 0) (show (["begin", "end", "row"] : List Str).Nodup by decide +kernel) rfl (by first | exact Or.inl rfl | exact Or.inr rfl) (by first | exact .inl rfl | exact .inr rfl)) (qgs_cons (qg_name (i := 1) (show (["begin", "end", "row"] : List Str).Nodup by decide +kernel) rfl (by first | exact Or.inl rfl | exact Or.inr rfl) (by first | exact .inl rfl | exact .inr rfl)) qgs_nil)))) (fun _ _ _ _ _ _ => qif_nil) (fun _ _ _ _ _ _ => (qe_cB (kSum (K := K) rfl rfl) rfl B.sum boot_sum' (qa_cons (ke_slice (K := K) rfl (qv 2 rfl (by first | exact Or.inl rfl | exact Or.inr (Or.inl rfl) | exact Or.inr (Or.inr rfl))) (qo_some (qv 0 rfl (by first | exact Or.inl rfl | exact Or.inr (Or.inl rfl) | exact Or.inr (Or.inr rfl)))) (qo_some (qv 1 rfl (by first | exact Or.inl rfl | exact Or.inr (Or.inl rfl) | exact Or.inr (Or.inr rfl))))) qa_nil)))) qa_nil)))))))⟩
open M5 M10 M11 M34
def zq2r : Sp := fun vs H Q _ => ∃ (r : Addr) (m : Nat) (ns : List Int) (t : Int), vs = [.ref r, .int m] ∧ H r = some (.lst (ns.map V.int)) ∧ RowN ns ∧ 1 ≤ m ∧ m ≤ ns.length ∧ T 1 ns (m - 1) 0 = some t ∧
  ∀ p H', 0 ≤ t → t ≤ 120000000000000 → H p = none → Same H H' → H' p = some (.lst (((sends (t + 1) 0 0 ns).map (· - 1)).map V.int)) → Q (.ref p) H'
theorem zqa2 (B : Bl mg) (zqw : Def P w K mg base 4 "greatest_least" ["row", "many"] zq1g) (zqv : Def P w K mg base 1 "short_ends" ["row", "bound"] zq1h) (F : Fun K "paper_of_least" "paper_of_least" zqh f fd) : FnOk P w K mg base CX0 5 f fd ["row", "many"] zq2r := by
  refine F.okq zq66 (fun vs H Q E h => ?_) (fun cdv A outer s H vs Q E hr h => ?_)
  · obtain ⟨r, m, ns, t, rfl, _⟩ := h; rfl
  obtain ⟨r, m, ns, t, rfl, hr0, rn, hm1, hmn, hT, q⟩ := h
  refine ⟨zqam B zqw zqv hr, ?_⟩
  have hle : ns.length ≤ 1000 := by have := rn.le; omega
  refine ⟨r, m, ns, t, rfl, hr0, rn, hm1, hmn, hT, fun p pc H1 ht0 htb hp hpc s1 e1 ec1 => ?_⟩
  refine i_ixT 0 e1 rfl rfl ?_
  refine ⟨r, t + 1, ns, rfl, s1 _ _ hr0, hle, fun p2 H2 hp2 s2 e2 => ?_⟩
  have hsl := sends_len (t + 1) ns 0 0
  refine ⟨⟨_, SqL.of e2⟩, comp_lst ((sends (t + 1) 0 0 ns).map V.int) (fun i D σ H' ys => ys = (((sends (t + 1) 0 0 ns).map (· - 1)).take i).map V.int ∧ Same H2 H' ∧ ∃ o, σ = [o]) ?_ ?_ ?_ ?_⟩
  · intro D H' hD s' e'
    exact ⟨rfl, s', _, rfl⟩
  · rintro i D σ H' ys hD ⟨_, s', _⟩
    exact SqL.of (s' _ _ e2)
  · rintro i x D σ H' ys hx hD ⟨rfl, s', o, rfl⟩ eD
    obtain ⟨z, rfl, hz, _⟩ := vints_at hx
    refine bT ⟨eD, sz_lt (by rw [List.length_map, List.length_take, List.length_map]; omega), fun H6 k6 e6 => ⟨?_, s'.new k6 hD, _, rfl⟩⟩
    rw [take_snoc (x := z - 1) (by rw [List.getElem?_map, hz]; rfl), List.map_append]; rfl
  · rintro D σ H' ys hD ⟨rfl, s', _⟩ eD
    rw [List.take_of_length_le (by simp)] at eD
    exact q D H' ht0 htb ((s1.trans s2).free hD) (s1.trans (s2.trans s')) eD
def zq4a : Sp := fun vs H Q _ => ∃ (r p : Addr) (m : Nat) (ns : List Int) (qs : List Nat), vs = [.ref r, .int m, .ref p] ∧ H r = some (.lst (ns.map V.int)) ∧ H p = some (.lst ((nzs qs).map V.int)) ∧ RowN ns ∧ 1 ≤ m ∧ m ≤ ns.length ∧ PlN qs ns.length ∧ qs.length < m ∧
  ∀ M H', M ∈ gaps ns 0 qs → (∀ g ∈ gaps ns 0 qs, g ≤ M) → Same H H' → Q (.int M) H'
theorem zqcd (B : Bl mg) (zqj : Def P w K mg base 3 "check_many" ["row", "many"] zq11) (zq18 : Def P w K mg base 3 "are_places" ["row", "thing", "first"] zq2e) (F : Fun K "says_least" "says_least" zqp f fd) : FnOk P w K mg base CX0 4 f fd ["row", "many", "thing"] zq4a := by
  refine F.okq zq8q (fun vs H Q E h => ?_) (fun cdv A outer s H vs Q E hr h => ?_)
  · obtain ⟨r, p, m, ns, qs, rfl, _⟩ := h; rfl
  obtain ⟨r, p, m, ns, qs, rfl, hr0, hp0, rn, hm1, hmn, pl, hlm, q⟩ := h
  have hle : ns.length ≤ 1000 := by have := rn.le; omega
  refine ⟨zqcq B zqj zq18 hr, ?_⟩
  refine ⟨r, m, _, rfl, hr0, by omega, by rw [List.length_map]; omega, ?_⟩
  refine ⟨r, p, _, qs, 0, rfl, hr0, hp0, pl.up, fun q hq => ⟨Nat.zero_le _, by rw [List.length_map]; exact pl.hi q hq⟩, bF ?_⟩
  refine i_lenI hp0 (dNo (by rw [List.length_map]; omega) ?_)
  refine i_newL (by show 1 ≤ sizeLine; decide) fun p1 H1 hp1 s1 e1 => ?_
  have ep1 := s1 _ _ hp0
  refine ⟨⟨_, SqL.of ep1⟩, comp_lst ((nzs qs).map V.int) (fun i D σ H' ys => ys = ((nzs (qs.map (· + 1))).take i).map V.int ∧ Same H1 H' ∧ ∃ o, σ = [o]) ?_ ?_ ?_ ?_⟩
  · intro D H' hD s' e'
    exact ⟨rfl, s', _, rfl⟩
  · rintro i D σ H' ys hD ⟨_, s', _⟩
    exact SqL.of (s' _ _ ep1)
  · rintro i x D σ H' ys hx hD ⟨rfl, s', o, rfl⟩ eD
    obtain ⟨n, rfl, hn⟩ := nzs_at hx
    refine bT ⟨eD, sz_lt (by simp; omega), fun H6 k6 e6 => ⟨?_, s'.new k6 hD, _, rfl⟩⟩
    rw [take_snoc (x := ((n + 1 : Nat) : Int)) (by simp [hn]), List.map_append]; rfl
  rintro D σ H2 ys hD ⟨rfl, s2, _⟩ e2
  rw [List.take_of_length_le (by simp)] at e2
  refine i_cat (s2 _ _ e1) e2 (sz_of (by simp; omega)) fun bg H3 hbg s3 e3 => ?_
  have e3' : H3 bg = some (.lst ((nzs (0 :: qs.map (· + 1))).map V.int)) := e3
  have er3 := s3 _ _ (s2 _ _ (s1 _ _ hr0))
  have ep3 := s3 _ _ (s2 _ _ ep1)
  refine i_lenI er3 (i_newL (by show 1 ≤ sizeLine; decide) fun p4 H4 hp4 s4 e4 => ?_)
  refine i_cat (s4 _ _ ep3) e4 (sz_of (by simp; omega)) fun p5 H5 hp5 s5 e5 => ?_
  have e5' : H5 p5 = some (.lst ((nzs (qs ++ [ns.length])).map V.int)) := by rw [e5]; simp
  have e3'' := s5 _ _ (s4 _ _ e3')
  have er5 := s5 _ _ (s4 _ _ er3)
  refine ⟨⟨_, SqL.of e3''⟩, ⟨_, SqL.of e5'⟩, comp_zip ((nzs (0 :: qs.map (· + 1))).map V.int) ((nzs (qs ++ [ns.length])).map V.int) (by simp) (fun k D σ H' ys => ys = ((gaps ns 0 qs).take k).map V.int ∧ Same H5 H' ∧ ∃ o1 o2, σ = [o1, o2, some (.ref r)]) ?_ ?_ ?_ ?_⟩
  · intro D H' hD s' e'
    exact ⟨rfl, s', _, _, rfl⟩
  · rintro k D σ H' ys hD ⟨_, s', _⟩
    exact ⟨SqL.of (s' _ _ e3''), SqL.of (s' _ _ e5')⟩
  · rintro k x y T D σ H' H'' ys hx hy hD ⟨rfl, s', o1, o2, rfl⟩ eD hT sT eT
    obtain ⟨x, rfl, hx1⟩ := nzs_at hx
    obtain ⟨y, rfl, hy1⟩ := nzs_at hy
    have hyl : y ≤ ns.length := by
      rcases List.mem_append.mp (List.mem_of_getElem? hy1) with h | h
      · exact Nat.le_of_lt (pl.hi y h)
      · simp at h; omega
    have hxy : x ≤ y := pl_le pl hx1 hy1
    refine i_unp eT rfl (bT (i_sl (SqL.of (sT _ _ (s' _ _ er5))) fun qa H6 hq s6 e6 => ?_))
    rw [cutV_ints, HT.sIx_nat, HT.sIx_nat, Nat.min_eq_left (show x ≤ ns.length by omega), Nat.min_eq_left hyl] at e6
    refine i_sum (SqL.of e6) ?_
    rw [slice_seg hxy]
    refine ⟨s6 _ _ (sT _ _ eD), sz_lt (by rw [List.length_map, List.length_take, gaps_len]; omega), fun H7 k7 e7 => ⟨?_, (s'.trans (sT.trans s6)).new k7 hD, _, _, rfl⟩⟩
    rw [take_snoc (gaps_at ns qs 0 k x y hx1 hy1), List.map_append]; rfl
  · rintro D σ H' ys hD ⟨rfl, s', _⟩ eD
    rw [List.take_of_length_le (by simp [gaps_len])] at eD
    refine i_max (SqL.of eD) (gaps_ne ns qs 0) fun M hM hmax => ?_
    exact q M H' hM hmax (s1.trans (s2.trans (s3.trans (s4.trans (s5.trans s')))))
end
end K
set_option linter.all false
set_option Elab.async false
set_option maxRecDepth 100000
set_option maxHeartbeats 4000000
namespace K
open PySem L2
section
variable {C : Addr} {P : Program} {w : World} {K : PySem.W.Frag} {mg : Str → Option Value} {base : Heap} {f : Addr} {fd : FuncData}
structure LL (H : Hp) (p : Addr) (ps : List Addr) (pss : List (List Int)) : Prop where
  at_ : H p = some (.lst (ps.map V.ref))
  nd : ps.Nodup
  np : p ∉ ps
  it : Paired (fun a ns => H a = some (.lst (List.map V.int ns))) ps pss
theorem pair_imp {α β : Type} {F G : α → β → Prop} : ∀ {l : List α} {m : List β}, Paired F l m → (∀ a ∈ l, ∀ b, F a b → G a b) → Paired G l m
  | _, _, .nil, _ => .nil
  | _, _, .cons r t, f => .cons (f _ List.mem_cons_self _ r) (pair_imp t fun a ha => f a (List.mem_cons_of_mem _ ha))
theorem pair_snoc {α β : Type} {F : α → β → Prop} {a : α} {b : β} (h : F a b) : ∀ {l : List α} {m : List β}, Paired F l m → Paired F (l ++ [a]) (m ++ [b])
  | _, _, .nil => .cons h .nil
  | _, _, .cons r t => .cons r (pair_snoc h t)
theorem pair_some {α β : Type} {F : α → β → Prop} : ∀ {l : List α} {m : List β}, Paired F l m → ∀ {a : α}, a ∈ l → ∃ b, F a b
  | _, _, .cons r t, a, h => by
    rcases List.mem_cons.mp h with rfl | h
    · exact ⟨_, r⟩
    · exact pair_some t h
section
variable {H H' : Hp} {p : Addr} {ps S : List Addr} {pss : List (List Int)}
theorem LL.len (h : LL H p ps pss) : ps.length = pss.length := Paired.length h.it
end
abbrev zs (cs : List Nat) : List Int := cs.map fun (n : Nat) => (n : Int)
theorem zs_at {cs : List Nat} {i : Nat} {x : V} (h : ((zs cs).map V.int)[i]? = some x) : ∃ n : Nat, x = .int n ∧ cs[i]? = some n := by
  obtain ⟨z, rfl, hz, _⟩ := vints_at h
  rw [List.getElem?_map] at hz
  cases e : cs[i]? with
  | none => rw [e] at hz; cases hz
  | some n => rw [e] at hz; cases hz; exact ⟨n, rfl, rfl⟩
theorem ref_at {as : List Addr} {i : Nat} {x : V} (h : (as.map V.ref)[i]? = some x) : ∃ b, as[i]? = some b ∧ x = .ref b := by
  rw [List.getElem?_map] at h
  cases e : as[i]? with
  | none => rw [e] at h; cases h
  | some b => rw [e] at h; cases h; exact ⟨b, rfl, rfl⟩
theorem pair_get {α β : Type} {F : α → β → Prop} {l : List α} {m : List β} (h : Paired F l m) {i : Nat} {a : α} (ha : l[i]? = some a) : ∃ b, m[i]? = some b ∧ F a b := by
  have hl := Paired.length h
  have hi := (List.getElem?_eq_some_iff.mp ha).1
  have hi2 : i < m.length := by omega
  exact ⟨m[i], List.getElem?_eq_getElem hi2, paired_at h i ha (List.getElem?_eq_getElem hi2)⟩
structure PL (H : Hp) (p : Addr) (ps : List Addr) (rs : List (Nat × Nat)) : Prop where
  at_ : H p = some (.lst (ps.map V.ref))
  it : Paired (fun a (r : Nat × Nat) => H a = some (.tup [.int r.1, .int r.2])) ps rs
theorem PL.same {H H' : Hp} {p : Addr} {ps : List Addr} {rs : List (Nat × Nat)} (h : PL H p ps rs) (s : Same H H') : PL H' p ps rs := ⟨s _ _ h.at_, pair_imp h.it fun a ha b e => s _ _ e⟩
theorem PL.add {H H3 H4 : Hp} {p q : Addr} {ps : List Addr} {rs : List (Nat × Nat)} {f g : Nat} (h : PL H p ps rs) (s : Same H H3) (e3 : H3 q = some (.tup [.int f, .int g])) (k : Kp [p] H3 H4) (e4 : H4 p = some (.lst (ps.map V.ref ++ [.ref q]))) : PL H4 p (ps ++ [q]) (rs ++ [(f, g)]) := by
  have hp3 := s _ _ h.at_
  have ne : ∀ a xs, H3 a = some (.tup xs) → a ≠ p := fun a xs e z => by rw [z, hp3] at e; cases e
  refine ⟨by rw [e4, List.map_append]; rfl, ?_⟩
  exact pair_snoc (F := fun a (r : Nat × Nat) => H4 a = some (.tup [.int r.1, .int r.2])) (b := (f, g)) (k.one (ne _ _ e3) e3) (pair_imp h.it fun a ha b e => k.one (ne _ _ (s _ _ e)) (s _ _ e))
abbrev zq6 : Stmt := top 23
theorem zq36 : FnScope ["row", "many", "bound", "begins"] ["row", "many"] (defScope zq6) := ⟨rfl, rfl, rfl, by decide +kernel, rfl, by decide +kernel, by decide +kernel⟩
theorem zq5v : Loc (defScope zq6) "begins" := Or.inr (by kernel_rfl)
theorem zq69 : Loc (defScope zq6) "bound" := Or.inl (by kernel_rfl)
theorem zq1z : Vis (defScope zq6) "bound" := Or.inl (by kernel_rfl)
theorem zq3i : Vis (defScope zq6) "many" := Or.inl (by kernel_rfl)
theorem zq1j : Vis (defScope zq6) "row" := Or.inl (by kernel_rfl)
theorem zq3y : (defScope zq6).names.lookup ("least_greatest" : Str) = some NameKind.globalImplicit := by kernel_rfl
theorem zq59 : (defScope zq6).names.lookup ("long_cut" : Str) = some NameKind.globalImplicit := by kernel_rfl
theorem zq73 : (defScope zq6).names.lookup ("max" : Str) = some NameKind.globalImplicit := by kernel_rfl
theorem zq6a : (defScope zq6).names.lookup ("range" : Str) = some NameKind.globalImplicit := by kernel_rfl
def zq8z {cdv : Value} {A : Around} {outer : List Env} {s : Shared} {H : Hp} {E : XK} (B : Bl mg) (zqx : Def P w K mg base 4 "least_greatest" ["row", "many"] zq1e) (zq1o : Def P w K mg base 1 "long_cut" ["row", "bound"] zq3d) (hr : Room 4 (A.deeper (PyProof.Rows.envOfC "paper_of_greatest" (defScope zq6) s.heap.objs.size f cdv))) :
    { t : TS // QB (cxOf CX0 P w K mg base ["row", "many", "bound", "begins"] "paper_of_greatest" (defScope zq6) f cdv A outer s H E).nox (defBody zq6) t } :=
  ⟨_, (qb_cons (qs_set (i := 2) zq36.nd rfl zq69 (.inl rfl) (ke_ix (K := K) rfl (qe_def zqx hr (by decide) zq3y (qa_cons (qv 0 rfl zq1j) (qa_cons (qv 1 rfl zq3i) qa_nil))) qe_int (fun _ _ => rfl)))
    (qb_cons (qs_if (qt_cmp (kEqG (K := K) rfl hr) (qv 2 rfl zq1z) (qe_cB (kMax (K := K) rfl rfl) zq73 B.max boot_max' (qa_cons (qv 0 rfl zq1j) qa_nil))) (qb_one (qs_ret (qe_tup (qa_cons qe_str (qa_cons (ke_m1 (K := K) rfl PySem.F.plainAttrs_list PySem.F.slot_list_index PySem.F.type_list_index mtIndex (qv 0 rfl zq1j) (qv 2 rfl zq1z)) qa_nil))))) qb_nil)
    (qb_cons (qs_set (i := 3) zq36.nd rfl zq5v (.inl rfl) (qe_op opAdd (qe_lst (qa_cons qe_int qa_nil)) (qe_def zq1o hr (by decide) zq59 (qa_cons (qv 0 rfl zq1j) (qa_cons (qe_op opSub (qv 2 rfl zq1z) qe_int) qa_nil)))))
    (qb_one (qs_ret (qe_tup (qa_cons qe_str (qa_cons (qe_cp ["at", "begins"] [none, some 3] rfl (qi_r1 zq6a B.range (qa_cons (qv 1 rfl zq3i) qa_nil)) (fun _ _ _ _ _ _ => (qg_name (i := 0) (show (["at", "begins"] : List Str).Nodup by decide +kernel) rfl (by first | exact Or.inl rfl | exact Or.inr rfl) (by first | exact .inl rfl | exact .inr rfl))) (fun _ _ _ _ _ _ => qif_nil) (fun _ _ _ _ _ _ => (qe_tup (qa_cons (ke_ix (K := K) rfl (qv 1 rfl (by first | exact Or.inl rfl | exact Or.inr (Or.inl rfl) | exact Or.inr (Or.inr rfl))) (qv 0 rfl (by first | exact Or.inl rfl | exact Or.inr (Or.inl rfl) | exact Or.inr (Or.inr rfl))) (fun _ _ => rfl)) (qa_cons (qe_op opAdd (ke_ix (K := K) rfl (qv 1 rfl (by first | exact Or.inl rfl | exact Or.inr (Or.inl rfl) | exact Or.inr (Or.inr rfl))) (qe_op opAdd (qv 0 rfl (by first | exact Or.inl rfl | exact Or.inr (Or.inl rfl) | exact Or.inr (Or.inr rfl))) qe_int) (fun _ _ => rfl)) qe_int) qa_nil))))) qa_nil))))))))⟩
open M5 M10 M11 M7 M34 M33
theorem great_iff {ns : List Int} {m : Nat} {t : Int} (rn : RowN ns) (hm1 : 1 ≤ m) (hmn : m ≤ ns.length) (hT : T 0 ns (m - 1) 0 = some t) : (∀ b, t ≤ b ↔ (∀ x ∈ ns, x ≤ b) ∧ gp b ns ≤ m) ∧ 0 ≤ t ∧ t ≤ ns.sum := by
  have hnn := rn.nn
  have hne : ns ≠ [] := fun z => by have := rn.ne; rw [z] at this; simp at this
  have hiff : ∀ b, t ≤ b ↔ (∀ x ∈ ns, x ≤ b) ∧ gp b ns ≤ m := fun b => by
    have := T_iff0 hnn b (k := m - 1) (i := 0) (by omega) hT
    rw [show m - 1 + 1 = m by omega, List.drop_zero] at this; exact this
  have hall := ((hiff t).mp (Int.le_refl t)).1
  refine ⟨hiff, ?_, ?_⟩
  · cases ns with
    | nil => exact absurd rfl hne
    | cons x xs => have := hnn x List.mem_cons_self; have := hall x List.mem_cons_self; omega
  · refine (hiff _).mpr ⟨fun x hx => mem_le_sum hnn x hx, ?_⟩
    unfold gp
    rw [if_neg hne, lcut_nil _ 0 0 hnn (by omega)]
    simp; omega
inductive Pap (H : Hp) (ns : List Int) (m : Nat) (t : Int) (p : Addr) : List Addr → Prop where
  | num {j : Nat} (e : H p = some (.tup [.str "number", .int j])) (h : ns[j]? = some t) : Pap H ns m t p []
  | str {l : Addr} {ps : List Addr} {ss : List (Nat × Nat)} (e : H p = some (.tup [.str "stretches", .ref l])) (pl : PL H l ps ss) (hl : ss.length = m) (hs : StrN ns.length 0 ss) (h : ∀ s ∈ ss, t ≤ seg ns s.1 s.2) : Pap H ns m t p (l :: ps)
def zq20 : Sp := fun vs H Q _ => ∃ (r : Addr) (m : Nat) (ns : List Int) (t : Int), vs = [.ref r, .int m] ∧ H r = some (.lst (ns.map V.int)) ∧ RowN ns ∧ 1 ≤ m ∧ m ≤ ns.length ∧ T 0 ns (m - 1) 0 = some t ∧
  ∀ p qs H', H p = none → (∀ a ∈ qs, H a = none) → Same H H' → Pap H' ns m t p qs → Q (.ref p) H'
theorem zq8h (B : Bl mg) (zqx : Def P w K mg base 4 "least_greatest" ["row", "many"] zq1e) (zq1o : Def P w K mg base 1 "long_cut" ["row", "bound"] zq3d) (F : Fun K "paper_of_greatest" "paper_of_greatest" zq6 f fd) : FnOk P w K mg base CX0 5 f fd ["row", "many"] zq20 := by
  refine F.okq zq36 (fun vs H Q E h => ?_) (fun cdv A outer s H vs Q E hr h => ?_)
  · obtain ⟨r, m, ns, t, rfl, _⟩ := h; rfl
  obtain ⟨r, m, ns, t, rfl, hr0, rn, hm1, hmn, hT, q⟩ := h
  refine ⟨zq8z B zqx zq1o hr, ?_⟩
  have hle : ns.length ≤ 1000 := by have := rn.le; omega
  have hne : ns ≠ [] := fun z => by have := rn.ne; rw [z] at this; simp at this
  obtain ⟨hiff, ht0, hts⟩ := great_iff rn hm1 hmn hT
  refine ⟨r, m, ns, t, rfl, hr0, rn, hm1, hmn, hT, fun p0 pc c H1 _ _ _ _ hp0 hpc s1 e1 _ => ?_⟩
  refine i_ixT 0 e1 rfl rfl ?_
  have er1 := s1 _ _ hr0
  refine i_max (SqL.of er1) hne fun M hM hmax => dec2 (fun c => ?_) (fun c => ?_)
  · have c' : t = M := c
    refine ⟨i_tyL er1, i_index er1 (by rw [c']; exact hM) fun j hj => ?_⟩
    exact i_newT (by show 2 ≤ sizeLine; decide) fun p H2 hp s2 e2 => q p [] H2 (s1.free hp) (by simp) (s1.trans s2) (.num e2 hj)
  · have c' : ¬ t = M := c
    have hall := ((hiff t).mp (Int.le_refl t)).1
    have hb : ∀ n ∈ ns, n ≤ t - 1 := fun n hn => by have := hmax n hn; have := hall M hM; omega
    refine i_newL (by show 1 ≤ sizeLine; decide) fun p2 H2 hp2 s2 e2 => ?_
    refine ⟨r, t - 1, ns, rfl, s2 _ _ er1, hne, hle, fun ⟨n, hn, hlt⟩ => (by have := hb n hn; omega), fun _ lc H3 hlc s3 e3 => ?_⟩
    refine i_cat (s3 _ _ e2) e3 (sz_of (by simp; have := lcut_len (t - 1) ns 0 0; omega)) fun bg H4 hbg s4 e4 => ?_
    have e4' : H4 bg = some (.lst (((0 : Int) :: lcut (t - 1) 0 0 ns).map V.int)) := e4
    have hgp : m < gp (t - 1) ns := by
      have := hiff (t - 1)
      rcases Nat.lt_or_ge m (gp (t - 1) ns) with z | z
      · exact z
      · have := this.mpr ⟨hb, z⟩; omega
    have hgl : gp (t - 1) ns = (lcut (t - 1) 0 0 ns).length + 1 := by unfold gp; rw [if_neg hne]
    have eq0 : lcut (t - 1) 0 0 ns = lcut (t - 1) 1 (seg ns 0 1) (ns.drop 1) := by
      cases ns with
      | nil => exact absurd rfl hne
      | cons x xs =>
        have hx := hb x List.mem_cons_self
        have : ¬ (0 : Int) + x > t - 1 := by omega
        simp only [lcut, this, if_false]
        have : seg (x :: xs) 0 1 = 0 + x := by unfold seg; simp
        rw [this]; rfl
    have hsg : seg ns 0 1 ≤ t - 1 := by
      cases ns with
      | nil => exact absurd rfl hne
      | cons x xs => have := hb x List.mem_cons_self; unfold seg; simpa using this
    obtain ⟨ss, q1, q2, q3, q4⟩ := cut_str rn.nn hb (ns.length - 1) 1 0 rfl (by omega) rn.ne hsg m (by rw [← eq0]; omega)
    rw [← eq0] at q4
    have hql : ∀ at_, at_ < m → ∃ s, ss[at_]? = some s := fun a ha => ⟨_, List.getElem?_eq_getElem (by omega)⟩
    refine ⟨⟨by omega, by omega⟩, comp_rng (fun i D σ H' ys => ∃ ps : List Addr, ys = ps.map V.ref ∧ Same H4 H' ∧ (∀ a ∈ ps, H4 a = none) ∧ D ∉ ps ∧ Paired (fun a (s : Nat × Nat) => H' a = some (.tup [.int s.1, .int s.2])) ps (ss.take i) ∧ ∃ o, σ = [o, some (.ref bg)]) ?_ ?_ ?_⟩
    · intro D H' hD s' e'
      exact ⟨[], rfl, s', by simp, by simp, .nil, _, rfl⟩
    · rintro i D σ H' ys hi hD ⟨ps, rfl, s', hfr, hDp, hpr, o, rfl⟩ eD
      obtain ⟨⟨x, y⟩, hxy⟩ := hql i (by omega)
      obtain ⟨g1, g2⟩ := q4 i _ hxy
      have ebg := s' _ _ e4'
      have g1' : ((0 : Int) :: lcut (t - 1) 0 0 ns)[i]? = some (x : Int) := g1
      have g2' : ((0 : Int) :: lcut (t - 1) 0 0 ns)[i + 1]? = some ((y : Int) - 1) := g2
      refine bT (i_ixN (v := .int x) i ebg (by omega) (by rw [List.getElem?_map, g1']; rfl) (i_ixN (v := .int ((y : Int) - 1)) (i + 1) ebg (by omega) (by rw [List.getElem?_map, g2']; rfl) ?_))
      refine i_newT (by show 2 ≤ sizeLine; decide) fun tu H6 htu s6 e6 => ?_
      have e6' : H6 tu = some (.tup [.int ((x, y) : Nat × Nat).1, .int ((x, y) : Nat × Nat).2]) := by
        rw [e6]
        have : ((y : Int) - 1 + 1) = (y : Int) := by omega
        show some (HO.tup [V.int (x : Int), V.int ((y : Int) - 1 + 1)]) = _
        rw [this]
      have hpl : ps.length ≤ 1000 := by
        have := Paired.length hpr
        rw [List.length_take] at this; omega
      refine ⟨s6 _ _ eD, sz_lt (by rw [List.length_map]; omega), fun H7 k7 e7 => ⟨ps ++ [tu], by rw [List.map_append]; rfl, (s'.trans s6).new k7 hD, fun a ha => ?_, ?_, ?_, _, rfl⟩⟩
      · rcases List.mem_append.mp ha with ha | ha
        · exact hfr a ha
        · have : a = tu := by simpa using ha
          subst this; exact s'.free htu
      · intro hm
        rcases List.mem_append.mp hm with hm | hm
        · exact hDp hm
        · have : D = tu := by simpa using hm
          rw [this] at eD; rw [htu] at eD; cases eD
      · have nDt : tu ≠ D := fun z => by rw [z] at htu; rw [htu] at eD; cases eD
        rw [take_snoc hxy]
        exact pair_snoc (F := fun a (s : Nat × Nat) => H7 a = some (.tup [.int s.1, .int s.2])) (b := (x, y)) (k7.one nDt e6') (pair_imp hpr fun a ha b e => k7.one (fun z => hDp (z ▸ ha)) (s6 _ _ e))
    · rintro D σ H5 ys hD ⟨ps, rfl, s5, hfr, hDp, hpr, _⟩ eD
      rw [List.take_of_length_le (by omega)] at hpr
      refine i_newT (by show 2 ≤ sizeLine; decide) fun p H6 hp s6 e6 => ?_
      have s14 := s1.trans (s2.trans (s3.trans s4))
      refine q p (D :: ps) H6 ((s14.trans s5).free hp) (fun a ha => ?_) (s14.trans (s5.trans s6)) (.str e6 ⟨s6 _ _ eD, pair_imp hpr fun a ha b e => s6 _ _ e⟩ q1 q2 fun s hs => by have := q3 s hs; omega)
      rcases List.mem_cons.mp ha with rfl | ha
      · exact s14.free hD
      · exact s14.free (hfr a ha)
end
end K
set_option linter.all false
set_option Elab.async false
set_option maxRecDepth 100000
set_option maxHeartbeats 4000000
namespace K
open PySem L2
section
variable {C : Addr} {P : Program} {w : World} {K : PySem.W.Frag} {mg : Str → Option Value} {base : Heap} {f : Addr} {fd : FuncData}
abbrev zql : Stmt := top 26
theorem zq5w : FnScope ["row", "thing", "least", "begin", "end"] ["row", "thing", "least"] (defScope zql) := ⟨rfl, rfl, rfl, by decide +kernel, rfl, by decide +kernel, by decide +kernel⟩
theorem zq9h : Loc (defScope zql) "begin" := Or.inl (by kernel_rfl)
theorem zqap : Loc (defScope zql) "end" := Or.inl (by kernel_rfl)
theorem zq9i : Vis (defScope zql) "begin" := Or.inl (by kernel_rfl)
theorem zq6t : Vis (defScope zql) "end" := Or.inl (by kernel_rfl)
theorem zq9j : Vis (defScope zql) "least" := Or.inl (by kernel_rfl)
theorem zqaq : Vis (defScope zql) "row" := Or.inl (by kernel_rfl)
theorem zq3j : Vis (defScope zql) "thing" := Or.inl (by kernel_rfl)
theorem zq43 : (defScope zql).names.lookup ("is_within" : Str) = some NameKind.globalImplicit := by kernel_rfl
theorem zq74 : (defScope zql).names.lookup ("isinstance" : Str) = some NameKind.globalImplicit := by kernel_rfl
theorem zq6u : (defScope zql).names.lookup ("len" : Str) = some NameKind.globalImplicit := by kernel_rfl
theorem zq9k : (defScope zql).names.lookup ("tuple" : Str) = some NameKind.globalImplicit := by kernel_rfl
def zqcr {cdv : Value} {A : Around} {outer : List Env} {s : Shared} {H : Hp} {E : XK} (B : Bl mg) (zqm : Def P w K mg base 2 "is_within" ["thing", "low", "high"] zq16) (hr : Room 2 (A.deeper (PyProof.Rows.envOfC "is_stretch" (defScope zql) s.heap.objs.size f cdv))) :
    { t : TS // QB (cxOf CX0 P w K mg base ["row", "thing", "least", "begin", "end"] "is_stretch" (defScope zql) f cdv A outer s H E).nox (defBody zql) t } :=
  ⟨_, (qb_cons (qs_if (QW.pt (qw_or (qt_not (kt_val (K := K) rfl (qe_cB (kIsi (K := K) rfl) zq74 B.isinstance boot_isinstance' (qa_cons (qv 1 rfl zq3j) (qa_cons (qe_ty zq9k B.tuple boot_tuple) qa_nil))))) (qw_or1 (qt_cmp (kNeG (K := K) rfl hr) (qe_cB (kLen (K := K) rfl) zq6u B.len boot_len' (qa_cons (qv 1 rfl zq3j) qa_nil)) qe_int)))) (qb_one (qs_ret qe_bl)) qb_nil)
    (qb_cons (qs_asg (qv 1 rfl zq3j) (kg_tup (K := K) rfl rfl (qgs_cons (qg_name (i := 3) zq5w.nd rfl zq9h (.inl rfl)) (qgs_cons (qg_name (i := 4) zq5w.nd rfl zqap (.inl rfl)) qgs_nil))))
    (qb_one (qs_ret (ke_and (K := K) rfl (qe_def zqm hr (by decide) zq43 (qa_cons (qv 4 rfl zq6t) (qa_cons qe_int (qa_cons (qe_cB (kLen (K := K) rfl) zq6u B.len boot_len' (qa_cons (qv 0 rfl zqaq) qa_nil)) qa_nil)))) (qe_one (qe_def zqm hr (by decide) zq43 (qa_cons (qv 3 rfl zq9i) (qa_cons (qv 2 rfl zq9j) (qa_cons (qe_op opSub (qv 4 rfl zq6t) qe_int) qa_nil))))))))))⟩
abbrev zq8 : Stmt := top 25
theorem zq37 : FnScope ["row", "many", "thing", "least", "stretch"] ["row", "many", "thing"] (defScope zq8) := ⟨rfl, rfl, rfl, by decide +kernel, rfl, by decide +kernel, by decide +kernel⟩
theorem zq4n : Loc (defScope zq8) "least" := Or.inl (by kernel_rfl)
theorem zq75 : Loc (defScope zq8) "stretch" := Or.inl (by kernel_rfl)
theorem zq81 : Vis (defScope zq8) "least" := Or.inl (by kernel_rfl)
theorem zq8i : Vis (defScope zq8) "many" := Or.inl (by kernel_rfl)
theorem zq90 : Vis (defScope zq8) "row" := Or.inl (by kernel_rfl)
theorem zq3t : Vis (defScope zq8) "stretch" := Or.inl (by kernel_rfl)
theorem zq2x : Vis (defScope zq8) "thing" := Or.inl (by kernel_rfl)
theorem zq5x : (defScope zq8).names.lookup ("is_stretch" : Str) = some NameKind.globalImplicit := by kernel_rfl
theorem zq5y : (defScope zq8).names.lookup ("isinstance" : Str) = some NameKind.globalImplicit := by kernel_rfl
theorem zq91 : (defScope zq8).names.lookup ("len" : Str) = some NameKind.globalImplicit := by kernel_rfl
theorem zq8j : (defScope zq8).names.lookup ("list" : Str) = some NameKind.globalImplicit := by kernel_rfl
def zqbh {cdv : Value} {A : Around} {outer : List Env} {s : Shared} {H : Hp} {E : XK} (B : Bl mg) (zq3k : Def P w K mg base 3 "is_stretch" ["row", "thing", "least"] zq4b) (hr : Room 3 (A.deeper (PyProof.Rows.envOfC "are_stretches" (defScope zq8) s.heap.objs.size f cdv))) :
    { t : TS // QB (cxOf CX0 P w K mg base ["row", "many", "thing", "least", "stretch"] "are_stretches" (defScope zq8) f cdv A outer s H E).nox (defBody zq8) t } :=
  ⟨_, (qb_cons (qs_if (QW.pt (qw_or (qt_not (kt_val (K := K) rfl (qe_cB (kIsi (K := K) rfl) zq5y B.isinstance boot_isinstance' (qa_cons (qv 2 rfl zq2x) (qa_cons (qe_ty zq8j B.list boot_list) qa_nil))))) (qw_or1 (qt_cmp (kNeG (K := K) rfl hr) (qe_cB (kLen (K := K) rfl) zq91 B.len boot_len' (qa_cons (qv 2 rfl zq2x) qa_nil)) (qv 1 rfl zq8i))))) (qb_one (qs_ret qe_bl)) qb_nil)
    (qb_cons (qs_set (i := 3) zq37.nd rfl zq4n (.inl rfl) qe_int)
    (qb_mid (qs_for PassesOwn.never rfl (ki_list (K := K) rfl (qv 2 rfl zq2x)) (qg_name (i := 4) zq37.nd rfl zq75 (.inl rfl)) (qb_cons (qs_if (qt_not (kt_val (K := K) rfl (qe_def zq3k hr (by decide) zq5x (qa_cons (qv 0 rfl zq90) (qa_cons (qv 4 rfl zq3t) (qa_cons (qv 3 rfl zq81) qa_nil)))))) (qb_one (qs_ret qe_bl)) qb_nil)
    (qb_one (qs_set (i := 3) zq37.nd rfl zq4n (.inl rfl) (qe_op opSub (ke_ix (K := K) rfl (qv 4 rfl zq3t) qe_int (fun _ _ => rfl)) qe_int)))))
    (qb_one (qs_ret qe_bl)))))⟩
abbrev zq4 : Stmt := top 24
theorem zq4h : FnScope ["row", "many", "thing", "word", "shown"] ["row", "many", "thing"] (defScope zq4) := ⟨rfl, rfl, rfl, by decide +kernel, rfl, by decide +kernel, by decide +kernel⟩
theorem zq82 : Loc (defScope zq4) "shown" := Or.inl (by kernel_rfl)
theorem zq8k : Loc (defScope zq4) "word" := Or.inl (by kernel_rfl)
theorem zq4z : Vis (defScope zq4) "many" := Or.inl (by kernel_rfl)
theorem zq2b : Vis (defScope zq4) "row" := Or.inr (Or.inl (by kernel_rfl))
theorem zq1r : Vis (defScope zq4) "shown" := Or.inl (by kernel_rfl)
theorem zq1s : Vis (defScope zq4) "thing" := Or.inl (by kernel_rfl)
theorem zq50 : Vis (defScope zq4) "word" := Or.inl (by kernel_rfl)
theorem zq53 : (defScope zq4).names.lookup ("are_stretches" : Str) = some NameKind.globalImplicit := by kernel_rfl
theorem zq5z : (defScope zq4).names.lookup ("check_many" : Str) = some NameKind.globalImplicit := by kernel_rfl
theorem zq6b : (defScope zq4).names.lookup ("is_within" : Str) = some NameKind.globalImplicit := by kernel_rfl
theorem zq3c : (defScope zq4).names.lookup ("isinstance" : Str) = some NameKind.globalImplicit := by kernel_rfl
theorem zq55 : (defScope zq4).names.lookup ("len" : Str) = some NameKind.globalImplicit := by kernel_rfl
theorem zq92 : (defScope zq4).names.lookup ("min" : Str) = some NameKind.globalImplicit := by kernel_rfl
theorem zq93 : (defScope zq4).names.lookup ("str" : Str) = some NameKind.globalImplicit := by kernel_rfl
theorem zq83 : (defScope zq4).names.lookup ("tuple" : Str) = some NameKind.globalImplicit := by kernel_rfl
def zqbi {cdv : Value} {A : Around} {outer : List Env} {s : Shared} {H : Hp} {E : XK} (B : Bl mg) (zqj : Def P w K mg base 3 "check_many" ["row", "many"] zq11) (zqm : Def P w K mg base 2 "is_within" ["thing", "low", "high"] zq16) (zq2j : Def P w K mg base 4 "are_stretches" ["row", "many", "thing"] zq38) (hr : Room 4 (A.deeper (PyProof.Rows.envOfC "says_greatest" (defScope zq4) s.heap.objs.size f cdv))) :
    { t : TS // QB (cxOf CX0 P w K mg base ["row", "many", "thing", "word", "shown"] "says_greatest" (defScope zq4) f cdv A outer s H E).nox (defBody zq4) t } :=
  ⟨_, (qb_cons (qs_ex (qe_def zqj hr (by decide) zq5z (qa_cons (qv 0 rfl zq2b) (qa_cons (qv 1 rfl zq4z) qa_nil))))
    (qb_cons (qs_if (QW.pt (qw_or (qt_not (kt_val (K := K) rfl (qe_cB (kIsi (K := K) rfl) zq3c B.isinstance boot_isinstance' (qa_cons (qv 2 rfl zq1s) (qa_cons (qe_ty zq83 B.tuple boot_tuple) qa_nil))))) (qw_or (qt_cmp (kNeG (K := K) rfl hr) (qe_cB (kLen (K := K) rfl) zq55 B.len boot_len' (qa_cons (qv 2 rfl zq1s) qa_nil)) qe_int) (qw_or1 (qt_not (kt_val (K := K) rfl (qe_cB (kIsi (K := K) rfl) zq3c B.isinstance boot_isinstance' (qa_cons (ke_ix (K := K) rfl (qv 2 rfl zq1s) qe_int (fun _ _ => rfl)) (qa_cons (qe_ty zq93 B.str boot_str) qa_nil))))))))) (qb_one (qs_ret qe_non)) qb_nil)
    (qb_cons (qs_asg (qv 2 rfl zq1s) (kg_tup (K := K) rfl rfl (qgs_cons (qg_name (i := 3) zq4h.nd rfl zq8k (.inl rfl)) (qgs_cons (qg_name (i := 4) zq4h.nd rfl zq82 (.inl rfl)) qgs_nil))))
    (qb_cons (qs_if (QW.pt (qw_and (qt_cmp (kEqG (K := K) rfl hr) (qv 3 rfl zq50) qe_str) (qw_and1 (kt_val (K := K) rfl (qe_def zqm hr (by decide) zq6b (qa_cons (qv 4 rfl zq1r) (qa_cons qe_int (qa_cons (qe_op opSub (qe_cB (kLen (K := K) rfl) zq55 B.len boot_len' (qa_cons (qv 0 rfl zq2b) qa_nil)) qe_int) qa_nil)))))))) (qb_one (qs_ret (ke_ix (K := K) rfl (qv 0 rfl zq2b) (qv 4 rfl zq1r) (fun _ _ => rfl)))) qb_nil)
    (qb_cons (qs_if (QW.pt (qw_and (qt_cmp (kEqG (K := K) rfl hr) (qv 3 rfl zq50) qe_str) (qw_and1 (kt_val (K := K) rfl (qe_def zq2j hr (by decide) zq53 (qa_cons (qv 0 rfl zq2b) (qa_cons (qv 1 rfl zq4z) (qa_cons (qv 4 rfl zq1r) qa_nil)))))))) (qb_one (qs_ret (qe_cB (kMin (K := K) rfl rfl) zq92 B.min boot_min' (qa_cons (qe_cp ["begin", "end", "row"] [none, none, some 0] rfl (ki_list (K := K) rfl (qv 4 rfl zq1r)) (fun _ _ _ _ _ _ => (kg_tup (K := K) rfl rfl (qgs_cons (qg_name (i := 0) (show (["begin", "end", "row"] : List Str).Nodup by decide +kernel) rfl (by first | exact Or.inl rfl | exact Or.inr rfl) (by first | exact .inl rfl | exact .inr rfl)) (qgs_cons (qg_name (i := 1) (show (["begin", "end", "row"] : List Str).Nodup by decide +kernel) rfl (by first | exact Or.inl rfl | exact Or.inr rfl) (by first | exact .inl rfl | exact .inr rfl)) qgs_nil)))) (fun _ _ _ _ _ _ => qif_nil) (fun _ _ _ _ _ _ => (qe_cB (kSum (K := K) rfl rfl) rfl B.sum boot_sum' (qa_cons (ke_slice (K := K) rfl (qv 2 rfl (by first | exact Or.inl rfl | exact Or.inr (Or.inl rfl) | exact Or.inr (Or.inr rfl))) (qo_some (qv 0 rfl (by first | exact Or.inl rfl | exact Or.inr (Or.inl rfl) | exact Or.inr (Or.inr rfl)))) (qo_some (qv 1 rfl (by first | exact Or.inl rfl | exact Or.inr (Or.inl rfl) | exact Or.inr (Or.inr rfl))))) qa_nil)))) qa_nil)))) qb_nil)
    (qb_one (qs_ret qe_non)))))))⟩
open M5 M10 M11 M7 M34 M33
def zq4b : Sp := fun vs H Q _ => ∃ (r a : Addr) (xs : List V) (l x y : Nat), vs = [.ref r, .ref a, .int l] ∧ H r = some (.lst xs) ∧ H a = some (.tup [.int x, .int y]) ∧ Q (.bl (decide (l ≤ x ∧ x + 2 ≤ y ∧ y ≤ xs.length))) H
theorem zqce (B : Bl mg) (zqm : Def P w K mg base 2 "is_within" ["thing", "low", "high"] zq16) (F : Fun K "is_stretch" "is_stretch" zql f fd) : FnOk P w K mg base CX0 3 f fd ["row", "thing", "least"] zq4b := by
  refine F.okq zq5w (fun vs H Q E h => ?_) (fun cdv A outer s H vs Q E hr h => ?_)
  · obtain ⟨r, a, xs, l, x, y, rfl, _⟩ := h; rfl
  obtain ⟨r, a, xs, l, x, y, rfl, hr0, ha0, q⟩ := h
  refine ⟨zqcr B zqm hr, ?_⟩
  refine i_isi (.tup ha0) (by simp) (by simp) (bNo (by decide +kernel) ?_)
  refine i_len (.inr (SqT.of ha0)) (bNo (by simp) ?_)
  refine i_unp ha0 rfl ?_
  refine i_lenL hr0 ⟨y, 2, _, rfl, ?_⟩
  by_cases c : (2 : Int) ≤ (y : Int) ∧ (y : Int) ≤ (xs.length : Int)
  · rw [decide_eq_true c]
    refine bT ⟨x, l, (y : Int) - 2, rfl, ?_⟩
    have e : decide ((l : Int) ≤ (x : Int) ∧ (x : Int) ≤ (y : Int) - 2) = decide (l ≤ x ∧ x + 2 ≤ y ∧ y ≤ xs.length) := decide_eq_decide.mpr ⟨fun z => by omega, fun z => by omega⟩
    rw [e]; exact q
  · rw [decide_eq_false c]
    have e : decide (l ≤ x ∧ x + 2 ≤ y ∧ y ≤ xs.length) = false := decide_eq_false fun z => c (by omega)
    rw [e] at q
    exact bF q
def zq38 : Sp := fun vs H Q _ => ∃ (r l : Addr) (m : Nat) (xs : List V) (ps : List Addr) (ss : List (Nat × Nat)), vs = [.ref r, .int m, .ref l] ∧ H r = some (.lst xs) ∧ PL H l ps ss ∧ ss.length = m ∧ (StrN xs.length 0 ss → Q (.bl true) H) ∧ (¬ StrN xs.length 0 ss → Q (.bl false) H)
theorem zqar (B : Bl mg) (zq3k : Def P w K mg base 3 "is_stretch" ["row", "thing", "least"] zq4b) (F : Fun K "are_stretches" "are_stretches" zq8 f fd) : FnOk P w K mg base CX0 4 f fd ["row", "many", "thing"] zq38 := by
  refine F.okq zq37 (fun vs H Q E h => ?_) (fun cdv A outer s H vs Q E hr h => ?_)
  · obtain ⟨r, l, m, xs, ps, ss, rfl, _⟩ := h; rfl
  obtain ⟨r, l, m, xs, ps, ss, rfl, hr0, pl, hl, q1, q2⟩ := h
  have hpl := Paired.length pl.it
  refine ⟨zqbh B zq3k hr, ?_⟩
  refine i_isi (.lst pl.at_) (by simp) (by simp) (bNo (by decide +kernel) ?_)
  refine i_lenL pl.at_ (bNo (by simp; omega) ?_)
  refine ⟨fun σ H' => H' = H ∧ StrN xs.length 0 ss, ?_, ?_⟩
  · refine ⟨⟨_, SqL.of pl.at_⟩, for_list (xs := ps.map V.ref) (fun i σ H' => H' = H ∧ ∃ (le : Nat) (o : Option V), (StrN xs.length le (ss.drop i) ↔ StrN xs.length 0 ss) ∧ σ = [some (.ref r), some (.int m), some (.ref l), some (.int le), o]) ?_ ?_ ?_ ?_⟩
    · exact ⟨rfl, 0, _, Iff.rfl, rfl⟩
    · rintro i σ H' _ ⟨rfl, _⟩
      exact SqL.of pl.at_
    · rintro i x σ H' hx ⟨rfl, le, o, hs', rfl⟩
      obtain ⟨a, ha, rfl⟩ := ref_at hx
      obtain ⟨⟨x, y⟩, hxy, ea⟩ := pair_get pl.it ha
      have hil := (List.getElem?_eq_some_iff.mp hxy).1
      have hdr : ss.drop i = (x, y) :: ss.drop (i + 1) := by
        rw [List.drop_eq_getElem_cons hil, (List.getElem?_eq_some_iff.mp hxy).2]
      have hS : StrN xs.length le (ss.drop i) ↔ le ≤ x ∧ x + 2 ≤ y ∧ y ≤ xs.length ∧ StrN xs.length (y - 1) (ss.drop (i + 1)) := by rw [hdr]; exact Iff.rfl
      refine ⟨r, a, xs, le, x, y, rfl, hr0, ea, ?_⟩
      by_cases c : le ≤ x ∧ x + 2 ≤ y ∧ y ≤ xs.length
      · rw [decide_eq_true c]
        refine bF (i_ixT 1 ea rfl rfl ⟨rfl, y - 1, some (.ref a), ?_, ?_⟩)
        · rw [← hs', hS]
          exact ⟨fun z => ⟨c.1, c.2.1, c.2.2, z⟩, fun z => z.2.2.2⟩
        · rw [show (((y - 1 : Nat)) : Int) = (y : Int) - 1 by omega]; rfl
      · rw [decide_eq_false c]
        exact bT (q2 fun z => c (by have := hS.mp (hs'.mpr z); exact ⟨this.1, this.2.1, this.2.2.1⟩))
    · rintro σ H' ⟨rfl, le, o, hs', rfl⟩
      refine ⟨rfl, hs'.mp ?_⟩
      rw [List.drop_eq_nil_of_le (by rw [List.length_map]; omega)]
      trivial
  · rintro σ H' ⟨rfl, hs⟩
    exact q1 hs
def zq39 : Sp := fun vs H Q _ => ∃ (r p : Addr) (m : Nat) (ns : List Int), vs = [.ref r, .int m, .ref p] ∧ H r = some (.lst (ns.map V.int)) ∧ RowN ns ∧ 1 ≤ m ∧ m ≤ ns.length ∧
  (((∃ (j : Nat) (t : Int), H p = some (.tup [.str "number", .int j]) ∧ ns[j]? = some t ∧ Q (.int t) H) ∨
   ∃ (l : Addr) (ps : List Addr) (ss : List (Nat × Nat)), H p = some (.tup [.str "stretches", .ref l]) ∧ PL H l ps ss ∧ ss.length = m ∧
     ∀ (v : V) H', ((v = .non ∧ ¬ StrN ns.length 0 ss) ∨ ∃ M, v = .int M ∧ StrN ns.length 0 ss ∧ M ∈ (ss.map fun s => seg ns s.1 s.2) ∧ ∀ a, a ∈ (ss.map fun s => seg ns s.1 s.2) → M ≤ a) → Same H H' → Q v H') ∨
   ∃ (t : Int) (qs : List Addr), (∀ x ∈ ns, x ≤ t) ∧ gp t ns ≤ m ∧ Pap H ns m t p qs ∧ ∀ H', Same H H' → Q (.int t) H')
theorem min_says {ns : List Int} {m : Nat} {t M : Int} {ss : List (Nat × Nat)} (rn : RowN ns) (hall : ∀ x ∈ ns, x ≤ t) (hg : gp t ns ≤ m) (hl : ss.length = m) (hs : StrN ns.length 0 ss) (hmin : ∀ a, a ∈ (ss.map fun s => seg ns s.1 s.2) → M ≤ a) : M ≤ t := by
  have hne : ns ≠ [] := fun z => by have := rn.ne; rw [z] at this; simp at this
  exact paper_says rn.nn hne hall hg hs hl fun s' hs'' => hmin _ (List.mem_map.mpr ⟨s', hs'', rfl⟩)
theorem zqas (B : Bl mg) (zqj : Def P w K mg base 3 "check_many" ["row", "many"] zq11) (zqm : Def P w K mg base 2 "is_within" ["thing", "low", "high"] zq16) (zq2j : Def P w K mg base 4 "are_stretches" ["row", "many", "thing"] zq38) (F : Fun K "says_greatest" "says_greatest" zq4 f fd) : FnOk P w K mg base CX0 5 f fd ["row", "many", "thing"] zq39 := by
  refine F.okq zq4h (fun vs H Q E h => ?_) (fun cdv A outer s H vs Q E hr h => ?_)
  · obtain ⟨r, p, m, ns, rfl, _⟩ := h; rfl
  obtain ⟨r, p, m, ns, rfl, hr0, rn, hm1, hmn, pap⟩ := h
  have hle : ns.length ≤ 120 := rn.le
  refine ⟨zqbi B zqj zqm zq2j hr, ?_⟩
  refine ⟨r, m, _, rfl, hr0, by omega, by rw [List.length_map]; omega, ?_⟩
  have pap := pap.elim id fun ⟨t, qs, hall, hg, hp, q⟩ => by
    cases hp with
    | num e hj => exact .inl ⟨_, _, e, hj, q H (Same.refl _)⟩
    | str e pl hl hs h =>
      refine .inr ⟨_, _, _, e, pl, hl, fun v H' hv s' => ?_⟩
      rcases hv with ⟨rfl, z⟩ | ⟨M, rfl, _, hM, hmin⟩
      · exact absurd hs z
      have h1 := min_says rn hall hg hl hs hmin
      obtain ⟨x, hx, e2⟩ := List.mem_map.mp hM
      have h2 := h x hx
      have e3 : M = t := by omega
      subst e3
      exact q H' s'
  rcases pap with ⟨j, t, e, hj, q⟩ | ⟨l, ps, ss, e, pl, hl, q2⟩
  · have hjl : j < ns.length := (List.getElem?_eq_some_iff.mp hj).1
    refine i_isi (.tup e) (by simp) (by simp) (bNo (by decide +kernel) ?_)
    refine i_len (.inr (SqT.of e)) (bNo (by simp) ?_)
    refine i_ixT 0 e rfl rfl (i_isi (.str _) (by simp) (by simp) (bNo (by decide +kernel) ?_))
    refine i_unp e rfl ?_
    refine bIs (by decide) (i_lenI hr0 ⟨j, 0, _, rfl, ?_⟩)
    have e2 : decide ((0 : Int) ≤ (j : Int) ∧ (j : Int) ≤ (ns.length : Int) - 1) = true := decide_eq_true ⟨by omega, by omega⟩
    rw [e2]
    exact bT (i_ixN j hr0 rfl (by rw [List.getElem?_map, hj]; rfl) q)
  · have hpl := Paired.length pl.it
    refine i_isi (.tup e) (by simp) (by simp) (bNo (by decide +kernel) ?_)
    refine i_len (.inr (SqT.of e)) (bNo (by simp) ?_)
    refine i_ixT 0 e rfl rfl (i_isi (.str _) (by simp) (by simp) (bNo (by decide +kernel) ?_))
    refine i_unp e rfl ?_
    refine bNo (by decide) (bF ?_)
    refine bIs (by decide) ⟨r, l, m, _, ps, ss, rfl, hr0, pl, hl, fun hs => bT ?_, fun hs => bF (q2 .non H (.inl ⟨rfl, by rw [List.length_map] at hs; exact hs⟩) (Same.refl _))⟩
    rw [List.length_map] at hs
    refine ⟨⟨_, SqL.of pl.at_⟩, comp_lst (ps.map V.ref) (fun i D σ H' ys => ys = ((ss.map fun s => seg ns s.1 s.2).take i).map V.int ∧ Same H H' ∧ ∃ o1 o2, σ = [o1, o2, some (.ref r)]) ?_ ?_ ?_ ?_⟩
    · intro D H' hD s' e'
      exact ⟨rfl, s', _, _, rfl⟩
    · rintro i D σ H' ys hD ⟨_, s', _⟩
      exact SqL.of (s' _ _ pl.at_)
    · rintro i x D σ H' ys hx hD ⟨rfl, s', o1, o2, rfl⟩ eD
      obtain ⟨a, ha, rfl⟩ := ref_at hx
      obtain ⟨⟨x, y⟩, hxy, ea⟩ := pair_get pl.it ha
      have hst := str_lt hs _ (List.mem_of_getElem? hxy)
      have hxl : x + 2 ≤ y ∧ y ≤ ns.length := hst.2
      refine i_unp (s' _ _ ea) rfl (bT (i_sl (SqL.of (s' _ _ hr0)) fun qa H6 hq s6 e6 => ?_))
      rw [cutV_ints, HT.sIx_nat, HT.sIx_nat, Nat.min_eq_left (show x ≤ ns.length by omega), Nat.min_eq_left (show y ≤ ns.length by omega)] at e6
      refine i_sum (SqL.of e6) ?_
      rw [slice_seg (by omega)]
      refine ⟨s6 _ _ eD, sz_lt (by rw [List.length_map, List.length_take, List.length_map]; omega), fun H7 k7 e7 => ⟨?_, (s'.trans s6).new k7 hD, _, _, rfl⟩⟩
      rw [take_snoc (x := seg ns x y) (by rw [List.getElem?_map, hxy]; rfl), List.map_append]; rfl
    · rintro D σ H' ys hD ⟨rfl, s', _⟩ eD
      rw [List.take_of_length_le (by simp; omega)] at eD
      refine i_min (SqL.of eD) (fun z => by have := congrArg List.length z; simp at this; rw [this] at hl; simp at hl; omega) fun M hM hmin => ?_
      exact q2 _ H' (.inr ⟨M, rfl, hs, hM, hmin⟩) s'
end
end K
set_option linter.all false
set_option Elab.async false
set_option maxRecDepth 100000
set_option maxHeartbeats 4000000
namespace K
open PySem L2
section
variable {C : Addr} {P : Program} {w : World} {K : PySem.W.Frag} {mg : Str → Option Value} {base : Heap} {f : Addr} {fd : FuncData}
abbrev zq1m : Stmt := top 8
theorem zqdg : FnScope ["row", "cut"] ["row", "cut"] (defScope zq1m) := ⟨rfl, rfl, rfl, by decide +kernel, rfl, by decide +kernel, by decide +kernel⟩
theorem zq9l : Vis (defScope zq1m) "cut" := Or.inl (by kernel_rfl)
theorem zqcs : Vis (defScope zq1m) "row" := Or.inr (Or.inl (by kernel_rfl))
theorem zqct : (defScope zq1m).names.lookup ("len" : Str) = some NameKind.globalImplicit := by kernel_rfl
theorem zqcu : (defScope zq1m).names.lookup ("zip" : Str) = some NameKind.globalImplicit := by kernel_rfl
def zqdo {cdv : Value} {A : Around} {outer : List Env} {s : Shared} {H : Hp} {E : XK} (B : Bl mg) (hr : Room 0 (A.deeper (PyProof.Rows.envOfC "pieces" (defScope zq1m) s.heap.objs.size f cdv))) :
    { t : TS // QB (cxOf CX0 P w K mg base ["row", "cut"] "pieces" (defScope zq1m) f cdv A outer s H E).nox (defBody zq1m) t } :=
  ⟨_, (qb_one (qs_ret (qe_cp ["begin", "end", "row"] [none, none, some 0] rfl (ki_zip (K := K) rfl zqcu B.zip (qa_cons (qe_op opAdd (qe_lst (qa_cons qe_int qa_nil)) (qv 1 rfl zq9l)) (qa_cons (qe_op opAdd (qv 1 rfl zq9l) (qe_lst (qa_cons (qe_cB (kLen (K := K) rfl) zqct B.len boot_len' (qa_cons (qv 0 rfl zqcs) qa_nil)) qa_nil))) qa_nil))) (fun _ _ _ _ _ _ => (kg_tup (K := K) rfl rfl (qgs_cons (qg_name (i := 0) (show (["begin", "end", "row"] : List Str).Nodup by decide +kernel) rfl (by first | exact Or.inl rfl | exact Or.inr rfl) (by first | exact .inl rfl | exact .inr rfl)) (qgs_cons (qg_name (i := 1) (show (["begin", "end", "row"] : List Str).Nodup by decide +kernel) rfl (by first | exact Or.inl rfl | exact Or.inr rfl) (by first | exact .inl rfl | exact .inr rfl)) qgs_nil)))) (fun _ _ _ _ _ _ => qif_nil) (fun _ _ _ _ _ _ => (ke_slice (K := K) rfl (qv 2 rfl (by first | exact Or.inl rfl | exact Or.inr (Or.inl rfl) | exact Or.inr (Or.inr rfl))) (qo_some (qv 0 rfl (by first | exact Or.inl rfl | exact Or.inr (Or.inl rfl) | exact Or.inr (Or.inr rfl)))) (qo_some (qv 1 rfl (by first | exact Or.inl rfl | exact Or.inr (Or.inl rfl) | exact Or.inr (Or.inr rfl)))))))))⟩
open M3 in
def zq7a : Sp := fun vs H Q _ => ∃ (r c : Addr) (ns : List Int) (cs : List Nat), vs = [.ref r, .ref c] ∧ H r = some (.lst (ns.map V.int)) ∧ H c = some (.lst ((zs cs).map V.int)) ∧ ns.length ≤ 1000 ∧ CutN cs ns.length ∧
  ∀ (p : Addr) (ps : List Addr) (H' : Hp), (∀ a ∈ p :: ps, H a = none) → Same H H' → LL H' p ps (pcs ns 0 cs) → Q (.ref p) H'
open M3 in
theorem zqdh (B : Bl mg) (F : Fun K "pieces" "pieces" zq1m f fd) : FnOk P w K mg base CX0 1 f fd ["row", "cut"] zq7a := by
  refine F.okq zqdg (fun vs H Q E h => ?_) (fun cdv A outer s H vs Q E hr h => ?_)
  · obtain ⟨r, c, ns, cs, rfl, _⟩ := h; rfl
  obtain ⟨r, c, ns, cs, rfl, hr0, hc0, hle, hcut, q⟩ := h
  have hcl := cut_len hcut
  refine ⟨zqdo B hr, ?_⟩
  refine i_newL (by show 1 ≤ sizeLine; decide) fun p1 H1 hp1 s1 e1 => ?_
  refine i_cat e1 (s1 _ _ hc0) (sz_of (by simp; omega)) fun p2 H2 hp2 s2 e2 => ?_
  refine i_lenI (s2 _ _ (s1 _ _ hr0)) ?_
  refine i_newL (by show 1 ≤ sizeLine; decide) fun p3 H3 hp3 s3 e3 => ?_
  refine i_cat (s3 _ _ (s2 _ _ (s1 _ _ hc0))) e3 (sz_of (by simp; omega)) fun p4 H4 hp4 s4 e4 => ?_
  have sH : Same H H4 := s1.trans (s2.trans (s3.trans s4))
  have e2' : H4 p2 = some (.lst ((zs (0 :: cs)).map V.int)) := s4 _ _ (s3 _ _ e2)
  have e4' : H4 p4 = some (.lst ((zs (cs ++ [ns.length])).map V.int)) := by rw [e4]; simp
  refine ⟨⟨_, SqL.of e2'⟩, ⟨_, SqL.of e4'⟩, comp_zip ((zs (0 :: cs)).map V.int) ((zs (cs ++ [ns.length])).map V.int) (by simp) (fun k D σ H' ys => ∃ ps : List Addr, ys = ps.map V.ref ∧ Same H4 H' ∧ (∀ a ∈ ps, H4 a = none) ∧ ps.Nodup ∧ D ∉ ps ∧ Paired (fun a ns => H' a = some (.lst (List.map V.int ns))) ps ((pcs ns 0 cs).take k) ∧ ∃ o1 o2, σ = [o1, o2, some (.ref r)]) ?_ ?_ ?_ ?_⟩
  · intro D H' hD s' e'
    exact ⟨[], rfl, s', by simp, by simp, by simp, .nil, _, _, rfl⟩
  · rintro k D σ H' ys hD ⟨_, _, s', _⟩
    exact ⟨SqL.of (s' _ _ e2'), SqL.of (s' _ _ e4')⟩
  · rintro k x y T D σ H' H'' ys hx hy hD ⟨ps, rfl, s', hfr, hnd, hDp, hpr, o1, o2, rfl⟩ eD hT sT eT
    obtain ⟨x, rfl, hx1⟩ := zs_at hx
    obtain ⟨y, rfl, hy1⟩ := zs_at hy
    have hxl : x ≤ ns.length := by
      rcases List.mem_cons.mp (List.mem_of_getElem? hx1) with rfl | h
      · omega
      · exact Nat.le_of_lt (hcut.hi x h)
    have hyl : y ≤ ns.length := by
      rcases List.mem_append.mp (List.mem_of_getElem? hy1) with h | h
      · exact Nat.le_of_lt (hcut.hi y h)
      · simp at h; omega
    have hpk := pcs_at ns cs 0 k x y hx1 hy1
    refine i_unp eT rfl (bT ?_)
    refine i_sl (SqL.of (sT _ _ (s' _ _ (sH _ _ hr0)))) fun qa H6 hq s6 e6 => ?_
    rw [cutV_ints, HT.sIx_nat, HT.sIx_nat, Nat.min_eq_left hxl, Nat.min_eq_left hyl] at e6
    have hpl : ps.length ≤ 1001 := by
      have h1 := Paired.length hpr
      have h2 := pcs_len ns cs 0
      rw [List.length_take] at h1; omega
    have hqn : qa ∉ ps := fun hm => by
      obtain ⟨b, e⟩ := pair_some hpr hm
      have := sT _ _ e
      rw [hq] at this; cases this
    have hqD : qa ≠ D := (ne_of_none (sT _ _ eD) hq).symm
    refine ⟨s6 _ _ (sT _ _ eD), sz_lt (by rw [List.length_map]; omega), fun H7 k7 e7 => ?_⟩
    refine ⟨ps ++ [qa], by rw [List.map_append]; rfl, (s'.trans (sT.trans s6)).new k7 hD, fun a ha => ?_, ?_, ?_, ?_, _, _, rfl⟩
    · rcases List.mem_append.mp ha with ha | ha
      · exact hfr a ha
      · have : a = qa := by simpa using ha
        subst this; exact s'.free (sT.free hq)
    · exact List.nodup_append.mpr ⟨hnd, by simp, fun a ha b hb => by
        have : b = qa := by simpa using hb
        subst this; exact fun z => hqn (z ▸ ha)⟩
    · intro hm
      rcases List.mem_append.mp hm with hm | hm
      · exact hDp hm
      · exact hqD (by simpa using hm : D = qa).symm
    · rw [take_snoc hpk]
      exact pair_snoc (F := fun a ns => H7 a = some (.lst (List.map V.int ns))) (k7.one hqD e6) (pair_imp hpr fun a ha b e => k7.one (fun z => hDp (z ▸ ha)) (s6 _ _ (sT _ _ e)))
  · rintro D σ H' ys hD ⟨ps, rfl, s', hfr, hnd, hDp, hpr, _⟩ eD
    refine q D ps H' (fun a ha => ?_) (sH.trans s') ⟨eD, hnd, hDp, ?_⟩
    · rcases List.mem_cons.mp ha with rfl | ha
      · exact sH.free hD
      · exact sH.free (hfr a ha)
    · rw [List.take_of_length_le (by rw [pcs_len]; simp)] at hpr
      exact hpr
abbrev zq1i : Stmt := top 9
theorem zqdc : FnScope ["row", "cut"] ["row", "cut"] (defScope zq1i) := ⟨rfl, rfl, rfl, by decide +kernel, rfl, by decide +kernel, by decide +kernel⟩
theorem zqcf : Vis (defScope zq1i) "cut" := Or.inl (by kernel_rfl)
theorem zqcg : Vis (defScope zq1i) "row" := Or.inl (by kernel_rfl)
theorem zqat : (defScope zq1i).names.lookup ("pieces" : Str) = some NameKind.globalImplicit := by kernel_rfl
def zqdi {cdv : Value} {A : Around} {outer : List Env} {s : Shared} {H : Hp} {E : XK} (B : Bl mg) (zq6v : Def P w K mg base 1 "pieces" ["row", "cut"] zq7a) (hr : Room 1 (A.deeper (PyProof.Rows.envOfC "sums_of" (defScope zq1i) s.heap.objs.size f cdv))) :
    { t : TS // QB (cxOf CX0 P w K mg base ["row", "cut"] "sums_of" (defScope zq1i) f cdv A outer s H E).nox (defBody zq1i) t } :=
  ⟨_, (qb_one (qs_ret (qe_cp ["piece"] [none] rfl (ki_list (K := K) rfl (qe_def zq6v hr (by decide) zqat (qa_cons (qv 0 rfl zqcg) (qa_cons (qv 1 rfl zqcf) qa_nil)))) (fun _ _ _ _ _ _ => (qg_name (i := 0) (show (["piece"] : List Str).Nodup by decide +kernel) rfl (by first | exact Or.inl rfl | exact Or.inr rfl) (by first | exact .inl rfl | exact .inr rfl))) (fun _ _ _ _ _ _ => qif_nil) (fun _ _ _ _ _ _ => (qe_cB (kSum (K := K) rfl rfl) rfl B.sum boot_sum' (qa_cons (qv 0 rfl (by first | exact Or.inl rfl | exact Or.inr (Or.inl rfl) | exact Or.inr (Or.inr rfl))) qa_nil))))))⟩
open M3 in
def zq6c : Sp := fun vs H Q _ => ∃ (r c : Addr) (ns : List Int) (cs : List Nat), vs = [.ref r, .ref c] ∧ H r = some (.lst (ns.map V.int)) ∧ H c = some (.lst ((zs cs).map V.int)) ∧ ns.length ≤ 1000 ∧ CutN cs ns.length ∧
  ∀ (p : Addr) (H' : Hp), H p = none → Same H H' → H' p = some (.lst (((pcs ns 0 cs).map List.sum).map V.int)) → Q (.ref p) H'
open M3 in
theorem zqdd (B : Bl mg) (zq6v : Def P w K mg base 1 "pieces" ["row", "cut"] zq7a) (F : Fun K "sums_of" "sums_of" zq1i f fd) : FnOk P w K mg base CX0 2 f fd ["row", "cut"] zq6c := by
  refine F.okq zqdc (fun vs H Q E h => ?_) (fun cdv A outer s H vs Q E hr h => ?_)
  · obtain ⟨r, c, ns, cs, rfl, _⟩ := h; rfl
  obtain ⟨r, c, ns, cs, rfl, hr0, hc0, hle, hcut, q⟩ := h
  have hcl := cut_len hcut
  refine ⟨zqdi B zq6v hr, ?_⟩
  refine ⟨r, c, ns, cs, rfl, hr0, hc0, hle, hcut, fun p ps H1 hf s1 ll => ?_⟩
  refine ⟨⟨_, SqL.of ll.at_⟩, comp_lst (ps.map V.ref) (fun k D σ H' ys => ys = (((pcs ns 0 cs).map List.sum).take k).map V.int ∧ Same H1 H' ∧ ∃ o, σ = [o]) ?_ ?_ ?_ ?_⟩
  · intro D H' hD s' e'
    exact ⟨rfl, s', _, rfl⟩
  · rintro k D σ H' ys hD ⟨_, s', _⟩
    exact SqL.of (s' _ _ ll.at_)
  · rintro k x D σ H' ys hx hD ⟨rfl, s', o, rfl⟩ eD
    obtain ⟨a, ha, rfl⟩ := ref_at hx
    obtain ⟨ms, hms, em⟩ := pair_get ll.it ha
    refine bT (i_sum (SqL.of (s' _ _ em)) ⟨eD, sz_lt (by rw [List.length_map, List.length_take, List.length_map, pcs_len]; omega), fun H6 k6 e6 => ⟨?_, s'.new k6 hD, _, rfl⟩⟩)
    rw [take_snoc (x := ms.sum) (by rw [List.getElem?_map, hms]; rfl), List.map_append]; rfl
  · rintro D σ H' ys hD ⟨rfl, s', _⟩ eD
    refine q D H' (s1.free hD) (s1.trans s') ?_
    rw [eD, List.take_of_length_le (by rw [List.length_map, List.length_map, ll.len]; exact Nat.le_refl _)]
abbrev zq1v : Stmt := top 7
theorem zqdj : FnScope ["row", "thing"] ["row", "thing"] (defScope zq1v) := ⟨rfl, rfl, rfl, by decide +kernel, rfl, by decide +kernel, by decide +kernel⟩
theorem zqcv : Vis (defScope zq1v) "row" := Or.inl (by kernel_rfl)
theorem zqbw : Vis (defScope zq1v) "thing" := Or.inl (by kernel_rfl)
theorem zq94 : (defScope zq1v).names.lookup ("are_places" : Str) = some NameKind.globalImplicit := by kernel_rfl
def zqdp {cdv : Value} {A : Around} {outer : List Env} {s : Shared} {H : Hp} {E : XK} (B : Bl mg) (zq18 : Def P w K mg base 3 "are_places" ["row", "thing", "first"] zq2e) (hr : Room 3 (A.deeper (PyProof.Rows.envOfC "is_cut" (defScope zq1v) s.heap.objs.size f cdv))) :
    { t : TS // QB (cxOf CX0 P w K mg base ["row", "thing"] "is_cut" (defScope zq1v) f cdv A outer s H E).nox (defBody zq1v) t } :=
  ⟨_, (qb_one (qs_ret (qe_def zq18 hr (by decide) zq94 (qa_cons (qv 0 rfl zqcv) (qa_cons (qv 1 rfl zqbw) (qa_cons qe_int qa_nil))))))⟩
open M3
def zq7b : Sp := fun vs H Q _ => ∃ (r p : Addr) (xs : List V) (qs : List Nat), vs = [.ref r, .ref p] ∧ H r = some (.lst xs) ∧ H p = some (.lst ((zs qs).map V.int)) ∧ CutN qs xs.length ∧ Q (.bl true) H
theorem zqdk (B : Bl mg) (zq18 : Def P w K mg base 3 "are_places" ["row", "thing", "first"] zq2e) (F : Fun K "is_cut" "is_cut" zq1v f fd) : FnOk P w K mg base CX0 4 f fd ["row", "thing"] zq7b := by
  refine F.okq zqdj (fun vs H Q E h => ?_) (fun cdv A outer s H vs Q E hr h => ?_)
  · obtain ⟨r, p, xs, qs, rfl, _⟩ := h; rfl
  obtain ⟨r, p, xs, qs, rfl, hr0, hp0, hc, q⟩ := h
  refine ⟨zqdp B zq18 hr, ?_⟩
  exact ⟨r, p, xs, qs, 1, rfl, hr0, hp0, hc.up, fun x hx => ⟨hc.lo x hx, hc.hi x hx⟩, q⟩
end
end K
set_option linter.all false
set_option Elab.async false
set_option maxRecDepth 100000
set_option maxHeartbeats 4000000
namespace K
open PySem L2
section
variable {C : Addr} {P : Program} {w : World} {K : PySem.W.Frag} {mg : Str → Option Value} {base : Heap} {f : Addr} {fd : FuncData}
open M3 M5 M10 M11 M7 M34
theorem first_cut_ok {ns : List Int} {t : Int} {l i : Nat} {c : List Int} (h : FirstCut 0 ns t l i c) (hi : i < ns.length) (hw : worse 0 (T 0 ns l i) t = false) : ∃ cs : List Nat, c = zs cs ∧ cs.Pairwise (· < ·) ∧ (∀ x ∈ cs, i < x ∧ x < ns.length) ∧ ∀ q ∈ pcs ns i cs, q.sum ≤ t := by
  induction h with
  | nil i =>
    refine ⟨[], rfl, .nil, by simp, fun q hq => ?_⟩
    simp only [pcs, List.mem_singleton] at hq
    subst hq
    simp only [T, if_pos hi, worse, if_pos] at hw
    rw [← seg_all]
    have : ¬ t < seg ns i ns.length := of_decide_eq_false hw
    omega
  | step h1 h2 h3 h4 h5 h6 ih =>
    rename_i l i e c
    obtain ⟨cs, e1, e2, e3, e4⟩ := ih h2 h4
    refine ⟨e :: cs, by rw [e1]; rfl, List.pairwise_cons.mpr ⟨fun x hx => (e3 x hx).1, e2⟩, fun x hx => ?_, fun q hq => ?_⟩
    · rcases List.mem_cons.mp hx with rfl | hx
      · exact ⟨h1, h2⟩
      · have := e3 x hx; omega
    · simp only [pcs] at hq
      rcases List.mem_cons.mp hq with rfl | hq
      · rw [slice_seg (by omega)]
        simp only [worse, if_pos] at h3
        have : ¬ t < seg ns i e := of_decide_eq_false h3
        omega
      · exact e4 q hq
open M3 M5 M10 M11 M7 M34 M40
theorem first_lex {ns : List Int} {t : Int} {l i : Nat} {c : List Int} (h : FirstCut 0 ns t l i c) : ∀ cs : List Nat, c = zs cs → i < ns.length → ∀ ds : List Nat, ds.length = l → ds.Pairwise (· < ·) → (∀ d ∈ ds, i < d ∧ d < ns.length) → (∀ p ∈ pcs ns i ds, p.sum ≤ t) → ¬ Ahead ds cs := by
  induction h with
  | nil i =>
    intro cs e _ ds hl _ _ _ ha
    have : ds = [] := List.length_eq_zero_iff.mp hl
    subst this
    exact ha.elim
  | step h1 h2 h3 h4 h5 h6 ih =>
    rename_i l i e c
    intro cs ec hi ds hl hp hd hk ha
    cases cs with
    | nil => simp at ec
    | cons e' cs =>
      simp only [zs, List.map_cons, List.cons.injEq] at ec
      obtain ⟨e1, e2⟩ := ec
      have e1 : e = e' := by omega
      subst e1
      cases ds with
      | nil => exact ha.elim
      | cons d ds =>
        obtain ⟨p1, p2⟩ := List.pairwise_cons.mp hp
        have hd0 := hd d List.mem_cons_self
        have hin : ∀ x ∈ ds, d < x ∧ x < ns.length := fun x hx => ⟨p1 x hx, (hd x (List.mem_cons_of_mem _ hx)).2⟩
        have hk' : ∀ p ∈ pcs ns d ds, p.sum ≤ t := fun p hp => hk p (by simp only [pcs]; exact List.mem_cons_of_mem _ hp)
        rcases ha with ha | ⟨rfl, ha⟩
        · rcases h5 d hd0.1 ha with z | z
          · have := hk ((ns.drop i).take (d - i)) (by simp [pcs])
            rw [slice_seg (by omega)] at this
            simp only [worse, if_true, decide_eq_true_eq] at z
            omega
          · obtain ⟨v, hv, hvt⟩ := T_le l d ds (by simpa using hl) p2 hin hd0.2 hk'
            rw [hv] at z
            simp only [worse, if_true, decide_eq_true_eq] at z
            omega
        · exact ih cs e2 h2 ds (by simpa using hl) p2 hin hk' ha
theorem lg_facts {os : List Int} {m : Nat} {t : Int} {c : List Int} (m1 : 1 ≤ m) (mn : m ≤ os.length) (hT : T 0 os (m - 1) 0 = some t) (hF : FirstCut 0 os t (m - 1) 0 c) :
    ∃ cs : List Nat, c = zs cs ∧ CutN cs os.length ∧ cs.length + 1 = m ∧ (∀ p ∈ pcs os 0 cs, p.sum ≤ t) ∧ (∀ (ds : List Nat) (u : Int), CutN ds os.length → ds.length + 1 = m → (∀ p ∈ pcs os 0 ds, p.sum ≤ u) → t ≤ u) ∧ ∀ ds : List Nat, CutN ds os.length → ds.length + 1 = m → (∀ p ∈ pcs os 0 ds, p.sum ≤ t) → ¬ Ahead ds cs := by
  have hw : worse 0 (T 0 os (m - 1) 0) t = false := by rw [hT]; simp [worse]
  obtain ⟨cs, e1, e2, e3, e4⟩ := first_cut_ok hF (by omega) hw
  have hl := hF.len
  have hcl : cs.length = m - 1 := by rw [e1] at hl; simpa using hl
  refine ⟨cs, e1, ⟨e2, fun x hx => (e3 x hx).1, fun x hx => (e3 x hx).2⟩, by omega, e4, fun ds u h1 h2 h3 => ?_, fun ds h1 h2 h3 => ?_⟩
  · obtain ⟨v, hv, hvu⟩ := T_le (m - 1) 0 ds (by omega) h1.up (fun c hc => ⟨h1.lo c hc, h1.hi c hc⟩) (by omega) h3
    rw [hT] at hv
    cases hv
    exact hvu
  · exact first_lex hF cs e1 (by omega) ds (by omega) h1.up (fun c hc => ⟨h1.lo c hc, h1.hi c hc⟩) h3
open M3 M5 M10 M11 M7 M34 M33 M9 M12 M40
theorem least_iff {ns : List Int} {m : Nat} {t : Int} (rn : RowN ns) (hm1 : 1 ≤ m) (hmn : m ≤ ns.length) (hT : T 1 ns (m - 1) 0 = some t) : (∀ b, b ≤ t ↔ m ≤ G b ns 0) ∧ 0 ≤ t := by
  have hiff : ∀ b, b ≤ t ↔ m ≤ G b ns 0 := fun b => by
    have := T_iff rn.nn b (k := m - 1) (i := 0) (by omega) hT
    rw [show m - 1 + 1 = m by omega] at this; exact this
  exact ⟨hiff, (hiff 0).mpr (by rw [G_zero rn.nn]; exact hmn)⟩
theorem ends_cut {ns : List Int} (rn : RowN ns) {b : Int} {j : Nat} (hj : j < (sends b 0 0 ns).length) : ∃ cs : List Nat, (sends b 0 0 ns).take j = zs cs ∧ CutN cs ns.length ∧ cs.length = j ∧ ∀ q ∈ pcs ns 0 cs, b ≤ q.sum := by
  have hl := rn.ne
  obtain ⟨cs, q1, q2, q3, q4, q5⟩ := short_ok rn.nn (b := b) j 0 (by omega) (by rw [List.drop_zero]; exact hj)
  rw [List.drop_zero] at q1
  exact ⟨cs, q1, ⟨q3, fun x hx => by have := (q4 x hx).1; omega, fun x hx => (q4 x hx).2⟩, q2, q5⟩
theorem least_most {ns : List Int} {m : Nat} {t M : Int} (rn : RowN ns) (hiff : ∀ b, b ≤ t ↔ m ≤ G b ns 0) {cs : List Nat} (hcut : CutN cs ns.length) (hcl : cs.length + 1 = m) (hmin : ∀ a, a ∈ (pcs ns 0 cs).map List.sum → M ≤ a) : M ≤ t := by
  have hf := pcs_flat ns cs 0 hcut.up fun c hc => ⟨Nat.zero_le _, Nat.le_of_lt (hcut.hi c hc)⟩
  have hne := pcs_ne ns cs 0 (by have := rn.ne; omega) hcut.up fun c hc => ⟨hcut.lo c hc, hcut.hi c hc⟩
  have h2 := G_ge rn.nn (b := M) (pcs ns 0 cs) 0 (Nat.zero_le _) hf fun p hp => ⟨hne p hp, hmin _ (List.mem_map.mpr ⟨p, hp, rfl⟩)⟩
  rw [pcs_len] at h2
  exact (hiff M).mpr (by omega)
theorem told12 {ns : List Int} {m : Nat} {t : Int} (rn : RowN ns) (hm1 : 1 ≤ m) (hmn : m ≤ ns.length) (hiff : ∀ b, b ≤ t ↔ m ≤ G b ns 0) : ∃ cs : List Nat, (sends t 0 0 ns).take (m - 1) = zs cs ∧ CutN cs ns.length ∧ cs.length + 1 = m ∧ ∀ M, M ∈ (pcs ns 0 cs).map List.sum → (∀ a, a ∈ (pcs ns 0 cs).map List.sum → M ≤ a) → M = t := by
  have hG := (hiff t).mp (Int.le_refl t)
  obtain ⟨cs, e1, hcut, hcl, hsum⟩ := ends_cut rn (b := t) (j := m - 1) (by rw [G_len]; omega)
  refine ⟨cs, e1, hcut, by omega, fun M hM hmin => Int.le_antisymm (least_most rn hiff hcut (by omega) hmin) ?_⟩
  obtain ⟨p, hp, rfl⟩ := List.mem_map.mp hM; exact hsum p hp
theorem nat_sorted {ms : List Int} (h0 : ∀ z ∈ ms, 0 ≤ z) (hn : ms.Nodup) (hs : ms.Pairwise (· ≤ ·)) : ∃ cs : List Nat, ms = zs cs ∧ cs.Pairwise (· < ·) := by
  refine ⟨ms.map Int.toNat, ?_, ?_⟩
  · unfold zs
    rw [List.map_map]
    conv => lhs; rw [← List.map_id ms]
    refine List.map_congr_left fun z hz => ?_
    have := h0 z hz
    simp only [id_eq, Function.comp_apply]
    omega
  · rw [List.pairwise_map]
    refine List.Pairwise.imp_of_mem (fun {a b} ha hb hab => ?_) (hs.and hn)
    have := h0 a ha
    have := h0 b hb
    have := hab.1
    have := hab.2
    omega
theorem len_sub : ∀ {ms ns : List Int}, ms.Nodup → (∀ j, j ∈ ms → j ∈ ns) → ms.length ≤ ns.length
  | [], _, _, _ => Nat.zero_le _
  | a :: ms, ns, h, hs => by
    obtain ⟨h1, h2⟩ := List.nodup_cons.mp h
    have ha := hs a (.head _)
    have := len_sub (ns := ns.erase a) h2 fun j hj => (List.mem_erase_of_ne (fun z : j = a => h1 (by rw [← z]; exact hj))).mpr (hs j (.tail _ hj))
    have hl := List.length_erase_of_mem ha
    have : 0 < ns.length := List.length_pos_of_mem ha
    rw [List.length_cons]
    omega
end
end K
set_option linter.all false
set_option Elab.async false
set_option maxRecDepth 100000
set_option maxHeartbeats 4000000
namespace K
open PySem L2
section
variable {C : Addr} {P : Program} {w : World} {K : PySem.W.Frag} {mg : Str → Option Value} {base : Heap} {f : Addr} {fd : FuncData}
abbrev zqs : Stmt := top 34
theorem zq6d : FnScope ["draws", "size", "many", "left", "found", "k"] ["draws", "size", "many"] (defScope zqs) := ⟨rfl, rfl, rfl, by decide +kernel, rfl, by decide +kernel, by decide +kernel⟩
theorem zqbj : Loc (defScope zqs) "found" := Or.inl (by kernel_rfl)
theorem zqd6 : Loc (defScope zqs) "k" := Or.inl (by kernel_rfl)
theorem zqbx : Loc (defScope zqs) "left" := Or.inl (by kernel_rfl)
theorem zqbk : Vis (defScope zqs) "draws" := Or.inl (by kernel_rfl)
theorem zq7c : Vis (defScope zqs) "found" := Or.inl (by kernel_rfl)
theorem zq84 : Vis (defScope zqs) "left" := Or.inl (by kernel_rfl)
theorem zqby : Vis (defScope zqs) "many" := Or.inl (by kernel_rfl)
theorem zqbz : Vis (defScope zqs) "size" := Or.inl (by kernel_rfl)
theorem zq95 : (defScope zqs).names.lookup ("_law_take" : Str) = some NameKind.globalImplicit := by kernel_rfl
theorem zqch : (defScope zqs).names.lookup ("len" : Str) = some NameKind.globalImplicit := by kernel_rfl
theorem zqc0 : (defScope zqs).names.lookup ("list" : Str) = some NameKind.globalImplicit := by kernel_rfl
theorem zq7d : (defScope zqs).names.lookup ("range" : Str) = some NameKind.globalImplicit := by kernel_rfl
theorem zqau : (defScope zqs).names.lookup ("sorted" : Str) = some NameKind.globalImplicit := by kernel_rfl
def zqdl {cdv : Value} {A : Around} {outer : List Env} {s : Shared} {H : Hp} {E : XK} (B : Bl mg) (zq1 : Def P w K mg base 1 "_law_take" ["draws", "many"] zqz) (hr : Room 1 (A.deeper (PyProof.Rows.envOfC "_law_cut" (defScope zqs) s.heap.objs.size f cdv))) :
    { t : TS // QB (cxOf CX0 P w K mg base ["draws", "size", "many", "left", "found", "k"] "_law_cut" (defScope zqs) f cdv A outer s H E).nox (defBody zqs) t } :=
  ⟨_, (qb_cons (qs_set (i := 3) zq6d.nd rfl zqbx (.inl rfl) (qe_cT (kListR rfl) zqc0 B.list boot_list (qa_cons (qe_range2 zq7d B.range (qa_cons qe_int (qa_cons (qv 1 rfl zqbz) qa_nil))) qa_nil)))
    (qb_cons (qs_set (i := 4) zq6d.nd rfl zqbj (.inl rfl) (qe_lst qa_nil))
    (qb_mid (qs_for PassesOwn.never rfl (qi_r1 zq7d B.range (qa_cons (qe_op opSub (qv 2 rfl zqby) qe_int) qa_nil)) (qg_name (i := 5) zq6d.nd rfl zqd6 (.inl rfl)) (qb_one (qs_ex (ke_m1 (K := K) rfl PySem.F.plainAttrs_list PySem.F.slot_list_append PySem.F.type_list_append mtApp (qv 4 rfl zq7c) (ke_m1 (K := K) rfl PySem.F.plainAttrs_list PySem.F.slot_list_pop PySem.F.type_list_pop mtPopAt (qv 3 rfl zq84) (qe_op opMod (qe_def zq1 hr (by decide) zq95 (qa_cons (qv 0 rfl zqbk) (qa_cons qe_int qa_nil))) (qe_cB (kLen (K := K) rfl) zqch B.len boot_len' (qa_cons (qv 3 rfl zq84) qa_nil))))))))
    (qb_one (qs_ret (qe_cB (kSorted (K := K) rfl) zqau B.sorted boot_sorted' (qa_cons (qv 4 rfl zq7c) qa_nil)))))))⟩
open M3 M39
theorem map_era {α β : Type} (g : α → β) : ∀ (l : List α) (k : Nat), (l.map g).eraseIdx k = (l.eraseIdx k).map g
  | [], k => rfl
  | _ :: l, 0 => rfl
  | x :: l, k + 1 => congrArg (g x :: ·) (map_era g l k)
def zq6e : Sp := fun vs H Q _ => ∃ (d : Addr) (n m : Nat), vs = [.ref d, .int n, .int m] ∧ DrawsAt H d ∧ 1 ≤ m ∧ m ≤ n ∧ n ≤ 120 ∧
  ∀ (p : Addr) (cs : List Nat) (H' : Hp), CutN cs n → cs.length + 1 = m → DrawsAt H' d → Kp [d] H H' → H' p = some (.lst ((zs cs).map V.int)) → Q (.ref p) H'
theorem zqde (B : Bl mg) (zq1 : Def P w K mg base 1 "_law_take" ["draws", "many"] zqz) (F : Fun K "_law_cut" "_law_cut" zqs f fd) : FnOk P w K mg base CX0 2 f fd ["draws", "size", "many"] zq6e := by
  refine F.okq zq6d (fun vs H Q E h => ?_) (fun cdv A outer s H vs Q E hr h => ?_)
  · obtain ⟨d, n, m, rfl, _⟩ := h; rfl
  obtain ⟨d, n, m, rfl, hd, hm1, hmn, hn, q⟩ := h
  refine ⟨zqdl B zq1 hr, ?_⟩
  refine i_rngV fun p1 H1 hp1 s1 e1 => i_listR e1 ⟨by decide, by decide, by omega, by omega⟩ (by omega) fun p2 H2 hp2 s2 e2 => ?_
  have e2' : H2 p2 = some (.lst ((zs ((List.range (n - 1)).map (· + 1))).map V.int)) := by
    rw [e2, show ((n : Int) - 1).toNat = n - 1 by omega]
    simp only [zs, List.map_map]
    congr 2
    refine List.map_congr_left fun x _ => ?_
    simp only [Function.comp_apply]
    congr 1; omega
  refine i_newL (by show 0 ≤ sizeLine; decide) fun p3 H3 hp3 s3 e3 => ?_
  have s13 := s1.trans (s2.trans s3)
  have hp2H : H p2 = none := s1.free hp2
  have hp3H : H p3 = none := (s1.trans s2).free hp3
  have n23 : p2 ≠ p3 := ne_of_none e2' hp3
  have n2d : p2 ≠ d := (hd.ne hp2H).symm
  have n3d : p3 ≠ d := (hd.ne hp3H).symm
  refine ⟨fun σ H' => (∃ fs ls : List Nat, (fs ++ ls).Perm (List.range (n - 1)) ∧ fs.length + 1 = m ∧ H' p3 = some (.lst ((zs (fs.map (· + 1))).map V.int))) ∧ DrawsAt H' d ∧ Kp [d] H H' ∧ ∃ o, σ = [some (.ref d), some (.int n), some (.int m), some (.ref p2), some (.ref p3), o], ?_, ?_⟩
  · refine ⟨⟨by omega, by omega⟩, for_range (fun i σ H' => (∃ fs ls : List Nat, (fs ++ ls).Perm (List.range (n - 1)) ∧ fs.length = i ∧ H' p3 = some (.lst ((zs (fs.map (· + 1))).map V.int)) ∧ H' p2 = some (.lst ((zs (ls.map (· + 1))).map V.int))) ∧ DrawsAt H' d ∧ Kp [d] H H' ∧ ∃ o, σ = [some (.ref d), some (.int n), some (.int m), some (.ref p2), some (.ref p3), o]) ?_ ?_ ?_⟩
    · exact ⟨⟨[], List.range (n - 1), by simp, rfl, e3, s3 _ _ e2'⟩, hd.same s13, s13.kp, _, rfl⟩
    · rintro i σ H4 hi ⟨⟨fs, ls, hperm, hfl, ef, el⟩, hd4, k4, o, rfl⟩
      have hlen := hperm.length_eq
      rw [List.length_append, List.length_range] at hlen
      have hi' : i + 1 < m := by omega
      refine ⟨i_tyL ef, i_tyL el, d, 1000, rfl, hd4, by decide, fun g H5 g0 g1 hd5 k5 => ?_⟩
      have el5 := k5.one n2d el
      have ef5 := k5.one n3d ef
      refine i_lenI el5 ?_
      rw [List.length_map, List.length_map]
      refine ⟨by omega, ?_⟩
      have b0 := Int.emod_nonneg g (show (ls.length : Int) ≠ 0 by omega)
      have b1 := Int.emod_lt_of_pos g (show (0 : Int) < ls.length by omega)
      obtain ⟨ix, hix⟩ : ∃ ix : Nat, g % (ls.length : Int) = (ix : Int) := ⟨(g % (ls.length : Int)).toNat, by omega⟩
      rw [hix] at b0 b1 ⊢
      have hy : ls[ix]? = some ls[ix] := List.getElem?_eq_getElem (by omega)
      refine i_popAt (y := .int ((ls[ix] + 1 : Nat) : Int)) ix el5 rfl (by omega) (by rw [List.getElem?_map, List.getElem?_map, List.getElem?_map, hy]; rfl) fun H6 k6 e6 => ?_
      have e6' : H6 p2 = some (.lst ((zs ((ls.eraseIdx ix).map (· + 1))).map V.int)) := by
        rw [e6, map_era, map_era, map_era]
      refine i_app (k6.one n23.symm ef5) (sz_lt (by rw [List.length_map, List.length_map, List.length_map]; omega)) fun H7 k7 e7 => ?_
      have k47 : Kp [d] H H7 := ((k4.trans k5).new k6 hp2H).new k7 hp3H
      refine ⟨⟨fs ++ [ls[ix]], ls.eraseIdx ix, draw_place hperm hy, by simp; omega, by rw [e7]; simp [zs], k7.one n23 e6'⟩, (hd5.kp k6 (by simp [n2d.symm])).kp k7 (by simp [n3d.symm]), k47, _, rfl⟩
    · rintro σ H' ⟨⟨fs, ls, h1, h2, h3, _⟩, hd', k', o, rfl⟩
      exact ⟨⟨fs, ls, h1, by omega, h3⟩, hd', k', _, rfl⟩
  · rintro σ H4 ⟨⟨fs, ls, hperm, hfl, ef⟩, hd4, k4, o, rfl⟩
    have hlen := hperm.length_eq
    rw [List.length_append, List.length_range] at hlen
    refine i_sortedS (SqL.of ef) (by rw [List.length_map, List.length_map]; omega) fun p5 H5 ns' hper hsr hp5 s5 e5 => ?_
    have hnd : fs.Nodup := (List.nodup_append.mp ((hperm.nodup_iff).mpr List.nodup_range)).1
    have hnd2 : (zs (fs.map (· + 1))).Nodup := by
      unfold zs
      rw [List.map_map]
      exact List.Pairwise.map _ (fun a b hab z => hab (by simp only [Function.comp_apply] at z; omega)) hnd
    have hin : ∀ z ∈ ns', ∃ x ∈ fs, ((x + 1 : Nat) : Int) = z := fun z hz => by
      have := hper.mem_iff.mp hz
      unfold zs at this
      rw [List.map_map] at this
      exact List.mem_map.mp this
    obtain ⟨cs, rfl, hup⟩ := nat_sorted (fun z hz => by obtain ⟨x, _, e⟩ := hin z hz; omega) (hper.nodup_iff.mpr hnd2) hsr
    have hmem : ∀ c ∈ cs, 1 ≤ c ∧ c < n := fun c hc => by
      obtain ⟨x, hx, e⟩ := hin (c : Int) (List.mem_map.mpr ⟨c, hc, rfl⟩)
      have := List.mem_range.mp (hperm.mem_iff.mp (List.mem_append_left _ hx))
      omega
    refine q p5 cs H5 ⟨hup, fun c hc => (hmem c hc).1, fun c hc => (hmem c hc).2⟩ ?_ (hd4.same s5) (k4.same s5) e5
    have := hper.length_eq
    simp [zs] at this
    omega
abbrev zq9 : Stmt := top 35
theorem zq1n : FnScope ["draws", "size", "many", "found", "begin", "k", "end"] ["draws", "size", "many"] (defScope zq9) := ⟨rfl, rfl, rfl, by decide +kernel, rfl, by decide +kernel, by decide +kernel⟩
theorem zq4o : Loc (defScope zq9) "begin" := Or.inl (by kernel_rfl)
theorem zq96 : Loc (defScope zq9) "end" := Or.inl (by kernel_rfl)
theorem zq85 : Loc (defScope zq9) "found" := Or.inl (by kernel_rfl)
theorem zqa3 : Loc (defScope zq9) "k" := Or.inl (by kernel_rfl)
theorem zq4p : Vis (defScope zq9) "begin" := Or.inl (by kernel_rfl)
theorem zq2y : Vis (defScope zq9) "draws" := Or.inl (by kernel_rfl)
theorem zq56 : Vis (defScope zq9) "end" := Or.inl (by kernel_rfl)
theorem zq4q : Vis (defScope zq9) "found" := Or.inl (by kernel_rfl)
theorem zq8l : Vis (defScope zq9) "many" := Or.inl (by kernel_rfl)
theorem zq21 : (defScope zq9).names.lookup ("_law_take" : Str) = some NameKind.globalImplicit := by kernel_rfl
theorem zq86 : (defScope zq9).names.lookup ("range" : Str) = some NameKind.globalImplicit := by kernel_rfl
def zqbl {cdv : Value} {A : Around} {outer : List Env} {s : Shared} {H : Hp} {E : XK} (B : Bl mg) (zq1 : Def P w K mg base 1 "_law_take" ["draws", "many"] zqz) (hr : Room 1 (A.deeper (PyProof.Rows.envOfC "_law_stretches" (defScope zq9) s.heap.objs.size f cdv))) :
    { t : TS // QB (cxOf CX0 P w K mg base ["draws", "size", "many", "found", "begin", "k", "end"] "_law_stretches" (defScope zq9) f cdv A outer s H E).nox (defBody zq9) t } :=
  ⟨_, (qb_cons (qs_set (i := 3) zq1n.nd rfl zq85 (.inl rfl) (qe_lst qa_nil))
    (qb_cons (qs_set (i := 4) zq1n.nd rfl zq4o (.inl rfl) (qe_def zq1 hr (by decide) zq21 (qa_cons (qv 0 rfl zq2y) (qa_cons qe_int qa_nil))))
    (qb_mid (qs_for PassesOwn.never rfl (qi_r1 zq86 B.range (qa_cons (qv 2 rfl zq8l) qa_nil)) (qg_name (i := 5) zq1n.nd rfl zqa3 (.inl rfl)) (qb_cons (qs_set (i := 6) zq1n.nd rfl zq96 (.inl rfl) (qe_op opAdd (qe_op opAdd (qv 4 rfl zq4p) qe_int) (qe_def zq1 hr (by decide) zq21 (qa_cons (qv 0 rfl zq2y) (qa_cons qe_int qa_nil)))))
    (qb_cons (qs_ex (ke_m1 (K := K) rfl PySem.F.plainAttrs_list PySem.F.slot_list_append PySem.F.type_list_append mtApp (qv 3 rfl zq4q) (qe_tup (qa_cons (qv 4 rfl zq4p) (qa_cons (qv 6 rfl zq56) qa_nil)))))
    (qb_one (qs_set (i := 4) zq1n.nd rfl zq4o (.inl rfl) (qe_op opAdd (qe_op opSub (qv 6 rfl zq56) qe_int) (qe_def zq1 hr (by decide) zq21 (qa_cons (qv 0 rfl zq2y) (qa_cons qe_int qa_nil)))))))))
    (qb_one (qs_ret (qv 3 rfl zq4q))))))⟩
open M3
theorem PL.kpd {H H' : Hp} {p d : Addr} {ps : List Addr} {rs : List (Nat × Nat)} (h : PL H p ps rs) (hd : DrawsAt H d) (n : p ≠ d) (k : Kp [d] H H') : PL H' p ps rs :=
  ⟨k.one n h.at_, pair_imp h.it fun a ha b e => k.one (fun z => by obtain ⟨ds, q, _⟩ := hd; rw [z, q] at e; cases e) e⟩
def zq3a : Sp := fun vs H Q _ => ∃ (d : Addr) (n m : Nat), vs = [.ref d, .int n, .int m] ∧ DrawsAt H d ∧ 1 ≤ m ∧ m ≤ 120 ∧
  ∀ (p : Addr) (ps : List Addr) (ss : List (Nat × Nat)) (H' : Hp), PL H' p ps ss → ss.length = m → DrawsAt H' d → Kp [d] H H' → p ≠ d → Q (.ref p) H'
theorem zqav (B : Bl mg) (zq1 : Def P w K mg base 1 "_law_take" ["draws", "many"] zqz) (F : Fun K "_law_stretches" "_law_stretches" zq9 f fd) : FnOk P w K mg base CX0 2 f fd ["draws", "size", "many"] zq3a := by
  refine F.okq zq1n (fun vs H Q E h => ?_) (fun cdv A outer s H vs Q E hr h => ?_)
  · obtain ⟨d, n, m, rfl, _⟩ := h; rfl
  obtain ⟨d, n, m, rfl, hd, hm1, hm, q⟩ := h
  refine ⟨zqbl B zq1 hr, ?_⟩
  refine i_newL (by show 0 ≤ sizeLine; decide) fun p1 H1 hp1 s1 e1 => ?_
  have npd : p1 ≠ d := (hd.ne hp1).symm
  refine ⟨d, 3, rfl, hd.same s1, by decide, fun g H2 g0 g1 hd2 k2 => ?_⟩
  obtain ⟨b, rfl⟩ : ∃ b : Nat, g = b := ⟨g.toNat, by omega⟩
  refine ⟨fun σ H' => (∃ ps ss, PL H' p1 ps ss ∧ ss.length = m) ∧ DrawsAt H' d ∧ Kp [d] H H' ∧ ∃ o1 o2 o3, σ = [some (.ref d), some (.int n), some (.int m), some (.ref p1), o1, o2, o3], ?_, ?_⟩
  · refine ⟨⟨by omega, by omega⟩, for_range (fun i σ H' => (∃ ps ss, PL H' p1 ps ss ∧ ss.length = i) ∧ DrawsAt H' d ∧ Kp [d] H H' ∧ ∃ (b : Nat) (o2 o3 : Option V), σ = [some (.ref d), some (.int n), some (.int m), some (.ref p1), some (.int b), o2, o3]) ?_ ?_ ?_⟩
    · exact ⟨⟨[], [], ⟨k2.one npd e1, .nil⟩, rfl⟩, hd2, s1.kp.trans k2, b, _, _, rfl⟩
    · rintro i σ H3 hi ⟨⟨ps, ss, pl, hl⟩, hd3, k3, b, o2, o3, rfl⟩
      have hpl := Paired.length pl.it
      refine ⟨d, 4, rfl, hd3, by decide, fun g H4 g0 g1 hd4 k4 => ?_⟩
      obtain ⟨g, rfl⟩ : ∃ b : Nat, g = b := ⟨g.toNat, by omega⟩
      have pl4 := pl.kpd hd3 npd k4
      refine ⟨i_tyL pl4.at_, i_newT (by show 2 ≤ sizeLine; decide) fun p5 H5 hp5 s5 e5 => ?_⟩
      have e5' : H5 p5 = some (.tup [.int b, .int ((b + 2 + g : Nat) : Int)]) := by rw [e5]; congr 4
      refine i_app (s5 _ _ pl4.at_) (sz_lt (by rw [List.length_map]; omega)) fun H6 k6 e6 => ?_
      have pl6 := pl4.add s5 e5' k6 e6
      have hd6 := (hd4.same s5).kp k6 (by simp [npd.symm])
      have kk6 : Kp [d] H H6 := ((k3.trans k4).same s5).new k6 hp1
      refine ⟨d, 2, rfl, hd6, by decide, fun g' H7 g0' g1' hd7 k7 => ?_⟩
      obtain ⟨g', rfl⟩ : ∃ b : Nat, g' = b := ⟨g'.toNat, by omega⟩
      refine ⟨⟨_, _, pl6.kpd hd6 npd k7, by simp [hl]⟩, hd7, kk6.trans k7, b + 2 + g - 1 + g', some (.int (0 + (i : Int))), some (.int ((b : Int) + 2 + g)), ?_⟩
      rw [show ((b + 2 + g - 1 + g' : Nat) : Int) = (b : Int) + 2 + g - 1 + g' by omega]; rfl
    · rintro σ H' ⟨⟨ps, ss, h1, h2⟩, hd', k', b, o2, o3, rfl⟩
      exact ⟨⟨ps, ss, h1, by omega⟩, hd', k', _, _, _, rfl⟩
  · rintro σ H' ⟨⟨ps, ss, h1, h2⟩, hd', k', _, _, _, rfl⟩
    exact q p1 ps ss H' h1 h2 hd' k' npd
end
end K
set_option linter.all false
set_option Elab.async false
set_option maxRecDepth 100000
set_option maxHeartbeats 4000000
namespace K
open PySem L2
section
variable {C : Addr} {P : Program} {w : World} {K : PySem.W.Frag} {mg : Str → Option Value} {base : Heap} {f : Addr} {fd : FuncData}
abbrev zq0 : Stmt := top 36
theorem zqq : FnScope ["draws", "row", "many", "high", "cut", "low", "other", "some", "greatest", "places", "least", "k", "sums"] ["draws", "row", "many"] (defScope zq0) := ⟨rfl, rfl, rfl, by decide +kernel, rfl, by decide +kernel, by decide +kernel⟩
theorem zq7p : Loc (defScope zq0) "cut" := Or.inl (by kernel_rfl)
theorem zq5q : Loc (defScope zq0) "greatest" := Or.inl (by kernel_rfl)
theorem zq76 : Loc (defScope zq0) "high" := Or.inl (by kernel_rfl)
theorem zq8m : Loc (defScope zq0) "k" := Or.inl (by kernel_rfl)
theorem zq6w : Loc (defScope zq0) "least" := Or.inl (by kernel_rfl)
theorem zq7q : Loc (defScope zq0) "low" := Or.inl (by kernel_rfl)
theorem zq6x : Loc (defScope zq0) "other" := Or.inl (by kernel_rfl)
theorem zq6f : Loc (defScope zq0) "places" := Or.inl (by kernel_rfl)
theorem zq77 : Loc (defScope zq0) "some" := Or.inl (by kernel_rfl)
theorem zq78 : Loc (defScope zq0) "sums" := Or.inl (by kernel_rfl)
theorem zq44 : Vis (defScope zq0) "cut" := Or.inl (by kernel_rfl)
theorem zq3l : Vis (defScope zq0) "draws" := Or.inr (Or.inl (by kernel_rfl))
theorem zq14 : Vis (defScope zq0) "greatest" := Or.inl (by kernel_rfl)
theorem zq13 : Vis (defScope zq0) "high" := Or.inl (by kernel_rfl)
theorem zq28 : Vis (defScope zq0) "least" := Or.inl (by kernel_rfl)
theorem zq19 : Vis (defScope zq0) "low" := Or.inl (by kernel_rfl)
theorem zq5 : Vis (defScope zq0) "many" := Or.inl (by kernel_rfl)
theorem zq3m : Vis (defScope zq0) "other" := Or.inl (by kernel_rfl)
theorem zq6g : Vis (defScope zq0) "places" := Or.inl (by kernel_rfl)
theorem zq3 : Vis (defScope zq0) "row" := Or.inr (Or.inl (by kernel_rfl))
theorem zq3u : Vis (defScope zq0) "some" := Or.inl (by kernel_rfl)
theorem zq1k : Vis (defScope zq0) "sums" := Or.inl (by kernel_rfl)
theorem zq5r : (defScope zq0).names.lookup ("_law_cut" : Str) = some NameKind.globalImplicit := by kernel_rfl
theorem zq45 : (defScope zq0).names.lookup ("_law_stretches" : Str) = some NameKind.globalImplicit := by kernel_rfl
theorem zq22 : (defScope zq0).names.lookup ("greatest_least" : Str) = some NameKind.globalImplicit := by kernel_rfl
theorem zq6h : (defScope zq0).names.lookup ("is_cut" : Str) = some NameKind.globalImplicit := by kernel_rfl
theorem zq23 : (defScope zq0).names.lookup ("least_greatest" : Str) = some NameKind.globalImplicit := by kernel_rfl
theorem zq1p : (defScope zq0).names.lookup ("len" : Str) = some NameKind.globalImplicit := by kernel_rfl
theorem zq2n : (defScope zq0).names.lookup ("max" : Str) = some NameKind.globalImplicit := by kernel_rfl
theorem zq1q : (defScope zq0).names.lookup ("min" : Str) = some NameKind.globalImplicit := by kernel_rfl
theorem zq3n : (defScope zq0).names.lookup ("paper_of_greatest" : Str) = some NameKind.globalImplicit := by kernel_rfl
theorem zq46 : (defScope zq0).names.lookup ("paper_of_least" : Str) = some NameKind.globalImplicit := by kernel_rfl
theorem zq3o : (defScope zq0).names.lookup ("range" : Str) = some NameKind.globalImplicit := by kernel_rfl
theorem zq29 : (defScope zq0).names.lookup ("says_greatest" : Str) = some NameKind.globalImplicit := by kernel_rfl
theorem zq2o : (defScope zq0).names.lookup ("says_least" : Str) = some NameKind.globalImplicit := by kernel_rfl
theorem zq7r : (defScope zq0).names.lookup ("set" : Str) = some NameKind.globalImplicit := by kernel_rfl
theorem zq6i : (defScope zq0).names.lookup ("sorted" : Str) = some NameKind.globalImplicit := by kernel_rfl
theorem zq1w : (defScope zq0).names.lookup ("sums_of" : Str) = some NameKind.globalImplicit := by kernel_rfl
def zq9m {cdv : Value} {A : Around} {outer : List Env} {s : Shared} {H : Hp} {E : XK} (B : Bl mg) (zqx : Def P w K mg base 4 "least_greatest" ["row", "many"] zq1e) (zqw : Def P w K mg base 4 "greatest_least" ["row", "many"] zq1g) (zq6y : Def P w K mg base 4 "is_cut" ["row", "thing"] zq7b) (zq3p : Def P w K mg base 2 "sums_of" ["row", "cut"] zq6c) (zq1t : Def P w K mg base 5 "says_greatest" ["row", "many", "thing"] zq39) (zq1l : Def P w K mg base 5 "paper_of_greatest" ["row", "many"] zq20) (zq2z : Def P w K mg base 4 "says_least" ["row", "many", "thing"] zq4a) (zq2a : Def P w K mg base 5 "paper_of_least" ["row", "many"] zq2r) (zq2k : Def P w K mg base 2 "_law_stretches" ["draws", "size", "many"] zq3a) (zq1 : Def P w K mg base 1 "_law_take" ["draws", "many"] zqz) (zq5s : Def P w K mg base 2 "_law_cut" ["draws", "size", "many"] zq6e) (hr : Room 5 (A.deeper (PyProof.Rows.envOfC "_law_bounds_right" (defScope zq0) s.heap.objs.size f cdv))) :
    { t : TS // QB (cxOf CX0 P w K mg base ["draws", "row", "many", "high", "cut", "low", "other", "some", "greatest", "places", "least", "k", "sums"] "_law_bounds_right" (defScope zq0) f cdv A outer s H E).nox (defBody zq0) t } :=
  ⟨_, (qb_cons (qs_asg (qe_def zqx hr (by decide) zq23 (qa_cons (qv 1 rfl zq3) (qa_cons (qv 2 rfl zq5) qa_nil))) (kg_tup (K := K) rfl rfl (qgs_cons (qg_name (i := 3) zqq.nd rfl zq76 (.inl rfl)) (qgs_cons (qg_name (i := 4) zqq.nd rfl zq7p (.inl rfl)) qgs_nil))))
    (qb_cons (qs_asg (qe_def zqw hr (by decide) zq22 (qa_cons (qv 1 rfl zq3) (qa_cons (qv 2 rfl zq5) qa_nil))) (kg_tup (K := K) rfl rfl (qgs_cons (qg_name (i := 5) zqq.nd rfl zq7q (.inl rfl)) (qgs_cons (qg_name (i := 6) zqq.nd rfl zq6x (.inl rfl)) qgs_nil))))
    (qb_mid (qs_for PassesOwn.never rfl (ki_tup (K := K) rfl (qe_tup (qa_cons (qv 4 rfl zq44) (qa_cons (qv 6 rfl zq3m) qa_nil)))) (qg_name (i := 7) zqq.nd rfl zq77 (.inl rfl)) (qb_one (qs_if (QW.pt (qw_or (qt_not (kt_val (K := K) rfl (qe_def zq6y hr (by decide) zq6h (qa_cons (qv 1 rfl zq3) (qa_cons (qv 7 rfl zq3u) qa_nil))))) (qw_or1 (qt_cmp (kNeG (K := K) rfl hr) (qe_cB (kLen (K := K) rfl) zq1p B.len boot_len' (qa_cons (qv 7 rfl zq3u) qa_nil)) (qe_op opSub (qv 2 rfl zq5) qe_int))))) (qb_one (qs_ret qe_bl)) qb_nil)))
    (qb_cons (qs_if (QW.pt (qw_or (qt_cmp (kNeG (K := K) rfl hr) (qe_cB (kMax (K := K) rfl rfl) zq2n B.max boot_max' (qa_cons (qe_def zq3p hr (by decide) zq1w (qa_cons (qv 1 rfl zq3) (qa_cons (qv 4 rfl zq44) qa_nil))) qa_nil)) (qv 3 rfl zq13)) (qw_or1 (qt_cmp (kNeG (K := K) rfl hr) (qe_cB (kMin (K := K) rfl rfl) zq1q B.min boot_min' (qa_cons (qe_def zq3p hr (by decide) zq1w (qa_cons (qv 1 rfl zq3) (qa_cons (qv 6 rfl zq3m) qa_nil))) qa_nil)) (qv 5 rfl zq19))))) (qb_one (qs_ret qe_bl)) qb_nil)
    (qb_cons (qs_if (qt_cmp (kNeG (K := K) rfl hr) (qe_def zq1t hr (by decide) zq29 (qa_cons (qv 1 rfl zq3) (qa_cons (qv 2 rfl zq5) (qa_cons (qe_def zq1l hr (by decide) zq3n (qa_cons (qv 1 rfl zq3) (qa_cons (qv 2 rfl zq5) qa_nil))) qa_nil)))) (qv 3 rfl zq13)) (qb_one (qs_ret qe_bl)) qb_nil)
    (qb_cons (qs_if (qt_cmp (kNeG (K := K) rfl hr) (qe_def zq2z hr (by decide) zq2o (qa_cons (qv 1 rfl zq3) (qa_cons (qv 2 rfl zq5) (qa_cons (qe_def zq2a hr (by decide) zq46 (qa_cons (qv 1 rfl zq3) (qa_cons (qv 2 rfl zq5) qa_nil))) qa_nil)))) (qv 5 rfl zq19)) (qb_one (qs_ret qe_bl)) qb_nil)
    (qb_mid (qs_if (qt_cmp opLt (qv 2 rfl zq5) (qe_cB (kLen (K := K) rfl) zq1p B.len boot_len' (qa_cons (qv 1 rfl zq3) qa_nil))) (qb_one (qs_if (QW.pt (qw_or (qt_cmp opGt (ke_ix (K := K) rfl (qe_def zqx hr (by decide) zq23 (qa_cons (qv 1 rfl zq3) (qa_cons (qe_op opAdd (qv 2 rfl zq5) qe_int) qa_nil))) qe_int (fun _ _ => rfl)) (qv 3 rfl zq13)) (qw_or1 (qt_cmp opGt (ke_ix (K := K) rfl (qe_def zqw hr (by decide) zq22 (qa_cons (qv 1 rfl zq3) (qa_cons (qe_op opAdd (qv 2 rfl zq5) qe_int) qa_nil))) qe_int (fun _ _ => rfl)) (qv 5 rfl zq19))))) (qb_one (qs_ret qe_bl)) qb_nil)) qb_nil)
    (qb_cons (qs_set (i := 8) zqq.nd rfl zq5q (.inl rfl) (qe_def zq1t hr (by decide) zq29 (qa_cons (qv 1 rfl zq3) (qa_cons (qv 2 rfl zq5) (qa_cons (qe_tup (qa_cons qe_str (qa_cons (qe_def zq2k hr (by decide) zq45 (qa_cons (qv 0 rfl zq3l) (qa_cons (qe_cB (kLen (K := K) rfl) zq1p B.len boot_len' (qa_cons (qv 1 rfl zq3) qa_nil)) (qa_cons (qv 2 rfl zq5) qa_nil)))) qa_nil))) qa_nil)))))
    (qb_cons (qs_set (i := 9) zqq.nd rfl zq6f (.inl rfl) (ke_setS (K := K) rfl rfl zq6i B.sorted zq7r B.set (qa_cons (qe_cp ["k", "draws", "row"] [none, some 0, some 1] rfl (qi_r1 zq3o B.range (qa_cons (qe_cB (kMin (K := K) rfl rfl) zq1q B.min boot_min' (qa_cons qe_int (qa_cons (qe_op opSub (qv 2 rfl zq5) qe_int) qa_nil))) qa_nil)) (fun _ _ _ _ _ _ => (qg_name (i := 0) (show (["k", "draws", "row"] : List Str).Nodup by decide +kernel) rfl (by first | exact Or.inl rfl | exact Or.inr rfl) (by first | exact .inl rfl | exact .inr rfl))) (fun _ _ _ _ _ _ => qif_nil) (fun _ _ _ _ _ _ => (qe_op opMod (qe_def zq1 hr (by decide) rfl (qa_cons (qv 1 rfl (by first | exact Or.inl rfl | exact Or.inr (Or.inl rfl) | exact Or.inr (Or.inr rfl))) (qa_cons qe_int qa_nil))) (qe_cB (kLen (K := K) rfl) rfl B.len boot_len' (qa_cons (qv 2 rfl (by first | exact Or.inl rfl | exact Or.inr (Or.inl rfl) | exact Or.inr (Or.inr rfl))) qa_nil))))) qa_nil)))
    (qb_cons (qs_set (i := 10) zqq.nd rfl zq6w (.inl rfl) (qe_def zq2z hr (by decide) zq2o (qa_cons (qv 1 rfl zq3) (qa_cons (qv 2 rfl zq5) (qa_cons (qv 9 rfl zq6g) qa_nil)))))
    (qb_cons (qs_if (QW.pt (qw_or (qt_cmp opIs (qv 10 rfl zq28) qe_non) (qw_or (QW.pt (qw_and (qt_cmp opIsNot (qv 8 rfl zq14) qe_non) (qw_and1 (qt_cmp opGt (qv 8 rfl zq14) (qv 3 rfl zq13))))) (qw_or1 (qt_cmp opLt (qv 10 rfl zq28) (qv 5 rfl zq19)))))) (qb_one (qs_ret qe_bl)) qb_nil)
    (qb_mid (qs_for PassesOwn.never rfl (qi_r1 zq3o B.range (qa_cons qe_int qa_nil)) (qg_name (i := 11) zqq.nd rfl zq8m (.inl rfl)) (qb_cons (qs_set (i := 12) zqq.nd rfl zq78 (.inl rfl) (qe_def zq3p hr (by decide) zq1w (qa_cons (qv 1 rfl zq3) (qa_cons (qe_def zq5s hr (by decide) zq5r (qa_cons (qv 0 rfl zq3l) (qa_cons (qe_cB (kLen (K := K) rfl) zq1p B.len boot_len' (qa_cons (qv 1 rfl zq3) qa_nil)) (qa_cons (qv 2 rfl zq5) qa_nil)))) qa_nil))))
    (qb_one (qs_if (QW.pt (qw_or (qt_cmp opLt (qe_cB (kMax (K := K) rfl rfl) zq2n B.max boot_max' (qa_cons (qv 12 rfl zq1k) qa_nil)) (qv 3 rfl zq13)) (qw_or (qt_cmp opGt (qe_cB (kMin (K := K) rfl rfl) zq1q B.min boot_min' (qa_cons (qv 12 rfl zq1k) qa_nil)) (qv 5 rfl zq19)) (qw_or (QW.pt (qw_and (qt_cmp opIsNot (qv 8 rfl zq14) qe_non) (qw_and1 (qt_cmp opLt (qe_cB (kMax (K := K) rfl rfl) zq2n B.max boot_max' (qa_cons (qv 12 rfl zq1k) qa_nil)) (qv 8 rfl zq14))))) (qw_or1 (qt_cmp opGt (qe_cB (kMin (K := K) rfl rfl) zq1q B.min boot_min' (qa_cons (qv 12 rfl zq1k) qa_nil)) (qv 10 rfl zq28))))))) (qb_one (qs_ret qe_bl)) qb_nil))))
    (qb_one (qs_ret qe_bl))))))))))))))⟩
open M3 M5 M10 M11 M7 M34 M33 M9 M12 M40
def zq2c : Sp := fun vs H Q _ => ∃ (d r : Addr) (ns : List Int) (m : Nat), vs = [.ref d, .ref r, .int m] ∧ DrawsAt H d ∧ r ≠ d ∧ H r = some (.lst (ns.map V.int)) ∧ RowN ns ∧ 1 ≤ m ∧ m ≤ ns.length ∧
  ∀ (H' : Hp), DrawsAt H' d → Kp [d] H H' → Q (.bl true) H'
theorem sums_ne {ns : List Int} {cs : List Nat} : (pcs ns 0 cs).map List.sum ≠ [] := fun z => by have := congrArg List.length z; simp [pcs_len] at this
theorem zq97 (B : Bl mg) (zqx : Def P w K mg base 4 "least_greatest" ["row", "many"] zq1e) (zqw : Def P w K mg base 4 "greatest_least" ["row", "many"] zq1g) (zq6y : Def P w K mg base 4 "is_cut" ["row", "thing"] zq7b) (zq3p : Def P w K mg base 2 "sums_of" ["row", "cut"] zq6c) (zq1t : Def P w K mg base 5 "says_greatest" ["row", "many", "thing"] zq39) (zq1l : Def P w K mg base 5 "paper_of_greatest" ["row", "many"] zq20) (zq2z : Def P w K mg base 4 "says_least" ["row", "many", "thing"] zq4a) (zq2a : Def P w K mg base 5 "paper_of_least" ["row", "many"] zq2r) (zq2k : Def P w K mg base 2 "_law_stretches" ["draws", "size", "many"] zq3a) (zq1 : Def P w K mg base 1 "_law_take" ["draws", "many"] zqz) (zq5s : Def P w K mg base 2 "_law_cut" ["draws", "size", "many"] zq6e) (F : Fun K "_law_bounds_right" "_law_bounds_right" zq0 f fd) : FnOk P w K mg base CX0 6 f fd ["draws", "row", "many"] zq2c := by
  refine F.okq zqq (fun vs H Q E h => ?_) (fun cdv A outer s H vs Q E hr h => ?_)
  · obtain ⟨d, r, ns, m, rfl, _⟩ := h; rfl
  obtain ⟨d, r, ns, m, rfl, hd, nrd, hr0, rn, m1, mn, q⟩ := h
  refine ⟨zq9m B zqx zqw zq6y zq3p zq1t zq1l zq2z zq2a zq2k zq1 zq5s hr, ?_⟩
  have hle := rn.le
  have hle2 : ns.length ≤ 1000 := by omega
  obtain ⟨hi, hT0⟩ := T_some (w := 0) (ns := ns) (k := m - 1) (i := 0) (by omega)
  obtain ⟨lo, hT1⟩ := T_some (w := 1) (ns := ns) (k := m - 1) (i := 0) (by omega)
  refine ⟨r, m, ns, hi, rfl, hr0, rn, m1, mn, hT0, fun p pc c H1 t0 _ hF _ hp hpc s1 e1 ec1 => ?_⟩
  obtain ⟨cs, rfl, hcut, hcl, hk, hmin, _⟩ := lg_facts m1 mn hT0 hF
  refine i_unp e1 rfl ?_
  refine ⟨r, m, ns, lo, rfl, s1 _ _ hr0, rn, m1, mn, hT1, fun p2 pc2 H2 l0 _ hp2 hpc2 s2 e2 ec2 => ?_⟩
  obtain ⟨liff, _⟩ := least_iff rn m1 mn hT1
  obtain ⟨giff, _, _⟩ := great_iff rn m1 mn hT0
  obtain ⟨cs2, ecs2, hcut2, hcl2, hm2⟩ := told12 rn m1 mn liff
  rw [ecs2] at ec2
  refine i_unp e2 rfl ?_
  have hr2 := s2 _ _ (s1 _ _ hr0)
  have ec12 := s2 _ _ ec1
  refine ⟨fun σ H' => Same H2 H' ∧ ∃ o7, σ = [some (.ref d), some (.ref r), some (.int m), some (.int hi), some (.ref pc), some (.int lo), some (.ref pc2), o7, none, none, none, none, none], ?_, ?_⟩
  · refine i_newT (by show 2 ≤ sizeLine; decide) fun t H3 ht s3 e3 => ?_
    refine ⟨⟨_, SqT.of e3⟩, for_tup (xs := [.ref pc, .ref pc2]) (fun i σ H' => H' = H3 ∧ ∃ o7, σ = [some (.ref d), some (.ref r), some (.int m), some (.int hi), some (.ref pc), some (.int lo), some (.ref pc2), o7, none, none, none, none, none]) ?_ ?_ ?_ ?_⟩
    · exact ⟨rfl, _, rfl⟩
    · rintro i σ H' _ ⟨rfl, _⟩
      exact SqT.of e3
    · rintro i x σ H' hx ⟨rfl, o7, rfl⟩
      obtain ⟨a, ds, rfl, ea, hda, hdl⟩ : ∃ (a : Addr) (ds : List Nat), x = .ref a ∧ H' a = some (.lst ((zs ds).map V.int)) ∧ CutN ds ns.length ∧ ds.length + 1 = m := by
        have := List.mem_of_getElem? hx
        simp at this
        rcases this with rfl | rfl
        · exact ⟨pc, cs, rfl, s3 _ _ ec12, hcut, hcl⟩
        · exact ⟨pc2, cs2, rfl, s3 _ _ ec2, hcut2, hcl2⟩
      refine ⟨r, a, _, ds, rfl, s3 _ _ hr2, ea, by rw [List.length_map]; exact hda, bNo (by decide) ?_⟩
      refine i_lenI ea (bNo (by simp [zs]; omega) ?_)
      exact ⟨rfl, _, rfl⟩
    · rintro σ H' ⟨rfl, o7, rfl⟩
      exact ⟨s3, _, rfl⟩
  rintro σ H3 ⟨s3, o7, rfl⟩
  have hd3 := (hd.same s1).same (s2.trans s3)
  have s03 := s1.trans (s2.trans s3)
  have hr3 := s3 _ _ hr2
  refine ⟨r, pc, ns, cs, rfl, hr3, s3 _ _ ec12, hle2, hcut, fun p4 H4 hp4 s4 e4 => ?_⟩
  refine i_max (SqL.of e4) sums_ne fun M hM hmax => ?_
  have eM : M = hi := Int.le_antisymm (by obtain ⟨x, hx, rfl⟩ := List.mem_map.mp hM; exact hk x hx) (hmin cs M hcut hcl fun x hx => hmax _ (List.mem_map.mpr ⟨x, hx, rfl⟩))
  subst eM
  refine bNo (by simp) ?_
  have hr4 := s4 _ _ hr3
  refine ⟨r, pc2, ns, cs2, rfl, hr4, s4 _ _ (s3 _ _ ec2), hle2, hcut2, fun p5 H5 hp5 s5 e5 => ?_⟩
  refine i_min (SqL.of e5) sums_ne fun M2 hM2 hmin2 => ?_
  have eM2 := hm2 M2 hM2 hmin2
  subst eM2
  refine bNo (by simp) ?_
  have hr5 := s5 _ _ hr4
  refine ⟨r, m, ns, M, rfl, hr5, rn, m1, mn, hT0, fun p6 qs6 H6 hp6 hqs6 s6 pap => ?_⟩
  have hr6 := s6 _ _ hr5
  have hgi := (giff M).mp (Int.le_refl _)
  refine ⟨r, p6, m, ns, rfl, hr6, rn, m1, mn, .inr ⟨M, qs6, hgi.1, hgi.2, pap, fun H7 s7 => ?_⟩⟩
  refine bNo (by simp) ?_
  have hr7 := s7 _ _ hr6
  refine ⟨r, m, ns, M2, rfl, hr7, rn, m1, mn, hT1, fun p8 H8 _ _ hp8 s8 e8 => ?_⟩
  obtain ⟨qs8, eq8, pl8a, pl8b, pl8g⟩ := short_places (ns := ns) (b := M2 + 1) (by omega) ns.length 0 (by omega) (by omega)
  rw [List.drop_zero] at eq8
  rw [eq8] at e8
  have hpl8 : PlN qs8 ns.length := ⟨pl8a, fun q hq => (pl8b q hq).2⟩
  have hql8 : qs8.length < m := by
    have hlt : ¬ m ≤ G (M2 + 1) ns 0 := fun z => by have := (liff (M2 + 1)).mpr z; omega
    have := congrArg List.length eq8
    simp only [List.length_map] at this
    rw [G_len] at this
    omega
  have hr8 := s8 _ _ hr7
  refine ⟨r, p8, m, ns, qs8, rfl, hr8, e8, rn, m1, mn, hpl8, hql8, fun M9 H9 hM9 hmax9 s9 => ?_⟩
  have e9 : M9 = M2 := by
    have h1 := pl8g M9 hM9
    have h2 := paper_ge rn.nn hpl8 hmax9 ((liff M2).mp (Int.le_refl _)) hql8
    omega
  subst e9
  refine bNo (by simp) ?_
  have hr9 := s9 _ _ hr8
  have s39 := s4.trans (s5.trans (s6.trans (s7.trans (s8.trans s9))))
  refine ⟨fun σ H' => Same H9 H' ∧ σ = [some (.ref d), some (.ref r), some (.int m), some (.int M), some (.ref pc), some (.int M9), some (.ref pc2), o7, none, none, none, none, none], ?_, ?_⟩
  · refine i_lenI hr9 (dec2 (fun c => ?_) (fun c => ⟨Same.refl _, rfl⟩))
    have hmn : m < ns.length := by omega
    obtain ⟨hi', hT0'⟩ := T_some (w := 0) (ns := ns) (k := m + 1 - 1) (i := 0) (by omega)
    obtain ⟨lo', hT1'⟩ := T_some (w := 1) (ns := ns) (k := m + 1 - 1) (i := 0) (by omega)
    have h1 : hi' ≤ M := ((great_iff rn (m := m + 1) (by omega) (by omega) hT0').1 M).mpr ⟨hgi.1, by have := hgi.2; omega⟩
    have hl' := (least_iff rn (m := m + 1) (by omega) (by omega) hT1').1
    have h2 : lo' ≤ M9 := (liff lo').mpr (by have := (hl' lo').mp (Int.le_refl lo'); omega)
    refine ⟨r, m + 1, ns, hi', by rw [show ((m + 1 : Nat) : Int) = (m : Int) + 1 by omega]; rfl, hr9, rn, by omega, by omega, hT0', fun pa pca ca Ha _ _ _ _ hpa hpca sa ea eca => ?_⟩
    refine i_ixT 0 ea rfl rfl (dNo (by omega) ?_)
    refine ⟨r, m + 1, ns, lo', by rw [show ((m + 1 : Nat) : Int) = (m : Int) + 1 by omega]; rfl, sa _ _ hr9, rn, by omega, by omega, hT1', fun pb pcb Hb _ _ hpb hpcb sb eb ecb => ?_⟩
    refine i_ixT 0 eb rfl rfl (dNo (by omega) ?_)
    exact ⟨sa.trans sb, rfl⟩
  rintro σ H10 ⟨s10, rfl⟩
  have hr10 := s10 _ _ hr9
  have s010 := s03.trans (s39.trans s10)
  have hd10 := hd.same s010
  refine i_lenI hr10 ⟨d, ns.length, m, rfl, hd10, m1, by omega, fun pl ps ss H11 hpl hss hd11 k11 npl => ?_⟩
  refine i_newT (by show 2 ≤ sizeLine; decide) fun p12 H12 hp12 s12 e12 => ?_
  have hr11 := k11.one nrd hr10
  have hr12 := s12 _ _ hr11
  have hd12 := hd11.same s12
  have k012 : Kp [d] H H12 := (s010.kp.trans k11).same s12
  refine ⟨r, p12, m, ns, rfl, hr12, rn, m1, mn, .inl (.inr ⟨pl, ps, ss, e12, hpl.same s12, hss, fun v13 H13 hv13 s13 => ?_⟩)⟩
  have hv13 : v13 = .non ∨ ∃ M13, v13 = .int M13 ∧ M13 ≤ M := by
    rcases hv13 with ⟨z, _⟩ | ⟨M13, z, hst, _, hmin13⟩
    · exact .inl z
    · exact .inr ⟨M13, z, min_says rn hgi.1 hgi.2 hss hst hmin13⟩
  have hr13 := s13 _ _ hr12
  have hd13 := hd12.same s13
  have k013 := k012.same s13
  refine ⟨⟨by omega, by omega⟩, comp_rng (fun i D σ H' ys => ∃ gs : List Int, ys = gs.map V.int ∧ gs.length = i ∧ (∀ g ∈ gs, 0 ≤ g ∧ g < ns.length) ∧ DrawsAt H' d ∧ Kp [d] H13 H' ∧ ∃ o, σ = [o, some (.ref d), some (.ref r)]) ?_ ?_ ?_⟩
  · intro D H' hD s' e'
    exact ⟨[], rfl, rfl, by simp, hd13.same s', s'.kp, _, rfl⟩
  · rintro i D σ H' ys hi hD ⟨gs, rfl, hl, hz, hh', k', o, rfl⟩ e'
    have nD : D ≠ d := (hd13.ne hD).symm
    refine bT ⟨d, 1000, rfl, hh', by decide, fun g H7 g0 g1 hh7 k7 => ?_⟩
    have hr7' := k7.one nrd (k'.one nrd hr13)
    refine i_lenI hr7' ⟨by omega, ?_⟩
    refine ⟨k7.one nD e', sz_lt (by rw [List.length_map]; omega), fun H8 k8 e8 => ⟨gs ++ [g % (ns.length : Int)], map_snoc gs _, by simp [hl], ?_, hh7.kp k8 (by simp [Ne.symm nD]), (k'.trans k7).new k8 hD, _, rfl⟩⟩
    intro z hz'
    rcases List.mem_append.mp hz' with hz' | hz'
    · exact hz z hz'
    · have : z = g % (ns.length : Int) := by simpa using hz'
      subst this
      exact ⟨Int.emod_nonneg g (by omega), Int.emod_lt_of_pos g (by omega)⟩
  rintro p14 σ H14 ys hp14 ⟨gs, rfl, hgl, hgs, hd14, k14, _⟩ e14
  have hr14 := k14.one nrd hr13
  refine i_setS (SqL.of e14) (by omega) fun p15 H15 ms hnd hmem hsort hp15 s15 e15 => ?_
  obtain ⟨qs, rfl, hup⟩ := nat_sorted (fun z hz => (hgs z ((hmem z).mp hz)).1) hnd hsort
  have hplq : PlN qs ns.length := ⟨hup, fun x hx => by have := (hgs (x : Int) ((hmem _).mp (List.mem_map.mpr ⟨x, hx, rfl⟩))).2; omega⟩
  have hqlen : qs.length < m := by
    have := len_sub hnd fun j hj => (hmem j).mp hj
    simp only [zs, List.length_map] at this
    omega
  have hr15 := s15 _ _ hr14
  refine ⟨r, p15, m, ns, qs, rfl, hr15, e15, rn, m1, mn, hplq, hqlen, fun M16 H16 hM16 hmax16 s16 => ?_⟩
  have h16 := paper_ge rn.nn hplq hmax16 ((liff M9).mp (Int.le_refl _)) hqlen
  have hr16 := s16 _ _ hr15
  have hd16 := (hd14.same s15).same s16
  have k016 : Kp [d] H H16 := ((k013.trans k14).same s15).same s16
  rcases hv13 with rfl | ⟨M13, rfl, h13⟩
  all_goals
    refine bNo rfl ?_
    first
      | refine bF (bF ?_)
      | refine bT (dNo (by omega) ?_)
    refine dNo (by omega) ?_
    refine ⟨fun σ H' => DrawsAt H' d ∧ Kp [d] H H', ?_, fun σ H' z => q H' z.1 z.2⟩
    refine ⟨⟨by decide, by decide⟩, for_range (fun i σ H' => DrawsAt H' d ∧ Kp [d] H H' ∧ ∃ v8 o11 o12, (v8 = .non ∨ ∃ M13, v8 = .int M13 ∧ M13 ≤ M) ∧ σ = [some (.ref d), some (.ref r), some (.int m), some (.int M), some (.ref pc), some (.int M9), some (.ref pc2), o7, some v8, some (.ref p15), some (.int M16), o11, o12]) ?_ ?_ ?_⟩
    · first
        | exact ⟨hd16, k016, .non, _, _, .inl rfl, rfl⟩
        | exact ⟨hd16, k016, .int M13, _, _, .inr ⟨M13, rfl, h13⟩, rfl⟩
    · rintro i σ Ha hi ⟨hda, ka, v8, o11, o12, hv8, rfl⟩
      have hra := ka.one nrd hr0
      refine i_lenI hra ⟨d, ns.length, m, rfl, hda, m1, mn, hle, fun pb csb Hb hcutb hclb hdb kb eb => ?_⟩
      have hrb := kb.one nrd hra
      refine ⟨r, pb, ns, csb, rfl, hrb, eb, hle2, hcutb, fun pd Hc hpd sc ec => ?_⟩
      have fin : DrawsAt Hc d ∧ Kp [d] H Hc := ⟨hdb.same sc, (ka.trans kb).same sc⟩
      refine i_max (SqL.of ec) sums_ne fun Mx hMx hmx => ?_
      have h1 := hmin csb Mx hcutb hclb fun x hx => hmx _ (List.mem_map.mpr ⟨x, hx, rfl⟩)
      refine dNo (by omega) ?_
      refine i_min (SqL.of ec) sums_ne fun Mn hMn hmn => ?_
      have h2 := least_most rn liff hcutb hclb hmn
      refine dNo (by omega) ?_
      rcases hv8 with rfl | ⟨M8, rfl, h8⟩
      · refine bF (bF ?_)
        refine i_min (SqL.of ec) sums_ne fun Mn2 hMn2 hmn2 => ?_
        have h3 := least_most rn liff hcutb hclb hmn2
        refine dNo (by omega) ?_
        exact ⟨fin.1, fin.2, .non, _, _, .inl rfl, rfl⟩
      · refine bT (i_max (SqL.of ec) sums_ne fun Mx2 hMx2 hmx2 => ?_)
        have h4 := hmin csb Mx2 hcutb hclb fun x hx => hmx2 _ (List.mem_map.mpr ⟨x, hx, rfl⟩)
        refine dNo (by omega) ?_
        refine i_min (SqL.of ec) sums_ne fun Mn2 hMn2 hmn2 => ?_
        have h3 := least_most rn liff hcutb hclb hmn2
        refine dNo (by omega) ?_
        exact ⟨fin.1, fin.2, .int M8, _, _, .inr ⟨M8, rfl, h8⟩, rfl⟩
    · rintro σ H' ⟨h1, h2, _⟩
      exact ⟨h1, h2⟩
end
end K
set_option linter.all false
set_option Elab.async false
set_option maxRecDepth 100000
set_option maxHeartbeats 4000000
namespace K
open PySem L2
section
variable {C : Addr} {P : Program} {w : World} {K : PySem.W.Frag} {mg : Str → Option Value} {base : Heap} {f : Addr} {fd : FuncData}
abbrev zq1a : Stmt := top 37
theorem zq9n : FnScope ["script", "draws", "many", "row"] ["script"] (defScope zq1a) := ⟨rfl, rfl, rfl, by decide +kernel, rfl, by decide +kernel, by decide +kernel⟩
theorem zqd7 : Loc (defScope zq1a) "draws" := Or.inl (by kernel_rfl)
theorem zqbm : Loc (defScope zq1a) "many" := Or.inl (by kernel_rfl)
theorem zqdm : Loc (defScope zq1a) "row" := Or.inl (by kernel_rfl)
theorem zq3e : Vis (defScope zq1a) "draws" := Or.inl (by kernel_rfl)
theorem zq8n : Vis (defScope zq1a) "many" := Or.inl (by kernel_rfl)
theorem zq7e : Vis (defScope zq1a) "row" := Or.inl (by kernel_rfl)
theorem zqcw : Vis (defScope zq1a) "script" := Or.inl (by kernel_rfl)
theorem zq3v : (defScope zq1a).names.lookup ("_law_bounds_right" : Str) = some NameKind.globalImplicit := by kernel_rfl
theorem zqaw : (defScope zq1a).names.lookup ("_law_draws" : Str) = some NameKind.globalImplicit := by kernel_rfl
theorem zqa4 : (defScope zq1a).names.lookup ("_law_pieces" : Str) = some NameKind.globalImplicit := by kernel_rfl
theorem zqc1 : (defScope zq1a).names.lookup ("_law_row" : Str) = some NameKind.globalImplicit := by kernel_rfl
theorem zqbn : (defScope zq1a).names.lookup ("_law_take" : Str) = some NameKind.globalImplicit := by kernel_rfl
theorem zqdn : (defScope zq1a).names.lookup ("len" : Str) = some NameKind.globalImplicit := by kernel_rfl
def zqds {cdv : Value} {A : Around} {outer : List Env} {s : Shared} {H : Hp} {E : XK} (B : Bl mg) (zq47 : Def P w K mg base 1 "_law_draws" ["script"] (zq4t K)) (zq5t : Def P w K mg base 2 "_law_row" ["draws", "most"] zq68) (zq1c : Def P w K mg base 6 "_law_bounds_right" ["draws", "row", "many"] zq2c) (zq3q : Def P w K mg base 2 "_law_pieces" ["draws", "row"] zq48) (zq1 : Def P w K mg base 1 "_law_take" ["draws", "many"] zqz) (hr : Room 6 (A.deeper (PyProof.Rows.envOfC "law" (defScope zq1a) s.heap.objs.size f cdv))) :
    { t : TS // QB (cxOf CX0 P w K mg base ["script", "draws", "many", "row"] "law" (defScope zq1a) f cdv A outer s H E).nox (defBody zq1a) t } :=
  ⟨_, (qb_cons (qs_set (i := 1) zq9n.nd rfl zqd7 (.inl rfl) (qe_def zq47 hr (by decide) zqaw (qa_cons (qv 0 rfl zqcw) qa_nil)))
    (qb_cons (qs_set (i := 2) zq9n.nd rfl zqbm (.inl rfl) qe_int)
    (qb_mid (qs_while PassesOwn.never (QW.pt (qw_or (qt_cmp opLt (qv 2 rfl zq8n) qe_int) (qw_or1 (QW.pt (qw_and (qt_cmp (kNeG (K := K) rfl hr) (qv 1 rfl zq3e) (qe_lst qa_nil)) (qw_and1 (qt_cmp opLt (qv 2 rfl zq8n) qe_int))))))) (qb_cons (qs_set (i := 3) zq9n.nd rfl zqdm (.inl rfl) (qe_def zq5t hr (by decide) zqc1 (qa_cons (qv 1 rfl zq3e) (qa_cons qe_int qa_nil))))
    (qb_cons (qs_if (qt_not (kt_val (K := K) rfl (qe_def zq1c hr (by decide) zq3v (qa_cons (qv 1 rfl zq3e) (qa_cons (qv 3 rfl zq7e) (qa_cons (qe_def zq3q hr (by decide) zqa4 (qa_cons (qv 1 rfl zq3e) (qa_cons (qv 3 rfl zq7e) qa_nil))) qa_nil)))))) (qb_one (qs_ret qe_bl)) qb_nil)
    (qb_cons (qs_if (qt_not (kt_val (K := K) rfl (qe_def zq1c hr (by decide) zq3v (qa_cons (qv 1 rfl zq3e) (qa_cons (qv 3 rfl zq7e) (qa_cons (qe_op opAdd qe_int (qe_op opMod (qe_def zq1 hr (by decide) zqbn (qa_cons (qv 1 rfl zq3e) (qa_cons qe_int qa_nil))) (qe_cB (kLen (K := K) rfl) zqdn B.len boot_len' (qa_cons (qv 3 rfl zq7e) qa_nil)))) qa_nil)))))) (qb_one (qs_ret qe_bl)) qb_nil)
    (qb_one (qs_set (i := 2) zq9n.nd rfl zqbm (.inl rfl) (qe_op opAdd (qv 2 rfl zq8n) qe_int)))))))
    (qb_one (qs_ret qe_bl)))))⟩
open M3
def zqbo (K : PySem.W.Frag) : Sp := fun vs H Q _ => ∃ (a : Addr) (ns : List Int), vs = [.ref a] ∧ SqL K H a (ns.map V.int) ∧ ns.length ≤ 63 ∧ ∀ H', Q (.bl true) H'
theorem mOr_do {tA tB : TT} {σ : St} {H : Hp} {Q : Bool → Hp → Prop} (P : Hp → Prop) (hm : ∀ Q' : Bool → Hp → Prop, (∀ H3, P H3 → Q' true H3) → (∀ H3, Q' false H3) → mOr tA tB σ H Q') (ht : ∀ H3, P H3 → Q true H3) (hf : ∀ H3, Q false H3) : mOr tA tB σ H Q := hm Q ht hf
theorem zqdr (B : Bl mg) (zq47 : Def P w K mg base 1 "_law_draws" ["script"] (zq4t K)) (zq5t : Def P w K mg base 2 "_law_row" ["draws", "most"] zq68) (zq1c : Def P w K mg base 6 "_law_bounds_right" ["draws", "row", "many"] zq2c) (zq3q : Def P w K mg base 2 "_law_pieces" ["draws", "row"] zq48) (zq1 : Def P w K mg base 1 "_law_take" ["draws", "many"] zqz) (F : Fun K "law" "law" zq1a f fd) : FnOk P w K mg base CX0 7 f fd ["script"] (zqbo K) := by
  refine F.okq zq9n (fun vs H Q E h => ?_) (fun cdv A outer s H vs Q E hr h => ?_)
  · obtain ⟨a, ns, rfl, _⟩ := h; rfl
  obtain ⟨a, sc, rfl, hS, h63, q⟩ := h
  refine ⟨zqds B zq47 zq5t zq1c zq3q zq1 hr, ?_⟩
  refine ⟨a, sc, rfl, hS, h63, fun d H1 hd0 s1 hd1 => ?_⟩
  refine ⟨fun σ H' => True, ?_, fun σ H' _ => q H'⟩
  · refine while_m (fun mm σ H' => DrawsAt H' d ∧ ∃ (k : Nat) (o3 : Option V), k ≤ 3 ∧ mm = 3 - k ∧ σ = [some (.ref a), some (.ref d), some (.int k), o3]) 3 ⟨hd1, 0, _, by omega, rfl, rfl⟩ ?_
    rintro mm σ H2 ⟨hd2, k, o3, hk4, hmm, rfl⟩
    refine mOr_do (fun H3 => DrawsAt H3 d ∧ (k : Int) < 3) (fun Q' h1 h2 => dec2 (fun c => h1 H2 ⟨hd2, by have : (k : Int) < 1 := c; omega⟩) (fun c => ?_)) (fun H3 z => bT ?_) (fun H3 => bF trivial)
    · obtain ⟨ds, ed, hds, hdl⟩ := hd2
      refine i_newL (by show 0 ≤ sizeLine; decide) fun p3 H3 hp3 s3 e3 => ?_
      have hd3 : DrawsAt H3 d := ⟨ds, s3 _ _ ed, hds, hdl⟩
      refine i_eqI (ns := ds) (ms := []) (SqL.of (s3 _ _ ed)) (SqL.of e3) (ndec2 (fun c1 => ?_) (fun c1 => h2 H3))
      show Q' (decide ((k : Int) < 3)) H3
      by_cases c2 : (k : Int) < 3
      · rw [decide_eq_true c2]; exact h1 H3 ⟨hd3, c2⟩
      · rw [decide_eq_false c2]; exact h2 H3
    · obtain ⟨hd3, c2'⟩ := z
      refine ⟨d, 120, rfl, hd3, by decide, by decide, fun r ns H4 rn hm39 hd4 k3 e4 nr _ => ?_⟩
      have hle := rn.le
      have hge := rn.ne
      refine ⟨d, r, ns, rfl, hd4, e4, nr, by omega, by omega, fun m H5 m1 m2 hd5 k5 => ?_⟩
      have e5 := k5.one nr e4
      refine ⟨d, r, ns, m, rfl, hd5, nr, e5, rn, m1, m2, fun H6 hd6 k6 => bF ?_⟩
      have e6 := k6.one nr e5
      refine ⟨d, 1000, rfl, hd6, by decide, fun g H7 g0 g1 hd7 k7 => ?_⟩
      have e7 := k7.one nr e6
      refine i_lenI e7 ⟨by omega, ?_⟩
      obtain ⟨m', hm', m1', m2'⟩ : ∃ m' : Nat, 1 + g % (ns.length : Int) = (m' : Int) ∧ 1 ≤ m' ∧ m' ≤ ns.length := by
        have b0 := Int.emod_nonneg g (show (ns.length : Int) ≠ 0 by omega)
        have b1 := Int.emod_lt_of_pos g (show (0 : Int) < (ns.length : Int) by omega)
        exact ⟨(1 + g % (ns.length : Int)).toNat, by omega, by omega, by omega⟩
      refine ⟨d, r, ns, m', by rw [← hm']; rfl, hd7, nr, e7, rn, m1', m2', fun H8 hd8 k8 => bF ?_⟩
      exact ⟨3 - (k + 1), by omega, hd8, k + 1, _, by omega, rfl, rfl⟩
end
end K
set_option linter.all false
set_option Elab.async false
set_option maxRecDepth 100000
set_option maxHeartbeats 4000000
namespace K
open PySem PySem.Spec PyProof.Rows L2
theorem all_mk {l : PySem.W.OpenLaw} {w : World} {K : PySem.W.Frag} {h : Heap} {mg : Str → Option Value} {fa f0 f1 f2 f3 f4 f5 f6 f7 f8 f9 f10 f11 f12 f13 f14 f15 f16 f17 f18 f19 f20 f21 f22 f23 f24 f25 f26 f27 f28 f29 : Addr} (X : K.In h) (G : h.Ns mainGlobals mg) (hfa : mg "law" = some (.ref fa))
    {od0 an0 od1 an1 od2 an2 od3 an3 od4 an4 od5 an5 od6 an6 od7 an7 od8 an8 od9 an9 od10 an10 od11 an11 od12 an12 od13 an13 od14 an14 od15 an15 od16 an16 od17 an17 od18 an18 od19 an19 od20 an20 od21 an21 od22 an22 od23 an23 od24 an24 od25 an25 od26 an26 od27 an27 od28 an28 od29 an29 : Option Addr} {sl0 sl1 sl2 sl3 sl4 sl5 sl6 sl7 sl8 sl9 sl10 sl11 sl12 sl13 sl14 sl15 sl16 sl17 sl18 sl19 sl20 sl21 sl22 sl23 sl24 sl25 sl26 sl27 sl28 sl29 : Array (Option Value)} {oc0 kV0 dc0 pm0 cd0 ct0 oc1 kV1 dc1 pm1 cd1 ct1 oc2 kV2 dc2 pm2 cd2 ct2 oc3 kV3 dc3 pm3 cd3 ct3 oc4 kV4 dc4 pm4 cd4 ct4 oc5 kV5 dc5 pm5 cd5 ct5 oc6 kV6 dc6 pm6 cd6 ct6 oc7 kV7 dc7 pm7 cd7 ct7 oc8 kV8 dc8 pm8 cd8 ct8 oc9 kV9 dc9 pm9 cd9 ct9 oc10 kV10 dc10 pm10 cd10 ct10 oc11 kV11 dc11 pm11 cd11 ct11 oc12 kV12 dc12 pm12 cd12 ct12 oc13 kV13 dc13 pm13 cd13 ct13 oc14 kV14 dc14 pm14 cd14 ct14 oc15 kV15 dc15 pm15 cd15 ct15 oc16 kV16 dc16 pm16 cd16 ct16 oc17 kV17 dc17 pm17 cd17 ct17 oc18 kV18 dc18 pm18 cd18 ct18 oc19 kV19 dc19 pm19 cd19 ct19 oc20 kV20 dc20 pm20 cd20 ct20 oc21 kV21 dc21 pm21 cd21 ct21 oc22 kV22 dc22 pm22 cd22 ct22 oc23 kV23 dc23 pm23 cd23 ct23 oc24 kV24 dc24 pm24 cd24 ct24 oc25 kV25 dc25 pm25 cd25 ct25 oc26 kV26 dc26 pm26 cd26 ct26 oc27 kV27 dc27 pm27 cd27 ct27 oc28 kV28 dc28 pm28 cd28 ct28 oc29 kV29 dc29 pm29 cd29 ct29 : Value}
    (a0 : PySem.W.nsIn K mainGlobals "_law_draws" = some (some (.ref f0))) (l0 : K.lookup f0 = some ⟨oc0, od0, .func (PySem.W.fnOf "_law_draws" "_law_draws" (defArgs zqd) (defBody zqd) (defScope zqd) .none kV0 dc0 pm0 an0 cd0 ct0), sl0⟩) (c0 : PySem.W.codeIn K cd0 "_law_draws" = true) (k0 : PySem.W.keepIn K (.ref f0) = true)
    (a1 : PySem.W.nsIn K mainGlobals "_law_take" = some (some (.ref f1))) (l1 : K.lookup f1 = some ⟨oc1, od1, .func (PySem.W.fnOf "_law_take" "_law_take" (defArgs zq1d) (defBody zq1d) (defScope zq1d) .none kV1 dc1 pm1 an1 cd1 ct1), sl1⟩) (c1 : PySem.W.codeIn K cd1 "_law_take" = true) (k1 : PySem.W.keepIn K (.ref f1) = true)
    (a2 : PySem.W.nsIn K mainGlobals "_law_row" = some (some (.ref f2))) (l2 : K.lookup f2 = some ⟨oc2, od2, .func (PySem.W.fnOf "_law_row" "_law_row" (defArgs zq2) (defBody zq2) (defScope zq2) .none kV2 dc2 pm2 an2 cd2 ct2), sl2⟩) (c2 : PySem.W.codeIn K cd2 "_law_row" = true) (k2 : PySem.W.keepIn K (.ref f2) = true)
    (a3 : PySem.W.nsIn K mainGlobals "is_whole" = some (some (.ref f3))) (l3 : K.lookup f3 = some ⟨oc3, od3, .func (PySem.W.fnOf "is_whole" "is_whole" (defArgs zq12) (defBody zq12) (defScope zq12) .none kV3 dc3 pm3 an3 cd3 ct3), sl3⟩) (c3 : PySem.W.codeIn K cd3 "is_whole" = true) (k3 : PySem.W.keepIn K (.ref f3) = true)
    (a4 : PySem.W.nsIn K mainGlobals "is_within" = some (some (.ref f4))) (l4 : K.lookup f4 = some ⟨oc4, od4, .func (PySem.W.fnOf "is_within" "is_within" (defArgs zq10) (defBody zq10) (defScope zq10) .none kV4 dc4 pm4 an4 cd4 ct4), sl4⟩) (c4 : PySem.W.codeIn K cd4 "is_within" = true) (k4 : PySem.W.keepIn K (.ref f4) = true)
    (a5 : PySem.W.nsIn K mainGlobals "check_many" = some (some (.ref f5))) (l5 : K.lookup f5 = some ⟨oc5, od5, .func (PySem.W.fnOf "check_many" "check_many" (defArgs zqy) (defBody zqy) (defScope zqy) .none kV5 dc5 pm5 an5 cd5 ct5), sl5⟩) (c5 : PySem.W.codeIn K cd5 "check_many" = true) (k5 : PySem.W.keepIn K (.ref f5) = true)
    (a6 : PySem.W.nsIn K mainGlobals "long_cut" = some (some (.ref f6))) (l6 : K.lookup f6 = some ⟨oc6, od6, .func (PySem.W.fnOf "long_cut" "long_cut" (defArgs zqr) (defBody zqr) (defScope zqr) .none kV6 dc6 pm6 an6 cd6 ct6), sl6⟩) (c6 : PySem.W.codeIn K cd6 "long_cut" = true) (k6 : PySem.W.keepIn K (.ref f6) = true)
    (a7 : PySem.W.nsIn K mainGlobals "fewest_pieces" = some (some (.ref f7))) (l7 : K.lookup f7 = some ⟨oc7, od7, .func (PySem.W.fnOf "fewest_pieces" "fewest_pieces" (defArgs zqo) (defBody zqo) (defScope zqo) .none kV7 dc7 pm7 an7 cd7 ct7), sl7⟩) (c7 : PySem.W.codeIn K cd7 "fewest_pieces" = true) (k7 : PySem.W.keepIn K (.ref f7) = true)
    (a8 : PySem.W.nsIn K mainGlobals "least_bound" = some (some (.ref f8))) (l8 : K.lookup f8 = some ⟨oc8, od8, .func (PySem.W.fnOf "least_bound" "least_bound" (defArgs zqe) (defBody zqe) (defScope zqe) .none kV8 dc8 pm8 an8 cd8 ct8), sl8⟩) (c8 : PySem.W.codeIn K cd8 "least_bound" = true) (k8 : PySem.W.keepIn K (.ref f8) = true)
    (a9 : PySem.W.nsIn K mainGlobals "earliest_begin" = some (some (.ref f9))) (l9 : K.lookup f9 = some ⟨oc9, od9, .func (PySem.W.fnOf "earliest_begin" "earliest_begin" (defArgs zqb) (defBody zqb) (defScope zqb) .none kV9 dc9 pm9 an9 cd9 ct9), sl9⟩) (c9 : PySem.W.codeIn K cd9 "earliest_begin" = true) (k9 : PySem.W.keepIn K (.ref f9) = true)
    (a10 : PySem.W.nsIn K mainGlobals "earliest_cut" = some (some (.ref f10))) (l10 : K.lookup f10 = some ⟨oc10, od10, .func (PySem.W.fnOf "earliest_cut" "earliest_cut" (defArgs zqa) (defBody zqa) (defScope zqa) .none kV10 dc10 pm10 an10 cd10 ct10), sl10⟩) (c10 : PySem.W.codeIn K cd10 "earliest_cut" = true) (k10 : PySem.W.keepIn K (.ref f10) = true)
    (a11 : PySem.W.nsIn K mainGlobals "least_greatest" = some (some (.ref f11))) (l11 : K.lookup f11 = some ⟨oc11, od11, .func (PySem.W.fnOf "least_greatest" "least_greatest" (defArgs zqf) (defBody zqf) (defScope zqf) .none kV11 dc11 pm11 an11 cd11 ct11), sl11⟩) (c11 : PySem.W.codeIn K cd11 "least_greatest" = true) (k11 : PySem.W.keepIn K (.ref f11) = true)
    (a12 : PySem.W.nsIn K mainGlobals "short_ends" = some (some (.ref f12))) (l12 : K.lookup f12 = some ⟨oc12, od12, .func (PySem.W.fnOf "short_ends" "short_ends" (defArgs zqk) (defBody zqk) (defScope zqk) .none kV12 dc12 pm12 an12 cd12 ct12), sl12⟩) (c12 : PySem.W.codeIn K cd12 "short_ends" = true) (k12 : PySem.W.keepIn K (.ref f12) = true)
    (a13 : PySem.W.nsIn K mainGlobals "greatest_bound" = some (some (.ref f13))) (l13 : K.lookup f13 = some ⟨oc13, od13, .func (PySem.W.fnOf "greatest_bound" "greatest_bound" (defArgs zq7) (defBody zq7) (defScope zq7) .none kV13 dc13 pm13 an13 cd13 ct13), sl13⟩) (c13 : PySem.W.codeIn K cd13 "greatest_bound" = true) (k13 : PySem.W.keepIn K (.ref f13) = true)
    (a14 : PySem.W.nsIn K mainGlobals "greatest_least" = some (some (.ref f14))) (l14 : K.lookup f14 = some ⟨oc14, od14, .func (PySem.W.fnOf "greatest_least" "greatest_least" (defArgs zqg) (defBody zqg) (defScope zqg) .none kV14 dc14 pm14 an14 cd14 ct14), sl14⟩) (c14 : PySem.W.codeIn K cd14 "greatest_least" = true) (k14 : PySem.W.keepIn K (.ref f14) = true)
    (a15 : PySem.W.nsIn K mainGlobals "are_places" = some (some (.ref f15))) (l15 : K.lookup f15 = some ⟨oc15, od15, .func (PySem.W.fnOf "are_places" "are_places" (defArgs zqi) (defBody zqi) (defScope zqi) .none kV15 dc15 pm15 an15 cd15 ct15), sl15⟩) (c15 : PySem.W.codeIn K cd15 "are_places" = true) (k15 : PySem.W.keepIn K (.ref f15) = true)
    (a16 : PySem.W.nsIn K mainGlobals "is_cut" = some (some (.ref f16))) (l16 : K.lookup f16 = some ⟨oc16, od16, .func (PySem.W.fnOf "is_cut" "is_cut" (defArgs zq1v) (defBody zq1v) (defScope zq1v) .none kV16 dc16 pm16 an16 cd16 ct16), sl16⟩) (c16 : PySem.W.codeIn K cd16 "is_cut" = true) (k16 : PySem.W.keepIn K (.ref f16) = true)
    (a17 : PySem.W.nsIn K mainGlobals "pieces" = some (some (.ref f17))) (l17 : K.lookup f17 = some ⟨oc17, od17, .func (PySem.W.fnOf "pieces" "pieces" (defArgs zq1m) (defBody zq1m) (defScope zq1m) .none kV17 dc17 pm17 an17 cd17 ct17), sl17⟩) (c17 : PySem.W.codeIn K cd17 "pieces" = true) (k17 : PySem.W.keepIn K (.ref f17) = true)
    (a18 : PySem.W.nsIn K mainGlobals "sums_of" = some (some (.ref f18))) (l18 : K.lookup f18 = some ⟨oc18, od18, .func (PySem.W.fnOf "sums_of" "sums_of" (defArgs zq1i) (defBody zq1i) (defScope zq1i) .none kV18 dc18 pm18 an18 cd18 ct18), sl18⟩) (c18 : PySem.W.codeIn K cd18 "sums_of" = true) (k18 : PySem.W.keepIn K (.ref f18) = true)
    (a19 : PySem.W.nsIn K mainGlobals "is_stretch" = some (some (.ref f19))) (l19 : K.lookup f19 = some ⟨oc19, od19, .func (PySem.W.fnOf "is_stretch" "is_stretch" (defArgs zql) (defBody zql) (defScope zql) .none kV19 dc19 pm19 an19 cd19 ct19), sl19⟩) (c19 : PySem.W.codeIn K cd19 "is_stretch" = true) (k19 : PySem.W.keepIn K (.ref f19) = true)
    (a20 : PySem.W.nsIn K mainGlobals "are_stretches" = some (some (.ref f20))) (l20 : K.lookup f20 = some ⟨oc20, od20, .func (PySem.W.fnOf "are_stretches" "are_stretches" (defArgs zq8) (defBody zq8) (defScope zq8) .none kV20 dc20 pm20 an20 cd20 ct20), sl20⟩) (c20 : PySem.W.codeIn K cd20 "are_stretches" = true) (k20 : PySem.W.keepIn K (.ref f20) = true)
    (a21 : PySem.W.nsIn K mainGlobals "says_greatest" = some (some (.ref f21))) (l21 : K.lookup f21 = some ⟨oc21, od21, .func (PySem.W.fnOf "says_greatest" "says_greatest" (defArgs zq4) (defBody zq4) (defScope zq4) .none kV21 dc21 pm21 an21 cd21 ct21), sl21⟩) (c21 : PySem.W.codeIn K cd21 "says_greatest" = true) (k21 : PySem.W.keepIn K (.ref f21) = true)
    (a22 : PySem.W.nsIn K mainGlobals "paper_of_greatest" = some (some (.ref f22))) (l22 : K.lookup f22 = some ⟨oc22, od22, .func (PySem.W.fnOf "paper_of_greatest" "paper_of_greatest" (defArgs zq6) (defBody zq6) (defScope zq6) .none kV22 dc22 pm22 an22 cd22 ct22), sl22⟩) (c22 : PySem.W.codeIn K cd22 "paper_of_greatest" = true) (k22 : PySem.W.keepIn K (.ref f22) = true)
    (a23 : PySem.W.nsIn K mainGlobals "says_least" = some (some (.ref f23))) (l23 : K.lookup f23 = some ⟨oc23, od23, .func (PySem.W.fnOf "says_least" "says_least" (defArgs zqp) (defBody zqp) (defScope zqp) .none kV23 dc23 pm23 an23 cd23 ct23), sl23⟩) (c23 : PySem.W.codeIn K cd23 "says_least" = true) (k23 : PySem.W.keepIn K (.ref f23) = true)
    (a24 : PySem.W.nsIn K mainGlobals "paper_of_least" = some (some (.ref f24))) (l24 : K.lookup f24 = some ⟨oc24, od24, .func (PySem.W.fnOf "paper_of_least" "paper_of_least" (defArgs zqh) (defBody zqh) (defScope zqh) .none kV24 dc24 pm24 an24 cd24 ct24), sl24⟩) (c24 : PySem.W.codeIn K cd24 "paper_of_least" = true) (k24 : PySem.W.keepIn K (.ref f24) = true)
    (a25 : PySem.W.nsIn K mainGlobals "_law_stretches" = some (some (.ref f25))) (l25 : K.lookup f25 = some ⟨oc25, od25, .func (PySem.W.fnOf "_law_stretches" "_law_stretches" (defArgs zq9) (defBody zq9) (defScope zq9) .none kV25 dc25 pm25 an25 cd25 ct25), sl25⟩) (c25 : PySem.W.codeIn K cd25 "_law_stretches" = true) (k25 : PySem.W.keepIn K (.ref f25) = true)
    (a26 : PySem.W.nsIn K mainGlobals "_law_cut" = some (some (.ref f26))) (l26 : K.lookup f26 = some ⟨oc26, od26, .func (PySem.W.fnOf "_law_cut" "_law_cut" (defArgs zqs) (defBody zqs) (defScope zqs) .none kV26 dc26 pm26 an26 cd26 ct26), sl26⟩) (c26 : PySem.W.codeIn K cd26 "_law_cut" = true) (k26 : PySem.W.keepIn K (.ref f26) = true)
    (a27 : PySem.W.nsIn K mainGlobals "_law_bounds_right" = some (some (.ref f27))) (l27 : K.lookup f27 = some ⟨oc27, od27, .func (PySem.W.fnOf "_law_bounds_right" "_law_bounds_right" (defArgs zq0) (defBody zq0) (defScope zq0) .none kV27 dc27 pm27 an27 cd27 ct27), sl27⟩) (c27 : PySem.W.codeIn K cd27 "_law_bounds_right" = true) (k27 : PySem.W.keepIn K (.ref f27) = true)
    (a28 : PySem.W.nsIn K mainGlobals "_law_pieces" = some (some (.ref f28))) (l28 : K.lookup f28 = some ⟨oc28, od28, .func (PySem.W.fnOf "_law_pieces" "_law_pieces" (defArgs zqt) (defBody zqt) (defScope zqt) .none kV28 dc28 pm28 an28 cd28 ct28), sl28⟩) (c28 : PySem.W.codeIn K cd28 "_law_pieces" = true) (k28 : PySem.W.keepIn K (.ref f28) = true)
    (a29 : PySem.W.nsIn K mainGlobals "law" = some (some (.ref f29))) (l29 : K.lookup f29 = some ⟨oc29, od29, .func (PySem.W.fnOf "law" "law" (defArgs zq1a) (defBody zq1a) (defScope zq1a) .none kV29 dc29 pm29 an29 cd29 ct29), sl29⟩) (c29 : PySem.W.codeIn K cd29 "law" = true) (k29 : PySem.W.keepIn K (.ref f29) = true)
    (z0 : PySem.W.nsIn K mainGlobals "list" = some none) (z1 : PySem.W.nsIn K mainGlobals "enumerate" = some none) (z2 : PySem.W.nsIn K mainGlobals "int" = some none) (z3 : PySem.W.nsIn K mainGlobals "sum" = some none) (z4 : PySem.W.nsIn K mainGlobals "range" = some none) (z5 : PySem.W.nsIn K mainGlobals "sorted" = some none) (z6 : PySem.W.nsIn K mainGlobals "max" = some none) (z7 : PySem.W.nsIn K mainGlobals "min" = some none) (z8 : PySem.W.nsIn K mainGlobals "len" = some none) (z9 : PySem.W.nsIn K mainGlobals "repr" = some none) (z10 : PySem.W.nsIn K mainGlobals "isinstance" = some none) (z11 : PySem.W.nsIn K mainGlobals "zip" = some none) (z12 : PySem.W.nsIn K mainGlobals "bool" = some none) (z13 : PySem.W.nsIn K mainGlobals "tuple" = some none) (z14 : PySem.W.nsIn K mainGlobals "str" = some none) (z15 : PySem.W.nsIn K mainGlobals "dict" = some none) (z16 : PySem.W.nsIn K mainGlobals "abs" = some none) (z17 : PySem.W.nsIn K mainGlobals "set" = some none) :
    ∃ fd : FuncData, (∀ (s : Shared) (v : Value), BindsTo s fd ⟨[v], []⟩ [("script", v)]) ∧ ∀ base : Heap, K.In base → base.Ns mainGlobals mg → FnOk l.prog w K mg base CX0 7 fa fd ["script"] (zqbo K) := by
  have e := hfa.symm.trans (PySem.W.mg_of X G a29)
  cases e
  have F0 := fun_mk (st := zqd) l0 c0 k0
  have b0 := F0.binds (ps := ["script"]) fun _ _ _ _ _ _ us hl => match us, hl with | [_], _ => rfl
  have F1 := fun_mk (st := zq1d) l1 c1 k1
  have b1 := F1.binds (ps := ["draws", "many"]) fun _ _ _ _ _ _ us hl => match us, hl with | [_, _], _ => rfl
  have F2 := fun_mk (st := zq2) l2 c2 k2
  have b2 := F2.binds (ps := ["draws", "most"]) fun _ _ _ _ _ _ us hl => match us, hl with | [_, _], _ => rfl
  have F3 := fun_mk (st := zq12) l3 c3 k3
  have b3 := F3.binds (ps := ["thing"]) fun _ _ _ _ _ _ us hl => match us, hl with | [_], _ => rfl
  have F4 := fun_mk (st := zq10) l4 c4 k4
  have b4 := F4.binds (ps := ["thing", "low", "high"]) fun _ _ _ _ _ _ us hl => match us, hl with | [_, _, _], _ => rfl
  have F5 := fun_mk (st := zqy) l5 c5 k5
  have b5 := F5.binds (ps := ["row", "many"]) fun _ _ _ _ _ _ us hl => match us, hl with | [_, _], _ => rfl
  have F6 := fun_mk (st := zqr) l6 c6 k6
  have b6 := F6.binds (ps := ["row", "bound"]) fun _ _ _ _ _ _ us hl => match us, hl with | [_, _], _ => rfl
  have F7 := fun_mk (st := zqo) l7 c7 k7
  have b7 := F7.binds (ps := ["row", "bound"]) fun _ _ _ _ _ _ us hl => match us, hl with | [_, _], _ => rfl
  have F8 := fun_mk (st := zqe) l8 c8 k8
  have b8 := F8.binds (ps := ["row", "many"]) fun _ _ _ _ _ _ us hl => match us, hl with | [_, _], _ => rfl
  have F9 := fun_mk (st := zqb) l9 c9 k9
  have b9 := F9.binds (ps := ["row", "ahead", "end", "bound"]) fun _ _ _ _ _ _ us hl => match us, hl with | [_, _, _, _], _ => rfl
  have F10 := fun_mk (st := zqa) l10 c10 k10
  have b10 := F10.binds (ps := ["row", "many", "bound"]) fun _ _ _ _ _ _ us hl => match us, hl with | [_, _, _], _ => rfl
  have F11 := fun_mk (st := zqf) l11 c11 k11
  have b11 := F11.binds (ps := ["row", "many"]) fun _ _ _ _ _ _ us hl => match us, hl with | [_, _], _ => rfl
  have F12 := fun_mk (st := zqk) l12 c12 k12
  have b12 := F12.binds (ps := ["row", "bound"]) fun _ _ _ _ _ _ us hl => match us, hl with | [_, _], _ => rfl
  have F13 := fun_mk (st := zq7) l13 c13 k13
  have b13 := F13.binds (ps := ["row", "many"]) fun _ _ _ _ _ _ us hl => match us, hl with | [_, _], _ => rfl
  have F14 := fun_mk (st := zqg) l14 c14 k14
  have b14 := F14.binds (ps := ["row", "many"]) fun _ _ _ _ _ _ us hl => match us, hl with | [_, _], _ => rfl
  have F15 := fun_mk (st := zqi) l15 c15 k15
  have b15 := F15.binds (ps := ["row", "thing", "first"]) fun _ _ _ _ _ _ us hl => match us, hl with | [_, _, _], _ => rfl
  have F16 := fun_mk (st := zq1v) l16 c16 k16
  have b16 := F16.binds (ps := ["row", "thing"]) fun _ _ _ _ _ _ us hl => match us, hl with | [_, _], _ => rfl
  have F17 := fun_mk (st := zq1m) l17 c17 k17
  have b17 := F17.binds (ps := ["row", "cut"]) fun _ _ _ _ _ _ us hl => match us, hl with | [_, _], _ => rfl
  have F18 := fun_mk (st := zq1i) l18 c18 k18
  have b18 := F18.binds (ps := ["row", "cut"]) fun _ _ _ _ _ _ us hl => match us, hl with | [_, _], _ => rfl
  have F19 := fun_mk (st := zql) l19 c19 k19
  have b19 := F19.binds (ps := ["row", "thing", "least"]) fun _ _ _ _ _ _ us hl => match us, hl with | [_, _, _], _ => rfl
  have F20 := fun_mk (st := zq8) l20 c20 k20
  have b20 := F20.binds (ps := ["row", "many", "thing"]) fun _ _ _ _ _ _ us hl => match us, hl with | [_, _, _], _ => rfl
  have F21 := fun_mk (st := zq4) l21 c21 k21
  have b21 := F21.binds (ps := ["row", "many", "thing"]) fun _ _ _ _ _ _ us hl => match us, hl with | [_, _, _], _ => rfl
  have F22 := fun_mk (st := zq6) l22 c22 k22
  have b22 := F22.binds (ps := ["row", "many"]) fun _ _ _ _ _ _ us hl => match us, hl with | [_, _], _ => rfl
  have F23 := fun_mk (st := zqp) l23 c23 k23
  have b23 := F23.binds (ps := ["row", "many", "thing"]) fun _ _ _ _ _ _ us hl => match us, hl with | [_, _, _], _ => rfl
  have F24 := fun_mk (st := zqh) l24 c24 k24
  have b24 := F24.binds (ps := ["row", "many"]) fun _ _ _ _ _ _ us hl => match us, hl with | [_, _], _ => rfl
  have F25 := fun_mk (st := zq9) l25 c25 k25
  have b25 := F25.binds (ps := ["draws", "size", "many"]) fun _ _ _ _ _ _ us hl => match us, hl with | [_, _, _], _ => rfl
  have F26 := fun_mk (st := zqs) l26 c26 k26
  have b26 := F26.binds (ps := ["draws", "size", "many"]) fun _ _ _ _ _ _ us hl => match us, hl with | [_, _, _], _ => rfl
  have F27 := fun_mk (st := zq0) l27 c27 k27
  have b27 := F27.binds (ps := ["draws", "row", "many"]) fun _ _ _ _ _ _ us hl => match us, hl with | [_, _, _], _ => rfl
  have F28 := fun_mk (st := zqt) l28 c28 k28
  have b28 := F28.binds (ps := ["draws", "row"]) fun _ _ _ _ _ _ us hl => match us, hl with | [_, _], _ => rfl
  have F29 := fun_mk (st := zq1a) l29 c29 k29
  have b29 := F29.binds (ps := ["script"]) fun _ _ _ _ _ _ us hl => match us, hl with | [_], _ => rfl
  have B : Bl mg := ⟨PySem.W.mg_none_of X G z0, PySem.W.mg_none_of X G z1, PySem.W.mg_none_of X G z2, PySem.W.mg_none_of X G z3, PySem.W.mg_none_of X G z4, PySem.W.mg_none_of X G z5, PySem.W.mg_none_of X G z6, PySem.W.mg_none_of X G z7, PySem.W.mg_none_of X G z8, PySem.W.mg_none_of X G z9, PySem.W.mg_none_of X G z10, PySem.W.mg_none_of X G z11, PySem.W.mg_none_of X G z12, PySem.W.mg_none_of X G z13, PySem.W.mg_none_of X G z14, PySem.W.mg_none_of X G z15, PySem.W.mg_none_of X G z16, PySem.W.mg_none_of X G z17⟩
  refine ⟨PySem.W.fnOf "law" "law" (defArgs zq1a) (defBody zq1a) (defScope zq1a) .none kV29 dc29 pm29 an29 cd29 ct29, fun s v => .of_eq rfl, fun base _ _ => ?_⟩
  have zq47 : Def l.prog w K mg base 1 "_law_draws" ["script"] (zq4t K) := ⟨f0, _, zqci (P := l.prog) (w := w) (base := base) B  F0, b0, k0, PySem.W.mg_of X G a0⟩
  have zq1 : Def l.prog w K mg base 1 "_law_take" ["draws", "many"] zqz := ⟨f1, _, zqcz (P := l.prog) (w := w) (base := base) B  F1, b1, k1, PySem.W.mg_of X G a1⟩
  have zq5t : Def l.prog w K mg base 2 "_law_row" ["draws", "most"] zq68 := ⟨f2, _, zqd9 (P := l.prog) (w := w) (base := base) B zq1 F2, b2, k2, PySem.W.mg_of X G a2⟩
  have zq4v : Def l.prog w K mg base 1 "is_whole" ["thing"] zq5a := ⟨f3, _, zqd3 (P := l.prog) (w := w) (base := base) B  F3, b3, k3, PySem.W.mg_of X G a3⟩
  have zqm : Def l.prog w K mg base 2 "is_within" ["thing", "low", "high"] zq16 := ⟨f4, _, zqcm (P := l.prog) (w := w) (base := base) B zq4v F4, b4, k4, PySem.W.mg_of X G a4⟩
  have zqj : Def l.prog w K mg base 3 "check_many" ["row", "many"] zq11 := ⟨f5, _, zqca (P := l.prog) (w := w) (base := base) B zqm F5, b5, k5, PySem.W.mg_of X G a5⟩
  have zq1o : Def l.prog w K mg base 1 "long_cut" ["row", "bound"] zq3d := ⟨f6, _, zqd5 (P := l.prog) (w := w) (base := base) B  F6, b6, k6, PySem.W.mg_of X G a6⟩
  have zq2g : Def l.prog w K mg base 2 "fewest_pieces" ["row", "bound"] zq30 := ⟨f7, _, zqag (P := l.prog) (w := w) (base := base) B zq1o F7, b7, k7, PySem.W.mg_of X G a7⟩
  have zq3b : Def l.prog w K mg base 3 "least_bound" ["row", "many"] zq3s := ⟨f8, _, zqbu (P := l.prog) (w := w) (base := base) B zq2g F8, b8, k8, PySem.W.mg_of X G a8⟩
  have zq26 : Def l.prog w K mg base 1 "earliest_begin" ["row", "ahead", "end", "bound"] zq2p := ⟨f9, _, zq9x (P := l.prog) (w := w) (base := base) B  F9, b9, k9, PySem.W.mg_of X G a9⟩
  have zq2v : Def l.prog w K mg base 2 "earliest_cut" ["row", "many", "bound"] zq3f := ⟨f10, _, zqbg (P := l.prog) (w := w) (base := base) B zq26 F10, b10, k10, PySem.W.mg_of X G a10⟩
  have zqx : Def l.prog w K mg base 4 "least_greatest" ["row", "many"] zq1e := ⟨f11, _, zq9y (P := l.prog) (w := w) (base := base) B zqj zq3b zq2v F11, b11, k11, PySem.W.mg_of X G a11⟩
  have zqv : Def l.prog w K mg base 1 "short_ends" ["row", "bound"] zq1h := ⟨f12, _, zqcc (P := l.prog) (w := w) (base := base) B  F12, b12, k12, PySem.W.mg_of X G a12⟩
  have zq27 : Def l.prog w K mg base 2 "greatest_bound" ["row", "many"] zq2q := ⟨f13, _, zqa0 (P := l.prog) (w := w) (base := base) B zqv F13, b13, k13, PySem.W.mg_of X G a13⟩
  have zqw : Def l.prog w K mg base 4 "greatest_least" ["row", "many"] zq1g := ⟨f14, _, zqa1 (P := l.prog) (w := w) (base := base) B zqj zq27 zqv F14, b14, k14, PySem.W.mg_of X G a14⟩
  have zq18 : Def l.prog w K mg base 3 "are_places" ["row", "thing", "first"] zq2e := ⟨f15, _, zqc8 (P := l.prog) (w := w) (base := base) B zqm F15, b15, k15, PySem.W.mg_of X G a15⟩
  have zq6y : Def l.prog w K mg base 4 "is_cut" ["row", "thing"] zq7b := ⟨f16, _, zqdk (P := l.prog) (w := w) (base := base) B zq18 F16, b16, k16, PySem.W.mg_of X G a16⟩
  have zq6v : Def l.prog w K mg base 1 "pieces" ["row", "cut"] zq7a := ⟨f17, _, zqdh (P := l.prog) (w := w) (base := base) B  F17, b17, k17, PySem.W.mg_of X G a17⟩
  have zq3p : Def l.prog w K mg base 2 "sums_of" ["row", "cut"] zq6c := ⟨f18, _, zqdd (P := l.prog) (w := w) (base := base) B zq6v F18, b18, k18, PySem.W.mg_of X G a18⟩
  have zq3k : Def l.prog w K mg base 3 "is_stretch" ["row", "thing", "least"] zq4b := ⟨f19, _, zqce (P := l.prog) (w := w) (base := base) B zqm F19, b19, k19, PySem.W.mg_of X G a19⟩
  have zq2j : Def l.prog w K mg base 4 "are_stretches" ["row", "many", "thing"] zq38 := ⟨f20, _, zqar (P := l.prog) (w := w) (base := base) B zq3k F20, b20, k20, PySem.W.mg_of X G a20⟩
  have zq1t : Def l.prog w K mg base 5 "says_greatest" ["row", "many", "thing"] zq39 := ⟨f21, _, zqas (P := l.prog) (w := w) (base := base) B zqj zqm zq2j F21, b21, k21, PySem.W.mg_of X G a21⟩
  have zq1l : Def l.prog w K mg base 5 "paper_of_greatest" ["row", "many"] zq20 := ⟨f22, _, zq8h (P := l.prog) (w := w) (base := base) B zqx zq1o F22, b22, k22, PySem.W.mg_of X G a22⟩
  have zq2z : Def l.prog w K mg base 4 "says_least" ["row", "many", "thing"] zq4a := ⟨f23, _, zqcd (P := l.prog) (w := w) (base := base) B zqj zq18 F23, b23, k23, PySem.W.mg_of X G a23⟩
  have zq2a : Def l.prog w K mg base 5 "paper_of_least" ["row", "many"] zq2r := ⟨f24, _, zqa2 (P := l.prog) (w := w) (base := base) B zqw zqv F24, b24, k24, PySem.W.mg_of X G a24⟩
  have zq2k : Def l.prog w K mg base 2 "_law_stretches" ["draws", "size", "many"] zq3a := ⟨f25, _, zqav (P := l.prog) (w := w) (base := base) B zq1 F25, b25, k25, PySem.W.mg_of X G a25⟩
  have zq5s : Def l.prog w K mg base 2 "_law_cut" ["draws", "size", "many"] zq6e := ⟨f26, _, zqde (P := l.prog) (w := w) (base := base) B zq1 F26, b26, k26, PySem.W.mg_of X G a26⟩
  have zq1c : Def l.prog w K mg base 6 "_law_bounds_right" ["draws", "row", "many"] zq2c := ⟨f27, _, zq97 (P := l.prog) (w := w) (base := base) B zqx zqw zq6y zq3p zq1t zq1l zq2z zq2a zq2k zq1 zq5s F27, b27, k27, PySem.W.mg_of X G a27⟩
  have zq3q : Def l.prog w K mg base 2 "_law_pieces" ["draws", "row"] zq48 := ⟨f28, _, zqc7 (P := l.prog) (w := w) (base := base) B zq1 F28, b28, k28, PySem.W.mg_of X G a28⟩
  exact zqdr (P := l.prog) (w := w) (base := base) B zq47 zq5t zq1c zq3q zq1 F29
theorem walk {l : PySem.W.OpenLaw} {q : Program} {loose : List Str} {XP : (Str → Option Value) → Heap → Prop} {YP : World → Heap → Prop} {d : DefRec} {K : Params → PySem.W.Frag} (hn : l.most = some 63) (hdf : d.params.defaults = [])
    (hY : ∀ (w : World) (h : Heap), YP w h → (K w.params).In h)
    (F : ∀ (w : World) (mg : Str → Option Value) (fa : Addr) (h : Heap), (K w.params).In h → h.Ns mainGlobals mg → mg d.name = some (.ref fa) →
      ∃ fd : FuncData, (∀ (s : Shared) (u : Value), BindsTo s fd ⟨[u], []⟩ [("script", u)]) ∧ ∀ base : Heap, (K w.params).In base → base.Ns mainGlobals mg → FnOk l.prog w (K w.params) mg base CX0 7 fa fd ["script"] (zqbo (K w.params))) :
    PySem.W.WalkO q loose XP YP l.row.toRowW d [] (fun f vs => PySem.call f vs) :=
  L2.walk_of (n := 63) (k := 7) (x := "script") (CX := fun _ => CX0) (sp := fun w => zqbo (K w.params)) hn (by decide) hdf ⟨rfl, by decide, by decide, rfl⟩ hY F (fun _ _ a ns hl _ hS => ⟨a, ns, rfl, hS, hl, fun _ => rfl⟩) fun _ _ _ _ _ z => z
end K
namespace PySem.W.Fast
theorem tw10136836497934897557 : True := ⟨⟩
theorem tw10238248975181011510 : True := ⟨⟩
theorem tw10286979943244401890 : True := ⟨⟩
theorem tw10504190360969048697 : True := ⟨⟩
theorem tw10556126966388694312 : True := ⟨⟩
theorem tw10614423287790023047 : True := ⟨⟩
theorem tw1066836625963344291 : True := ⟨⟩
theorem tw10750822536376844472 : True := ⟨⟩
theorem tw10758843339504399213 : True := ⟨⟩
theorem tw10794545023206407210 : True := ⟨⟩
theorem tw1083065331855189900 : True := ⟨⟩
theorem tw10939589851208906298 : True := ⟨⟩
theorem tw11086192567422192650 : True := ⟨⟩
theorem tw11133060425174153997 : True := ⟨⟩
theorem tw1131275992965200701 : True := ⟨⟩
theorem tw11368778298252516020 : True := ⟨⟩
theorem tw11468231240107295220 : True := ⟨⟩
theorem tw11607386569124923821 : True := ⟨⟩
theorem tw11649851217477572472 : True := ⟨⟩
theorem tw11669602174477579752 : True := ⟨⟩
theorem tw11775717207207475573 : True := ⟨⟩
theorem tw11856075248889879071 : True := ⟨⟩
theorem tw11882096322493516996 : True := ⟨⟩
theorem tw11954648636951045115 : True := ⟨⟩
theorem tw12061150519997087769 : True := ⟨⟩
theorem tw12229401050893147756 : True := ⟨⟩
theorem tw12263956722644915786 : True := ⟨⟩
theorem tw12278613136847275719 : True := ⟨⟩
theorem tw12293912409432280957 : True := ⟨⟩
theorem tw12343926615873837245 : True := ⟨⟩
theorem tw12452624382446838296 : True := ⟨⟩
theorem tw12514652599559903343 : True := ⟨⟩
theorem tw12515507567140058391 : True := ⟨⟩
theorem tw12543457904975513673 : True := ⟨⟩
theorem tw12599068354676857528 : True := ⟨⟩
theorem tw12680614274762951602 : True := ⟨⟩
theorem tw12800059029496534657 : True := ⟨⟩
theorem tw12890511717648641150 : True := ⟨⟩
theorem tw12900256465023455722 : True := ⟨⟩
theorem tw1298350628121308826 : True := ⟨⟩
theorem tw13053732395843053446 : True := ⟨⟩
theorem tw13237137240133525898 : True := ⟨⟩
theorem tw13313912390225434303 : True := ⟨⟩
theorem tw13360181913937075794 : True := ⟨⟩
theorem tw13498548875976723076 : True := ⟨⟩
theorem tw13529715425367718823 : True := ⟨⟩
theorem tw13578705231310859510 : True := ⟨⟩
theorem tw13607666281360213483 : True := ⟨⟩
theorem tw13835625648577253520 : True := ⟨⟩
theorem tw13870087073669280115 : True := ⟨⟩
theorem tw13920214339295449033 : True := ⟨⟩
theorem tw14284911005677864835 : True := ⟨⟩
theorem tw1431544128217330075 : True := ⟨⟩
theorem tw14387029314710113275 : True := ⟨⟩
theorem tw14403811294646479168 : True := ⟨⟩
theorem tw14420484997167697611 : True := ⟨⟩
theorem tw14475012250895155655 : True := ⟨⟩
theorem tw14695910663024313240 : True := ⟨⟩
theorem tw14737036061049203710 : True := ⟨⟩
theorem tw14799605056834094393 : True := ⟨⟩
theorem tw14930315018512286821 : True := ⟨⟩
theorem tw15032717751170220828 : True := ⟨⟩
theorem tw15033280665605692438 : True := ⟨⟩
theorem tw15263534212388540850 : True := ⟨⟩
theorem tw15323132919202367231 : True := ⟨⟩
theorem tw15337291702078706542 : True := ⟨⟩
theorem tw15505973913749408270 : True := ⟨⟩
theorem tw15597049046478179229 : True := ⟨⟩
theorem tw15610952421696991499 : True := ⟨⟩
theorem tw15655581385191463491 : True := ⟨⟩
theorem tw15900741064037840635 : True := ⟨⟩
theorem tw15903689187427187828 : True := ⟨⟩
theorem tw15932464862763977233 : True := ⟨⟩
theorem tw15957411576959604424 : True := ⟨⟩
theorem tw16019258935513114392 : True := ⟨⟩
theorem tw16045020310703052858 : True := ⟨⟩
theorem tw16061557994962963383 : True := ⟨⟩
theorem tw16162535972255288812 : True := ⟨⟩
theorem tw16171341821769472796 : True := ⟨⟩
theorem tw16340137552736374712 : True := ⟨⟩
theorem tw16417344148854285413 : True := ⟨⟩
theorem tw16427921264376627819 : True := ⟨⟩
theorem tw16445747929215883468 : True := ⟨⟩
theorem tw16601441026738551314 : True := ⟨⟩
theorem tw16835229873518585626 : True := ⟨⟩
theorem tw16854942331051480677 : True := ⟨⟩
theorem tw1691740898546810606 : True := ⟨⟩
theorem tw16943540763689818284 : True := ⟨⟩
theorem tw16964280153203462672 : True := ⟨⟩
theorem tw17035755338148980409 : True := ⟨⟩
theorem tw17154831394335850368 : True := ⟨⟩
theorem tw17229205908158838648 : True := ⟨⟩
theorem tw17334307338542104725 : True := ⟨⟩
theorem tw17339870811304306691 : True := ⟨⟩
theorem tw17426103260471328560 : True := ⟨⟩
theorem tw17431674294930470432 : True := ⟨⟩
theorem tw17513179513242710242 : True := ⟨⟩
theorem tw17568417239958194825 : True := ⟨⟩
theorem tw17739338960931164202 : True := ⟨⟩
theorem tw17740730862970998830 : True := ⟨⟩
theorem tw17758688273997553285 : True := ⟨⟩
theorem tw17774120069666374911 : True := ⟨⟩
theorem tw17849085229812477635 : True := ⟨⟩
theorem tw1802788075778051998 : True := ⟨⟩
theorem tw18271360303430669930 : True := ⟨⟩
theorem tw18425377666961149331 : True := ⟨⟩
theorem tw1916067105340171563 : True := ⟨⟩
theorem tw1969089983644714798 : True := ⟨⟩
theorem tw2247504678787791209 : True := ⟨⟩
theorem tw2323347174722290383 : True := ⟨⟩
theorem tw2394745226072507031 : True := ⟨⟩
theorem tw2450320913210639467 : True := ⟨⟩
theorem tw2559222741024118736 : True := ⟨⟩
theorem tw259154222189648504 : True := ⟨⟩
theorem tw2606373900281154336 : True := ⟨⟩
theorem tw2617205134394668166 : True := ⟨⟩
theorem tw2748666140212590312 : True := ⟨⟩
theorem tw2776797226051802337 : True := ⟨⟩
theorem tw2791427132836242103 : True := ⟨⟩
theorem tw2798617881301383743 : True := ⟨⟩
theorem tw2864368839845284843 : True := ⟨⟩
theorem tw2906576877953711504 : True := ⟨⟩
theorem tw2918636596340197623 : True := ⟨⟩
theorem tw2957288758099461099 : True := ⟨⟩
theorem tw3147113597329671401 : True := ⟨⟩
theorem tw3171330020876533677 : True := ⟨⟩
theorem tw3176764408889633313 : True := ⟨⟩
theorem tw322883971625487845 : True := ⟨⟩
theorem tw3235307344577240990 : True := ⟨⟩
theorem tw354030367334417398 : True := ⟨⟩
theorem tw3795270589362193658 : True := ⟨⟩
theorem tw381291773756530666 : True := ⟨⟩
theorem tw3945656992033484294 : True := ⟨⟩
theorem tw4013457359097064161 : True := ⟨⟩
theorem tw4099058406288177379 : True := ⟨⟩
theorem tw4101473885173463392 : True := ⟨⟩
theorem tw4121768620598095723 : True := ⟨⟩
theorem tw4143708607074930480 : True := ⟨⟩
theorem tw4294922180150080793 : True := ⟨⟩
theorem tw4388836728185278063 : True := ⟨⟩
theorem tw4399943851667446577 : True := ⟨⟩
theorem tw4528560534715778793 : True := ⟨⟩
theorem tw4672129079234979385 : True := ⟨⟩
theorem tw4739079293300203910 : True := ⟨⟩
theorem tw4838830433084056015 : True := ⟨⟩
theorem tw4886437278724506630 : True := ⟨⟩
theorem tw4950120516462516678 : True := ⟨⟩
theorem tw4976465792347169543 : True := ⟨⟩
theorem tw4996622737789950257 : True := ⟨⟩
theorem tw5009730967093359000 : True := ⟨⟩
theorem tw5072973164071896604 : True := ⟨⟩
theorem tw5230149922798008082 : True := ⟨⟩
theorem tw5289486467428512545 : True := ⟨⟩
theorem tw5297765323548589670 : True := ⟨⟩
theorem tw5304697549564680543 : True := ⟨⟩
theorem tw5453267574925309245 : True := ⟨⟩
theorem tw5637796808888341560 : True := ⟨⟩
theorem tw5730638977498163061 : True := ⟨⟩
theorem tw5760479379719289668 : True := ⟨⟩
theorem tw5877365883333717311 : True := ⟨⟩
theorem tw5907263426594918565 : True := ⟨⟩
theorem tw5922418315282708185 : True := ⟨⟩
theorem tw5934962592058580278 : True := ⟨⟩
theorem tw5948217806428426310 : True := ⟨⟩
theorem tw6053505193039536524 : True := ⟨⟩
theorem tw6140506081840625965 : True := ⟨⟩
theorem tw6188234444515125206 : True := ⟨⟩
theorem tw6323653010532854360 : True := ⟨⟩
theorem tw632474777904788003 : True := ⟨⟩
theorem tw6358569506932005160 : True := ⟨⟩
theorem tw6421526900211217766 : True := ⟨⟩
theorem tw6884151948944638671 : True := ⟨⟩
theorem tw6908772696619449568 : True := ⟨⟩
theorem tw6936077334948807693 : True := ⟨⟩
theorem tw7104435522542778486 : True := ⟨⟩
theorem tw7137952695407012160 : True := ⟨⟩
theorem tw7364005579101385819 : True := ⟨⟩
theorem tw737772444342754040 : True := ⟨⟩
theorem tw740350909416283544 : True := ⟨⟩
theorem tw7404379492361269642 : True := ⟨⟩
theorem tw7553455924098570956 : True := ⟨⟩
theorem tw7683997776497728584 : True := ⟨⟩
theorem tw7765211410783493484 : True := ⟨⟩
theorem tw7797684375935389632 : True := ⟨⟩
theorem tw8024396058941634365 : True := ⟨⟩
theorem tw8131644799238742209 : True := ⟨⟩
theorem tw8135248423198115526 : True := ⟨⟩
theorem tw816715043765125323 : True := ⟨⟩
theorem tw8199580537027694082 : True := ⟨⟩
theorem tw8294020162456869130 : True := ⟨⟩
theorem tw8354848443381050925 : True := ⟨⟩
theorem tw8365947390998824157 : True := ⟨⟩
theorem tw8390031905699504203 : True := ⟨⟩
theorem tw8390566151888690933 : True := ⟨⟩
theorem tw8435993880458716989 : True := ⟨⟩
theorem tw8497763353623555421 : True := ⟨⟩
theorem tw8534875420574198855 : True := ⟨⟩
theorem tw8584011637926704302 : True := ⟨⟩
theorem tw8612853360672550302 : True := ⟨⟩
theorem tw8675908026113198313 : True := ⟨⟩
theorem tw8681040751490589857 : True := ⟨⟩
theorem tw869555880294452155 : True := ⟨⟩
theorem tw8698253508072041859 : True := ⟨⟩
theorem tw8737775172854790155 : True := ⟨⟩
theorem tw8966578547965497861 : True := ⟨⟩
theorem tw9218263225711065878 : True := ⟨⟩
theorem tw9272092854400353208 : True := ⟨⟩
theorem tw9291892181017828257 : True := ⟨⟩
theorem tw9316633201524325061 : True := ⟨⟩
theorem tw9471088127497514119 : True := ⟨⟩
theorem tw9535612353186019047 : True := ⟨⟩
theorem tw9662125343532385789 : True := ⟨⟩
theorem tw9711271769299083475 : True := ⟨⟩
theorem tw995436350962187450 : True := ⟨⟩
end PySem.W.Fast
open PySem PySem.W PyProof.Rows
set_option maxRecDepth 100000 in
set_option maxHeartbeats 0 in
theorem PySem.Challenge.cw_piecebounds_k38_whole_papers_and_cuts_holds : PySem.Challenge.rw_piecebounds_k38_whole_papers_and_cuts.Holds := by
  w_on; o_law; k_head; (case hw => w_witness2)
  k_fill
  refine K.walk (l := PySem.Challenge.rw_piecebounds_k38_whole_papers_and_cuts) rfl rfl (fun w h Y => PySem.W.kIn_of Y) ?F
  case F =>
    intro w mg fa h KX G hmg
    refine' K.all_mk KX G hmg ?a0 ?l0 ?c0 ?k0 ?a1 ?l1 ?c1 ?k1 ?a2 ?l2 ?c2 ?k2 ?a3 ?l3 ?c3 ?k3 ?a4 ?l4 ?c4 ?k4 ?a5 ?l5 ?c5 ?k5 ?a6 ?l6 ?c6 ?k6 ?a7 ?l7 ?c7 ?k7 ?a8 ?l8 ?c8 ?k8 ?a9 ?l9 ?c9 ?k9 ?a10 ?l10 ?c10 ?k10 ?a11 ?l11 ?c11 ?k11 ?a12 ?l12 ?c12 ?k12 ?a13 ?l13 ?c13 ?k13 ?a14 ?l14 ?c14 ?k14 ?a15 ?l15 ?c15 ?k15 ?a16 ?l16 ?c16 ?k16 ?a17 ?l17 ?c17 ?k17 ?a18 ?l18 ?c18 ?k18 ?a19 ?l19 ?c19 ?k19 ?a20 ?l20 ?c20 ?k20 ?a21 ?l21 ?c21 ?k21 ?a22 ?l22 ?c22 ?k22 ?a23 ?l23 ?c23 ?k23 ?a24 ?l24 ?c24 ?k24 ?a25 ?l25 ?c25 ?k25 ?a26 ?l26 ?c26 ?k26 ?a27 ?l27 ?c27 ?k27 ?a28 ?l28 ?c28 ?k28 ?a29 ?l29 ?c29 ?k29 ?z0 ?z1 ?z2 ?z3 ?z4 ?z5 ?z6 ?z7 ?z8 ?z9 ?z10 ?z11 ?z12 ?z13 ?z14 ?z15 ?z16 ?z17
    (case a0 => k_is); (case l0 => k_is); (case c0 => k_is); (case k0 => k_is); (case a1 => k_is); (case l1 => k_is); (case c1 => k_is); (case k1 => k_is); (case a2 => k_is); (case l2 => k_is); (case c2 => k_is); (case k2 => k_is); (case a3 => k_is); (case l3 => k_is); (case c3 => k_is); (case k3 => k_is); (case a4 => k_is); (case l4 => k_is); (case c4 => k_is); (case k4 => k_is); (case a5 => k_is); (case l5 => k_is); (case c5 => k_is); (case k5 => k_is); (case a6 => k_is); (case l6 => k_is); (case c6 => k_is); (case k6 => k_is); (case a7 => k_is); (case l7 => k_is); (case c7 => k_is); (case k7 => k_is); (case a8 => k_is); (case l8 => k_is); (case c8 => k_is); (case k8 => k_is); (case a9 => k_is); (case l9 => k_is); (case c9 => k_is); (case k9 => k_is); (case a10 => k_is); (case l10 => k_is); (case c10 => k_is); (case k10 => k_is); (case a11 => k_is); (case l11 => k_is); (case c11 => k_is); (case k11 => k_is); (case a12 => k_is); (case l12 => k_is); (case c12 => k_is); (case k12 => k_is); (case a13 => k_is); (case l13 => k_is); (case c13 => k_is); (case k13 => k_is); (case a14 => k_is); (case l14 => k_is); (case c14 => k_is); (case k14 => k_is); (case a15 => k_is); (case l15 => k_is); (case c15 => k_is); (case k15 => k_is); (case a16 => k_is); (case l16 => k_is); (case c16 => k_is); (case k16 => k_is); (case a17 => k_is); (case l17 => k_is); (case c17 => k_is); (case k17 => k_is); (case a18 => k_is); (case l18 => k_is); (case c18 => k_is); (case k18 => k_is); (case a19 => k_is); (case l19 => k_is); (case c19 => k_is); (case k19 => k_is); (case a20 => k_is); (case l20 => k_is); (case c20 => k_is); (case k20 => k_is); (case a21 => k_is); (case l21 => k_is); (case c21 => k_is); (case k21 => k_is); (case a22 => k_is); (case l22 => k_is); (case c22 => k_is); (case k22 => k_is); (case a23 => k_is); (case l23 => k_is); (case c23 => k_is); (case k23 => k_is); (case a24 => k_is); (case l24 => k_is); (case c24 => k_is); (case k24 => k_is); (case a25 => k_is); (case l25 => k_is); (case c25 => k_is); (case k25 => k_is); (case a26 => k_is); (case l26 => k_is); (case c26 => k_is); (case k26 => k_is); (case a27 => k_is); (case l27 => k_is); (case c27 => k_is); (case k27 => k_is); (case a28 => k_is); (case l28 => k_is); (case c28 => k_is); (case k28 => k_is); (case a29 => k_is); (case l29 => k_is); (case c29 => k_is); (case k29 => k_is); (case z0 => k_is); (case z1 => k_is); (case z2 => k_is); (case z3 => k_is); (case z4 => k_is); (case z5 => k_is); (case z6 => k_is); (case z7 => k_is); (case z8 => k_is); (case z9 => k_is); (case z10 => k_is); (case z11 => k_is); (case z12 => k_is); (case z13 => k_is); (case z14 => k_is); (case z15 => k_is); (case z16 => k_is); (case z17 => k_is)
