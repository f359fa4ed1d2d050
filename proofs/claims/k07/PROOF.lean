import PyProof.Rows.All
import Wide.All
import OpenK.AllK
import Wide.FinOn
import Lean
import PyProof.EqAt
import PyProof.EqKinds
import PyProof.TupleCall
import KE.KSortTup
import PySem.Challenge.RW_classtab_k07_backs_powers_rounds
set_option Elab.async false
set_option linter.all false
set_option maxRecDepth 100000
/-! THE HAND LAYER, for ints, bools, texts, own classes, LISTS and tuples (index, slices, in, append, pop ..), calls, loops. Paste it whole ahead of your own text; what your proof does not reach may be deleted. -/
namespace L2
open PySem PySem.Spec PyProof.Rows

/-- a key: an int or a str -/
abbrev Key := Sum Int Str
def keyIs : Key → Value → Bool
  | .inl k, v => Value.isInt k v
  | .inr x, v => Value.isStrOf x v
def keyH (w : World) : Key → Int
  | .inl k => hashInt k
  | .inr x => hashStr w x
theorem keyIs_shape : ∀ {k : Key} {v : Value}, keyIs k v = true → (∃ i t, k = Sum.inl i ∧ v = Value.int i t) ∨ (∃ x t, k = Sum.inr x ∧ v = Value.str x t)
  | .inl i, v, h => by
    obtain ⟨t, e⟩ := Value.isInt_shape (k := i) (v := v) h
    exact .inl ⟨i, t, rfl, e⟩
  | .inr x, v, h => by
    obtain ⟨t, e⟩ := Value.isStrOf_shape (x := x) (v := v) h
    exact .inr ⟨x, t, rfl, e⟩
theorem key_ll (a b : Int) : decide ((Sum.inl a : Key) = Sum.inl b) = (a == b) := by
  by_cases e : a = b
  · subst e; simp
  · have h : ¬ (Sum.inl a : Key) = Sum.inl b := fun q => e (Sum.inl.inj q)
    rw [decide_eq_false h]
    exact (beq_eq_false_iff_ne.mpr e).symm
theorem key_rr (a b : Str) : decide ((Sum.inr a : Key) = Sum.inr b) = decide (a = b) := by
  by_cases e : a = b
  · subst e; simp
  · have h : ¬ (Sum.inr a : Key) = Sum.inr b := fun q => e (Sum.inr.inj q)
    rw [decide_eq_false h, decide_eq_false e]
theorem key_lr (a : Int) (b : Str) : decide ((Sum.inl a : Key) = Sum.inr b) = false := decide_eq_false (fun q => nomatch q)
theorem key_rl (a : Str) (b : Int) : decide ((Sum.inr a : Key) = Sum.inl b) = false := decide_eq_false (fun q => nomatch q)

def mixKind (prog : Program) (w : World) : PySem.KeyKind prog w Key where
  is := keyIs
  hash := keyH w
  inj := fun v a b ha hb => by
    rcases keyIs_shape ha with ⟨i, t, rfl, rfl⟩ | ⟨x, t, rfl, rfl⟩
    · rcases keyIs_shape hb with ⟨j, u, rfl, e⟩ | ⟨y, u, rfl, e⟩
      · injection e with e1 _; rw [e1]
      · exact nomatch e
    · rcases keyIs_shape hb with ⟨j, u, rfl, e⟩ | ⟨y, u, rfl, e⟩
      · exact nomatch e
      · injection e with e1 _; rw [e1]
  byValue := fun k v h => by
    rcases keyIs_shape h with ⟨i, t, rfl, rfl⟩ | ⟨x, t, rfl, rfl⟩ <;> rfl
  pyHash := fun hv h => by
    rcases keyIs_shape hv with ⟨i, t, rfl, rfl⟩ | ⟨x, t, rfl, rfl⟩
    · exact wpAny_pyHash_int h
    · exact wpAny_pyHash_str h
  eqBool := fun hu hv h => by
    rcases keyIs_shape hu with ⟨i, t, rfl, rfl⟩ | ⟨x, t, rfl, rfl⟩
    · rcases keyIs_shape hv with ⟨j, u, rfl, rfl⟩ | ⟨y, u, rfl, rfl⟩
      · rw [key_ll] at h; exact wpAny_eqBool_int h
      · rw [key_lr] at h; exact SeqAt.EqAt.int_str i t y u _ _ _ _ h
    · rcases keyIs_shape hv with ⟨j, u, rfl, rfl⟩ | ⟨y, u, rfl, rfl⟩
      · rw [key_rl] at h; exact SeqAt.EqAt.str_int x t j u _ _ _ _ h
      · rw [key_rr] at h; exact wpAny_eqBool_str h
  «strs» := fun k x t v h => by
    rcases keyIs_shape h with ⟨i, u, rfl, e⟩ | ⟨y, u, rfl, e⟩
    · exact nomatch e
    · injection e with e1 _
      subst e1
      cases v <;> rfl

end L2

namespace L2
open PySem PySem.Spec PyProof.Rows

/-- a value, without the heap -/
inductive V where
  | non | bl (b : Bool) | int (i : Int) | str (x : Str) | byt (b : Array UInt8) | flt (b : UInt64) | ref (a : Addr) | ty (n : String)
  deriving DecidableEq

def RelV : V → Value → Prop
  | .non, u => u = Value.none
  | .bl b, u => u = Value.bool b
  | .int i, u => ∃ t, u = Value.int i t
  | .str x, u => ∃ t, u = Value.str x t
  | .byt b, u => ∃ t, u = Value.bytes b t
  | .flt b, u => ∃ t, u = Value.float b t
  | .ref a, u => u = Value.ref a
  | .ty n, u => u = Value.type n

abbrev Vals : List V → List Value → Prop := Paired RelV
theorem Vals.length {xs : List V} {us : List Value} (r : Vals xs us) : xs.length = us.length := Paired.length r
theorem Vals.get : ∀ {xs : List V} {us : List Value} {i : Nat} {x : V}, Vals xs us → xs[i]? = some x → ∃ u, us[i]? = some u ∧ RelV x u
  | _, _, _, _, .nil, e => by simp at e
  | _, _, 0, _, .cons r _, e => by simp at e; subst e; exact ⟨_, rfl, r⟩
  | _, _, i + 1, x, .cons _ t, e => by
    obtain ⟨u, h1, h2⟩ := Vals.get (i := i) (x := x) t (by simpa using e)
    exact ⟨u, by simpa using h1, h2⟩
theorem Vals.set {x : V} {u : Value} (r : RelV x u) : ∀ {xs : List V} {us : List Value} (i : Nat), Vals xs us → Vals (xs.set i x) (us.set i u)
  | _, _, _, .nil => .nil
  | _, _, 0, .cons _ t => .cons r t
  | _, _, i + 1, .cons q t => .cons q (Vals.set r i t)
theorem Vals.append : ∀ {xs ys : List V} {us ws : List Value}, Vals xs us → Vals ys ws → Vals (xs ++ ys) (us ++ ws)
  | _, _, _, _, .nil, s => s
  | _, _, _, _, .cons r t, s => .cons r (Vals.append t s)
theorem Vals.take : ∀ {xs : List V} {us : List Value} (n : Nat), Vals xs us → Vals (xs.take n) (us.take n)
  | _, _, 0, _ => .nil
  | _, _, _ + 1, .nil => .nil
  | _, _, n + 1, .cons r t => .cons r (Vals.take n t)
theorem Vals.drop : ∀ {xs : List V} {us : List Value} (n : Nat), Vals xs us → Vals (xs.drop n) (us.drop n)
  | _, _, 0, r => r
  | _, _, _ + 1, .nil => .nil
  | _, _, n + 1, .cons _ t => Vals.drop n t
def RelO : Option V → Option Value → Prop
  | some v, some u => RelV v u
  | none, none => True
  | _, _ => False
def KV {κ : Type} : List (κ × V) → List (κ × Value) → Prop := Paired fun (p : κ × V) (q : κ × Value) => p.1 = q.1 ∧ RelV p.2 q.2

/-- a key of a dict (00_mix): an int or a text -/
def kV : Key → V
  | .inl i => .int i
  | .inr x => .str x

/-- what stands at a tracked address -/
inductive HO where
  /-- a list -/
  | lst (xs : List V)
  /-- a tuple (never changes) -/
  | tup (xs : List V)
  /-- a dict whose keys are ints and texts; one whose keys are tuples of ints and texts (the empty one is both) -/
  | dK (kvs : List (Key × V)) | dT (kvs : List (List Key × V))
  /-- a set of ints: its members, its size -/
  | set (S : Int → Bool) (n : Nat)
  /-- an instance of the class at C, its dict at dx, its attributes -/
  | ins (C dx : Addr) (fs : List (Str × V))
  /-- the dict of the instance at x -/
  | own (x : Addr)
  /-- the dict of an exception -/
  | xd (fs : List (Str × V))
  /-- a bound method, f of x -/
  | met (f x : Addr)
  /-- a range object lo, lo + 1, .. below hi -/
  | rng (lo hi : Int)
  /-- a thing that is known to the object (the script; a dict while a loop walks it): read, never written while it is so -/
  | frz (o : Obj) (u : HO)
  /-- a code object's table -/
  | tbl (ps : Array Value)
  /-- any other thing, by what is true of its one object (a def of one's own: SetO a S n := HO.ext fun h => ..) -/
  | ext (φ : Heap → Prop)

abbrev Hp := Addr → Option HO
def upd (H : Hp) (a : Addr) (o : HO) : Hp := fun b => if b = a then some o else H b
theorem upd_same {H : Hp} {a : Addr} {o : HO} : upd H a o a = some o := by unfold upd; rw [if_pos rfl]
theorem upd_ne {H : Hp} {a b : Addr} {o : HO} (h : b ≠ a) : upd H a o b = H b := by unfold upd; rw [if_neg h]
theorem ne_of_none {H : Hp} {a b : Addr} {o : HO} (h : H a = some o) (h' : H b = none) : a ≠ b := by
  intro e; subst e; rw [h] at h'; cases h'

section
variable (P : Program) (w : World)
def ObjOk (H : Hp) (h : Heap) (a : Addr) : HO → Prop
  | .lst xs => xs.length ≤ sizeLine ∧ ∃ (its : List Value) (n : Nat), Vals xs its ∧ h.get? a = some { cls := .type "list", data := .seq its.toArray n }
  | .tup xs => xs.length ≤ sizeLine ∧ ∃ its : List Value, Vals xs its ∧ IsTup h a its.toArray
  | .dK kvs => kvs.length ≤ sizeLine ∧ (a == sysModules) = false ∧ ∃ vs, KV kvs vs ∧ h.DictOf (mixKind P w) a vs
  | .dT kvs => kvs.length ≤ sizeLine ∧ (a == sysModules) = false ∧ ∃ xs : List (List Key × Addr × Value),
      Paired (fun (p : List Key × V) (q : List Key × Addr × Value) => p.1 = q.1 ∧ H q.2.1 = some (.tup (p.1.map kV)) ∧ RelV p.2 q.2.2) kvs xs ∧
      ∃ o es ep, h.get? a = some o ∧ o.ExactDict ∧ o.data = .dict es ep ∧ es.toList = xs.map (entryOfKey (tupleKind (mixKind P w))) ∧ (xs.map (·.1)).Nodup
  | .set S n => h.SetOf (intKind P w) a S n
  | .ins C dx fs => H dx = some (.own a) ∧ fs.length ≤ 1000 ∧ dx ≠ a ∧ h.get? a = some (PySem.W.instObj C dx) ∧
      ∃ mA, h.Ns1 dx mA ∧ (∀ f, RelO (fs.lookup f) (mA f)) ∧ PySem.Within mA (fs.map (·.1))
  | .own _ => ∃ o, h.get? a = some o
  | .xd fs => ∃ mA, h.Ns1 a mA ∧ ∀ f, RelO (fs.lookup f) (mA f)
  | .rng lo hi => ∃ t u v, h.get? a = some { cls := .type "range", data := .fields #[.int lo t, .int hi u, .int 1 v] }
  | .frz o u => h.get? a = some o ∧ ObjOk H h a u
  | .tbl ps => h.get? a = some { cls := .none, data := .fields ps }
  | .met f x => h.get? a = some (PySem.W.methodObj (.ref f) (.ref x))
  | .ext φ => φ h ∧ (∃ o, h.get? a = some o) ∧ ∀ h1 h2 : Heap, φ h1 → (∀ o, h1.get? a = some o → h2.get? a = some o) → φ h2
/-- the abstract heap is held -/
def HOk (H : Hp) (h : Heap) : Prop := ∀ a o, H a = some o → ObjOk P w H h a o
end

section
variable {P : Program} {w : World} {H H' : Hp} {h h' : Heap} {a : Addr} {o : HO}
theorem ObjOk.lt (x : ObjOk P w H h a o) : a < h.objs.size := by
  cases o with
  | lst xs => obtain ⟨_, _, _, _, e⟩ := x; exact Heap.lt_size e
  | tup xs => obtain ⟨_, _, _, p⟩ := x; exact p.lt
  | dK kvs => obtain ⟨_, _, _, _, o, _, _, e, _⟩ := x; exact Heap.lt_size e
  | dT kvs => obtain ⟨_, _, _, _, o, _, _, e, _⟩ := x; exact Heap.lt_size e
  | set S n => obtain ⟨o, _, _, _, e, _⟩ := x; exact Heap.lt_size e
  | ins C dx fs => obtain ⟨_, _, _, e, _⟩ := x; exact Heap.lt_size e
  | own y => obtain ⟨_, e⟩ := x; exact Heap.lt_size e
  | xd fs => obtain ⟨_, ⟨_, _, _, e, _⟩, _⟩ := x; exact Heap.lt_size e
  | rng lo hi => obtain ⟨_, _, _, e⟩ := x; exact Heap.lt_size e
  | frz ob u => obtain ⟨e, _⟩ := x; exact Heap.lt_size e
  | tbl ps => exact Heap.lt_size (show h.get? a = some _ from x)
  | met f y => exact Heap.lt_size (show h.get? a = some _ from x)
  | ext φ => obtain ⟨_, ⟨_, e⟩, _⟩ := x; exact Heap.lt_size e
theorem Paired.mapP {α β : Type} {F G : α → β → Prop} : ∀ {l₁ : List α} {l₂ : List β}, Paired F l₁ l₂ → (∀ a b, F a b → G a b) → Paired G l₁ l₂
  | _, _, .nil, _ => .nil
  | _, _, .cons r t, f => .cons (f _ _ r) (Paired.mapP t f)
/-- what an object's description leans on: its own object, its own dict, the tuples -/
theorem ObjOk.stay (x : ObjOk P w H h a o) (k : ∀ b u, (b = a ∨ H b = some (.own a)) → h.get? b = some u → h'.get? b = some u)
    (ho : ∀ b, H b = some (.own a) → H' b = some (.own a)) (ht : ∀ b xs, H b = some (.tup xs) → H' b = some (.tup xs)) : ObjOk P w H' h' a o := by
  induction o with
  | lst xs => obtain ⟨z, its, n, r, e⟩ := x; exact ⟨z, its, n, r, k _ _ (.inl rfl) e⟩
  | tup xs => obtain ⟨z, its, r, ob, e, c⟩ := x; exact ⟨z, its, r, ob, k _ _ (.inl rfl) e, c⟩
  | dK kvs => obtain ⟨z, y, vs, r, ob, es, ep, e, c⟩ := x; exact ⟨z, y, vs, r, ob, es, ep, k _ _ (.inl rfl) e, c⟩
  | dT kvs =>
    obtain ⟨z, y, xs, r, ob, es, ep, e, c⟩ := x
    exact ⟨z, y, xs, Paired.mapP r fun p q z => ⟨z.1, ht _ _ z.2.1, z.2.2⟩, ob, es, ep, k _ _ (.inl rfl) e, c⟩
  | set S n => obtain ⟨ob, es, ep, t, e, c⟩ := x; exact ⟨ob, es, ep, t, k _ _ (.inl rfl) e, c⟩
  | ins C dx fs =>
    obtain ⟨d, z, ne, e, mA, ⟨od, es, ep, e2, c⟩, r⟩ := x
    exact ⟨ho _ d, z, ne, k _ _ (.inl rfl) e, mA, ⟨od, es, ep, k _ _ (.inr d) e2, c⟩, r⟩
  | own y => obtain ⟨ob, e⟩ := x; exact ⟨ob, k _ _ (.inl rfl) e⟩
  | xd fs => obtain ⟨mA, ⟨od, es, ep, e, c⟩, r⟩ := x; exact ⟨mA, ⟨od, es, ep, k _ _ (.inl rfl) e, c⟩, r⟩
  | rng lo hi => obtain ⟨t, u, v, e⟩ := x; exact ⟨t, u, v, k _ _ (.inl rfl) e⟩
  | frz ob u ih => obtain ⟨e, q⟩ := x; exact ⟨k _ _ (.inl rfl) e, ih q⟩
  | tbl ps =>
    have e : h.get? a = some { cls := .none, data := .fields ps } := x
    show h'.get? a = some { cls := .none, data := .fields ps }
    exact k a _ (.inl rfl) e
  | met f y =>
    have e : h.get? a = some (PySem.W.methodObj (.ref f) (.ref y)) := x
    show h'.get? a = some (PySem.W.methodObj (.ref f) (.ref y))
    exact k a _ (.inl rfl) e
  | ext φ => obtain ⟨p, ⟨o, e⟩, st⟩ := x; exact ⟨st _ _ p fun o q => k _ _ (.inl rfl) q, ⟨o, k _ _ (.inl rfl) e⟩, st⟩
theorem HOk.lt (x : HOk P w H h) (e : H a = some o) : a < h.objs.size := (x a o e).lt
theorem HOk.fresh (x : HOk P w H h) (e : h.objs.size ≤ a) : H a = none := by
  cases q : H a with
  | none => rfl
  | some u => exact absurd (Nat.lt_of_lt_of_le (x.lt q) e) (Nat.lt_irrefl _)
/-- every object of the heap is kept -/
theorem HOk.kept (x : HOk P w H h) (k : ∀ b u, h.get? b = some u → h'.get? b = some u) : HOk P w H h' := fun a o e =>
  (x a o e).stay (fun b u _ q => k b u q) (fun _ q => q) fun _ _ q => q
/-- a new object is laid and tracked -/
theorem HOk.laid (x : HOk P w H h) (k : ∀ b u, h.get? b = some u → h'.get? b = some u) (hp : h.objs.size ≤ a) (new : ObjOk P w (upd H a o) h' a o) : HOk P w (upd H a o) h' := fun b u e => by
  have hn := x.fresh hp
  by_cases hb : b = a
  · subst hb; rw [upd_same] at e; cases e; exact new
  · rw [upd_ne hb] at e
    exact (x b u e).stay (fun c v _ q => k c v q) (fun c q => by rw [upd_ne (ne_of_none q hn)]; exact q) fun c xs q => by rw [upd_ne (ne_of_none q hn)]; exact q
end

/-- what may be read as u: it is u, or a known u -/
def Rd (H : Hp) (a : Addr) (u : HO) : Prop := H a = some u ∨ ∃ o, H a = some (.frz o u)
theorem Rd.ok {P : Program} {w : World} {H : Hp} {h : Heap} {a : Addr} {u : HO} (r : Rd H a u) (x : HOk P w H h) : ObjOk P w H h a u := by
  rcases r with r | ⟨o, r⟩
  · exact x a u r
  · obtain ⟨_, q⟩ := x a _ r
    exact q
/-- what may be written -/
def Mut : Option HO → Prop
  | some (.lst _) => True
  | some (.dK _) => True
  | some (.dT _) => True
  | some (.set _ _) => True
  | some (.ins _ _ _) => True
  | some (.ext _) => True
  | _ => False
section
variable {P : Program} {w : World} {H : Hp} {h h' : Heap} {x e : Addr} {o' : HO}
/-- the object at e is changed: x itself, or the dict of the instance x -/
theorem HOk.write (ok : HOk P w H h) (mu : Mut (H x)) (he : e = x ∨ H e = some (.own x)) (k : ∀ b u, b ≠ e → h.get? b = some u → h'.get? b = some u) (heo : ∃ u, h'.get? e = some u)
    (new : ObjOk P w (upd H x o') h' x o') : HOk P w (upd H x o') h' := fun b u q => by
  have nown : ∀ c y, H c = some (.own y) → c ≠ x := fun c y r z => by subst z; rw [r] at mu; exact mu
  have ntup : ∀ c xs, H c = some (.tup xs) → c ≠ x := fun c xs r z => by subst z; rw [r] at mu; exact mu
  by_cases hb : b = x
  · subst hb; rw [upd_same] at q; cases q; exact new
  · rw [upd_ne hb] at q
    by_cases hbe : b = e
    · have q' : H b = some (.own x) := by
        rcases he with z | z
        · exact absurd (hbe.trans z) hb
        · rw [hbe]; exact z
      rw [q] at q'; cases q'
      obtain ⟨v, hv⟩ := heo
      exact ⟨v, by rw [hbe]; exact hv⟩
    · refine (ok b u q).stay (fun c v hc r => k c v ?_ r) (fun c r => by rw [upd_ne (nown c b r)]; exact r) fun c xs r => by rw [upd_ne (ntup c xs r)]; exact r
      rcases hc with rfl | hc
      · exact hbe
      · rintro rfl
        rcases he with z | z
        · exact nown c b hc z
        · rw [hc] at z; cases z; exact hb rfl
end

/-! ### kept unless tracked; of the frames at fs (the callers') the slots may change (an exception that passes writes there); of the records at ex (iterators) nothing is said -/
structure Un (fs ex : List Addr) (H H' : Hp) (h h' : Heap) : Prop where
  keep : ∀ b o, h.get? b = some o → H b = none → b ∉ fs → b ∉ ex → h'.get? b = some o
  slot : ∀ b o, h.get? b = some o → H b = none → b ∈ fs → b ∉ ex → ∃ sl, h'.get? b = some { o with slots := sl }
  free : ∀ b o, h.get? b = some o → H b = none → b ∉ ex → H' b = none
  there : ∀ b o, h.get? b = some o → b ∉ ex → ∃ o', h'.get? b = some o'
  tups : ∀ b xs, H b = some (.tup xs) → H' b = some (.tup xs)
  frzs : ∀ b o u, H b = some (.frz o u) → H' b = some (.frz o u)
  tbls : ∀ b ps, H b = some (.tbl ps) → ∃ more, H' b = some (.tbl (ps ++ more))
section
variable {fs fs' ex ex' : List Addr} {H H1 H2 : Hp} {h h1 h2 h' : Heap} {a x e : Addr} {o : HO}
theorem Un.any (u : Un fs ex H H1 h h1) {b : Addr} {ob : Obj} (q : h.get? b = some ob) (n : H b = none) (hx : b ∉ ex) : ∃ sl, h1.get? b = some { ob with slots := sl } := by
  by_cases hb : b ∈ fs
  · exact u.slot b ob q n hb hx
  · exact ⟨ob.slots, u.keep b ob q n hb hx⟩
theorem Un.kept (k : ∀ b u, h.get? b = some u → h'.get? b = some u) : Un fs ex H H h h' :=
  ⟨fun b ob q _ _ _ => k b ob q, fun b ob q _ _ _ => ⟨ob.slots, k b ob q⟩, fun _ _ _ n _ => n, fun b ob q _ => ⟨ob, k b ob q⟩, fun _ _ q => q, fun _ _ _ q => q, fun _ ps q => ⟨#[], by rw [q]; simp⟩⟩
theorem Un.refl : Un fs ex H H h h := Un.kept fun _ _ q => q
theorem Un.laid (k : ∀ b u, h.get? b = some u → h'.get? b = some u) (hp : h.objs.size ≤ a) (hn : H a = none) : Un fs ex H (upd H a o) h h' where
  keep := fun b u q _ _ _ => k b u q
  slot := fun b u q _ _ _ => ⟨u.slots, k b u q⟩
  free := fun b u q n _ => by rw [upd_ne (Nat.ne_of_lt (Nat.lt_of_lt_of_le (Heap.lt_size q) hp))]; exact n
  there := fun b u q _ => ⟨u, k b u q⟩
  tups := fun b xs q => by rw [upd_ne (ne_of_none q hn)]; exact q
  frzs := fun b u xs q => by rw [upd_ne (ne_of_none q hn)]; exact q
  tbls := fun b ps q => ⟨#[], by rw [upd_ne (ne_of_none q hn), q]; simp⟩
theorem Un.write (mu : Mut (H x)) (he : e = x ∨ H e = some (.own x)) (k : ∀ b u, b ≠ e → h.get? b = some u → h'.get? b = some u) (heo : ∃ u, h'.get? e = some u) : Un fs ex H (upd H x o) h h' := by
  have hx : ∀ b, H b = none → b ≠ x := fun b n z => by subst z; rw [n] at mu; exact mu
  have hb : ∀ b, H b = none → b ≠ e := fun b n z => by
    subst z
    rcases he with r | r
    · exact hx b n r
    · rw [n] at r; cases r
  have hm : ∀ b u, H b = some u → ¬ Mut (some u) → b ≠ x := fun b u q nm z => by subst z; rw [q] at mu; exact nm mu
  refine ⟨fun b u q n _ _ => k b u (hb b n) q, fun b u q n _ _ => ⟨u.slots, k b u (hb b n) q⟩, fun b u q n _ => by rw [upd_ne (hx b n)]; exact n, fun b u q _ => ?_,
    fun b xs q => by rw [upd_ne (hm b _ q fun z => z)]; exact q, fun b u xs q => by rw [upd_ne (hm b _ q fun z => z)]; exact q, fun b ps q => ⟨#[], by rw [upd_ne (hm b _ q fun z => z), q]; simp⟩⟩
  by_cases hbe : b = e
  · subst hbe; exact heo
  · exact ⟨u, k b u hbe q⟩
end

/-! ### the heap without what is tracked -/
def trk (h : Heap) (H : Hp) : List Addr := (List.range h.objs.size).filter fun a => (H a).isSome
def hidT (h : Heap) (H : Hp) : Heap := PySem.W.hideAll h (trk h H)
theorem hidT_size (h : Heap) (H : Hp) : (hidT h H).objs.size = h.objs.size := PySem.W.hideAll_size _ _
theorem hidT_get {h : Heap} {H : Hp} {b : Addr} {o : Obj} (e : h.get? b = some o) (n : H b = none) : (hidT h H).get? b = some o :=
  PySem.W.hideAll_get _ e fun hm => by
    have q : (H b).isSome = true := (List.mem_filter.mp hm).2
    rw [n] at q; simp at q
theorem of_hidT {h : Heap} {H : Hp} {b : Addr} {o : Obj} (e : (hidT h H).get? b = some o) : h.get? b = some o ∧ H b = none := by
  have e' : h.get? b = some o := PySem.W.of_hideAll (trk h H) e
  refine ⟨e', ?_⟩
  cases q : H b with
  | none => rfl
  | some x =>
    have hm : b ∈ trk h H := List.mem_filter.mpr ⟨List.mem_range.mpr (Heap.lt_size e'), by simp [q]⟩
    have z : (hidT h H).get? b = none := PySem.W.hideAll_none (trk h H) hm
    rw [z] at e; cases e

/-! ### OpenK's ledger, filled with every new object but one -/
def allNews (g h : Heap) (L : Addr) : List (Addr × Obj) := (List.range h.objs.size).filterMap fun a => if a = L ∨ (g.get? a).isSome = true then none else (h.get? a).map fun o => (a, o)
def rest (g h : Heap) (L d : Addr) : List (Addr × Obj) := (allNews g h L).filter fun p => decide (p.1 ≠ d)
end L2

namespace L2
open PySem PySem.Spec PyProof.Rows

/-- the module's facts, over the base: the heap at the law's entry without what is tracked there -/
structure Mod (K : PySem.W.Frag) (mg : Str → Option Value) (base : Heap) : Prop where
  kin : K.In base
  glob : base.Ns mainGlobals mg
  blt : ∃ mb, base.Ns builtinsNs mb ∧ ∀ x : Str, x ≠ "__name__" → mb x = bootBuiltins x
  nolimit : base.NoLimit

/-- the context: a def's body (or a comprehension's block) running. base: fixed through the whole law; s₀, H₀: the entry; outer: the frames whose slots others may change (a def's callers); stack: all frames that run;
   ex: iterators that were made ahead of the entry and are walked here (a comprehension's); fn: the names whose cells were made at the entry (a def: all; a comprehension's block: its own); calm: not within an except suite; pn: pins that every state bears; xe: what is wanted of an exception that leaves the code -/
structure Cx where
  prog : Program
  w : World
  K : PySem.W.Frag
  mg : Str → Option Value
  base : Heap
  A : Around
  N : List Str
  s₀ : Shared
  H₀ : Hp
  env : Env
  outer : List Env
  stack : List Env
  ex : List Addr
  fn : Str → Bool
  calm : Bool
  pn : List (Addr × Obj)
  xe : Value → Shared → Prop
/-- the callers' frames -/
def frs (l : List Env) : List Addr := l.filterMap (·.frame)
abbrev Cx.fs (X : Cx) : List Addr := frs X.outer

def Vis (sc : Scope) (x : Str) : Prop := sc.names.lookup x = some .local ∨ sc.names.lookup x = some .cell ∨ sc.names.lookup x = some .free
def Loc (sc : Scope) (x : Str) : Prop := sc.names.lookup x = some .local ∨ sc.names.lookup x = some .cell
def Look (env : Env) (h : Heap) (m : Str → Option Value) (x : Str) (u : Value) : Prop :=
  (env.kindOf x = some .local ∧ m x = some u) ∨ ((env.kindOf x = some .cell ∨ env.kindOf x = some .free) ∧ ∃ c, env.cells.lookup x = some c ∧ h.IsCell c (some u))

structure Cx.Ok (X : Cx) : Prop where
  mod : Mod X.K X.mg X.base
  kind : X.env.scope.kind = .function
  glob : X.env.globals = mainGlobals
  blt : X.env.builtins = builtinsNs
  above : X.s₀.heap.objs.size ≤ X.env.locals
  inj : ∀ x y c, X.env.cells.lookup x = some c → X.env.cells.lookup y = some c → x = y
  has : ∀ x, (X.env.kindOf x = some .cell ∨ X.env.kindOf x = some .free) → ∃ c, X.env.cells.lookup x = some c
  cab : ∀ x c, X.fn x = true → X.env.cells.lookup x = some c → X.s₀.heap.objs.size ≤ c
  hd : X.calm = true → X.A.handled = none
  frames : X.A.frames = some X.stack
  stk : X.stack = X.outer ∨ (X.stack = X.env :: X.outer ∧ X.env.frame = some X.env.locals)
  exf : ∀ b ∈ X.ex, b ≠ X.env.locals ∧ ∀ x c, X.env.cells.lookup x = some c → c ≠ b
  bs : ∀ b o, X.base.get? b = some o → X.s₀.heap.get? b = some o ∧ X.H₀ b = none
  bsz : X.base.objs.size ≤ X.s₀.heap.objs.size
  noex : ∀ b o, X.base.get? b = some o → b ∉ X.ex
  exfs : ∀ b ∈ X.ex, b ∉ X.fs
  funs : X.s₀.heap.FunFrames X.base X.outer
  frf : ∀ b ∈ X.fs, X.H₀ b = none

structure Inv (X : Cx) (pins : List (Addr × Obj)) (σ : List (Option V)) (H : Hp) (s : Shared) : Prop where
  ok : X.Ok
  os : s.os = X.s₀.os
  bare : AllBare s.gens
  base : Un X.fs X.ex X.H₀ H X.s₀.heap s.heap
  loc : ∃ m, s.heap.Ns X.env.locals m ∧ ∀ (i : Nat) (x : Str) (v : V), X.N[i]? = some x → σ[i]? = some (some v) → Vis X.env.scope x → ∃ u, RelV v u ∧ Look X.env s.heap m x u
  cell : ∀ x c, X.env.cells.lookup x = some c → ∃ v, s.heap.IsCell c v
  free : H X.env.locals = none
  freeC : ∀ x c, X.env.cells.lookup x = some c → H c = none
  pin : ∀ p ∈ X.pn ++ pins, s.heap.get? p.1 = some p.2 ∧ H p.1 = none ∧ p.1 ≠ X.env.locals ∧ p.1 ∉ X.fs ∧ ∀ v, p.2.data ≠ .cell v
  hok : HOk X.prog X.w H s.heap
  len : σ.length = X.N.length

section
variable {X : Cx} {pins : List (Addr × Obj)} {σ : List (Option V)} {H H' : Hp} {s : Shared} {h' : Heap}

theorem Cx.Ok.nofr (ok : X.Ok) {b : Addr} {o : Obj} (e : X.base.get? b = some o) : b ∉ X.fs := fun hb => by
  have := (ok.funs.mem hb).1
  rw [e] at this; cases this
theorem Inv.bs (I : Inv X pins σ H s) : ∀ b o, X.base.get? b = some o → s.heap.get? b = some o ∧ H b = none := fun b o e =>
  ⟨I.base.keep b o (I.ok.bs b o e).1 (I.ok.bs b o e).2 (I.ok.nofr e) (I.ok.noex b o e), I.base.free b o (I.ok.bs b o e).1 (I.ok.bs b o e).2 (I.ok.noex b o e)⟩
theorem Inv.bk (I : Inv X pins σ H s) : ∀ b o, X.base.get? b = some o → s.heap.get? b = some o := fun b o e => (I.bs b o e).1
theorem Inv.mod (I : Inv X pins σ H s) : Mod X.K X.mg X.base := I.ok.mod
theorem Inv.kIn (I : Inv X pins σ H s) : X.K.In s.heap := I.ok.mod.kin.keeps I.bk
theorem Inv.lt (I : Inv X pins σ H s) : X.env.locals < s.heap.objs.size := let ⟨_, hn, _⟩ := I.loc; hn.lt
theorem Inv.sz (I : Inv X pins σ H s) : X.s₀.heap.objs.size ≤ s.heap.objs.size := Nat.le_trans I.ok.above (Nat.le_of_lt I.lt)
theorem Inv.nofs (I : Inv X pins σ H s) {a : Addr} (h : s.heap.objs.size ≤ a) : a ∉ X.fs := fun hb => by
  obtain ⟨_, o, ho, _⟩ := I.ok.funs.mem hb
  exact absurd (Nat.lt_of_lt_of_le (Heap.lt_size ho) (Nat.le_trans I.sz h)) (Nat.lt_irrefl _)
theorem Inv.cne (I : Inv X pins σ H s) : ∀ x c, X.env.cells.lookup x = some c → c ≠ X.env.locals := fun x c e z => by
  obtain ⟨v, o, ho, hd⟩ := I.cell x c e
  obtain ⟨m, ⟨o', es, ep, ho', hd', _⟩, _⟩ := I.loc
  rw [z, ho'] at ho; cases ho; rw [hd'] at hd; cases hd
theorem Inv.funs (I : Inv X pins σ H s) : s.heap.FunFrames X.base X.outer := by
  have all : ∀ (l : List Env), (∀ b ∈ frs l, b ∈ X.fs) → X.s₀.heap.FunFrames X.base l → s.heap.FunFrames X.base l := by
    intro l
    induction l with
    | nil => intro _ _; trivial
    | cons env r ih =>
      intro hs hl
      obtain ⟨hk, ⟨L, o, hf, hn, ho, hd⟩, hr⟩ := hl
      have hL : L ∈ X.fs := hs L (by unfold frs; rw [List.filterMap_cons, hf]; exact List.mem_cons_self)
      obtain ⟨sl, e⟩ := I.base.slot L o ho (I.ok.frf L hL) hL fun z => I.ok.exfs L z hL
      exact ⟨hk, ⟨L, _, hf, hn, e, hd⟩, ih (fun b hb => hs b (by unfold frs; rw [List.filterMap_cons, hf]; exact List.mem_cons_of_mem _ hb)) hr⟩
  exact all X.outer (fun _ hb => hb) I.ok.funs

/-- the frames that run, for a call -/
theorem Inv.stack (I : Inv X pins σ H s) : s.heap.FunFrames X.base X.stack := by
  rcases I.ok.stk with e | ⟨e, hf⟩
  · rw [e]; exact I.funs
  · rw [e]
    obtain ⟨m, hn, _⟩ := I.loc
    refine .cons (by rw [I.ok.kind]; decide) hf hn ?_ I.funs
    exact Heap.get?_none_of_le (Nat.le_trans I.ok.bsz I.ok.above)
theorem Inv.stkSub (I : Inv X pins σ H s) : ∀ b ∈ frs X.stack, b ∈ X.env.locals :: X.fs := fun b hb => by
  rcases I.ok.stk with e | ⟨e, hf⟩
  · rw [e] at hb; exact List.mem_cons_of_mem _ hb
  · rw [e] at hb
    unfold frs at hb
    rw [List.filterMap_cons, hf] at hb
    exact hb
theorem Inv.stkFree (I : Inv X pins σ H s) : ∀ b ∈ frs X.stack, H b = none := fun b hb => by
  rcases List.mem_cons.mp (I.stkSub b hb) with e | hb
  · rw [e]; exact I.free
  · obtain ⟨_, o, ho, _⟩ := I.ok.funs.mem hb
    exact I.base.free b o ho (I.ok.frf b hb) fun z => I.ok.exfs b z hb

/-- THE STEP: the untracked objects but the frame and the records at ch are kept (the callers' frames up to slots), the frame's map is kept, the new abstract heap is held -/
theorem Inv.step {g' : Array GenState} {t' : Nat} {d' : Drawn} {ch : List Addr} (I : Inv X pins σ H s)
    (hch : ∀ b ∈ ch, (b ∈ X.ex ∨ X.s₀.heap.objs.size ≤ b) ∧ b ≠ X.env.locals ∧ (∀ x c, X.env.cells.lookup x = some c → c ≠ b) ∧ ∀ p ∈ X.pn ++ pins, p.1 ≠ b)
    (keep : ∀ b o, b ≠ X.env.locals → b ∉ X.fs → b ∉ ch → s.heap.get? b = some o → H b = none → h'.get? b = some o)
    (slot : ∀ b o, b ≠ X.env.locals → b ∈ X.fs → b ∉ ch → s.heap.get? b = some o → H b = none → ∃ sl, h'.get? b = some { o with slots := sl }) (free : ∀ b o, b ∉ ch → s.heap.get? b = some o → H b = none → H' b = none)
    (there : ∀ b o, b ∉ ch → s.heap.get? b = some o → ∃ o', h'.get? b = some o')
    (tups : ∀ b xs, H b = some (.tup xs) → H' b = some (.tup xs)) (frzs : ∀ b o u, H b = some (.frz o u) → H' b = some (.frz o u)) (tbls : ∀ b ps, H b = some (.tbl ps) → ∃ more, H' b = some (.tbl (ps ++ more)))
    (ns : ∀ m, s.heap.Ns X.env.locals m → h'.Ns X.env.locals m) (hok : HOk X.prog X.w H' h') (hg : AllBare g') :
    Inv X pins σ H' { s with heap := h', gens := g', drawn := d', toks := t' } := by
  have neL : ∀ b o, X.s₀.heap.get? b = some o → b ≠ X.env.locals := fun b o e => Nat.ne_of_lt (Nat.lt_of_lt_of_le (Heap.lt_size e) I.ok.above)
  have neC : ∀ b o, X.s₀.heap.get? b = some o → b ∉ X.ex → b ∉ ch := fun b o e hx hb => by
    rcases (hch b hb).1 with z | z
    · exact hx z
    · exact absurd (Nat.lt_of_lt_of_le (Heap.lt_size e) z) (Nat.lt_irrefl _)
  have cellK : ∀ x c, X.env.cells.lookup x = some c → ∀ v, s.heap.IsCell c v → h'.IsCell c v := fun x c e v ⟨o, ho, hd⟩ => by
    have nch : c ∉ ch := fun z => (hch c z).2.2.1 x c e rfl
    by_cases hc : c ∈ X.fs
    · obtain ⟨sl, q⟩ := slot c o (I.cne x c e) hc nch ho (I.freeC x c e)
      exact ⟨_, q, hd⟩
    · exact ⟨o, keep c o (I.cne x c e) hc nch ho (I.freeC x c e), hd⟩
  refine ⟨I.ok, I.os, hg, ⟨fun b o e n hb hx => ?_, fun b o e n hb hx => ?_, fun b o e n hx => ?_, fun b o e hx => ?_, fun b xs e => tups b xs (I.base.tups b xs e), fun b o xs e => frzs b o xs (I.base.frzs b o xs e), fun b ps e => ?_⟩, ?_, fun x c e => ?_, ?_, fun x c e => ?_, fun p hp => ?_, hok, I.len⟩
  · exact keep b o (neL b o e) hb (neC b o e hx) (I.base.keep b o e n hb hx) (I.base.free b o e n hx)
  · obtain ⟨sl, e1⟩ := I.base.slot b o e n hb hx
    obtain ⟨sl', e2⟩ := slot b _ (neL b o e) hb (neC b o e hx) e1 (I.base.free b o e n hx)
    exact ⟨sl', e2⟩
  · obtain ⟨o', e1⟩ := I.base.there b o e hx
    exact free b o' (neC b o e hx) e1 (I.base.free b o e n hx)
  · obtain ⟨o', e1⟩ := I.base.there b o e hx
    exact there b o' (neC b o e hx) e1
  · obtain ⟨m1, e1⟩ := I.base.tbls b ps e
    obtain ⟨m2, e2⟩ := tbls b _ e1
    exact ⟨m1 ++ m2, by rw [e2, Array.append_assoc]⟩
  · obtain ⟨m, hn, hl⟩ := I.loc
    refine ⟨m, ns m hn, fun i x v e1 e2 e3 => ?_⟩
    obtain ⟨u, r, l⟩ := hl i x v e1 e2 e3
    refine ⟨u, r, ?_⟩
    rcases l with l | ⟨k, c, e, z⟩
    · exact .inl l
    · exact .inr ⟨k, c, e, cellK x c e _ z⟩
  · obtain ⟨v, z⟩ := I.cell x c e
    exact ⟨v, cellK x c e v z⟩
  · obtain ⟨m, ⟨o, _, _, ho, _⟩, _⟩ := I.loc
    exact free _ o (fun z => (hch _ z).2.1 rfl) ho I.free
  · obtain ⟨v, o, ho, hd⟩ := I.cell x c e
    exact free c o (fun z => (hch c z).2.2.1 x c e rfl) ho (I.freeC x c e)
  · obtain ⟨e, n, ne, nf, d⟩ := I.pin p hp
    have nch : p.1 ∉ ch := fun z => (hch p.1 z).2.2.2 p hp rfl
    exact ⟨keep p.1 p.2 ne nf nch e n, free p.1 p.2 nch e n, ne, nf, d⟩
/-- .. where the frame's own object is kept too -/
theorem Inv.un {t' : Nat} (I : Inv X pins σ H s) (u : Un X.fs [] H H' s.heap h') (hok : HOk X.prog X.w H' h') : Inv X pins σ H' { s with heap := h', toks := t' } := by
  obtain ⟨m, ⟨o, es, ep, ho, r⟩, _⟩ := id I.loc
  obtain ⟨sl, hL⟩ := u.any ho I.free (by simp)
  exact I.step (g' := s.gens) (d' := s.drawn) (ch := []) (fun _ z => nomatch z) (fun b o _ hb _ e n => u.keep b o e n hb (by simp)) (fun b o _ hb _ e n => u.slot b o e n hb (by simp)) (fun b o _ e n => u.free b o e n (by simp)) (fun b o _ e => u.there b o e (by simp)) u.tups u.frzs u.tbls (fun m' hm => by
    obtain ⟨o', es', ep', ho', r'⟩ := hm
    rw [ho] at ho'; cases ho'
    exact ⟨_, es', ep', hL, r'⟩) hok I.bare
/-- behind a call (or a comprehension's block): the slots of this frame may have changed too, the records at ch may have turned -/
theorem Inv.call {g' : Array GenState} {t' : Nat} {d' : Drawn} {ch : List Addr} (I : Inv X pins σ H s) (u : Un (frs X.stack) ch H H' s.heap h') (hok : HOk X.prog X.w H' h') (hg : AllBare g')
    (hch : ∀ b ∈ ch, (b ∈ X.ex ∨ X.s₀.heap.objs.size ≤ b) ∧ b ≠ X.env.locals ∧ (∀ x c, X.env.cells.lookup x = some c → c ≠ b) ∧ ∀ p ∈ X.pn ++ pins, p.1 ≠ b) :
    Inv X pins σ H' { s with heap := h', gens := g', drawn := d', toks := t' } := by
  obtain ⟨m, ⟨o, es, ep, ho, r⟩, _⟩ := id I.loc
  obtain ⟨sl, hL⟩ := u.any ho I.free fun z => (hch _ z).2.1 rfl
  exact I.step (ch := ch) hch (fun b o hL hb hc e n => u.keep b o e n (fun z => (List.mem_cons.mp (I.stkSub b z)).elim hL hb) hc) (fun b o _ _ hc e n => u.any e n hc) (fun b o hc e n => u.free b o e n hc) (fun b o hc e => u.there b o e hc) u.tups u.frzs u.tbls (fun m' hm => by
    obtain ⟨o', es', ep', ho', r'⟩ := hm
    rw [ho] at ho'; cases ho'
    exact ⟨_, es', ep', hL, r'⟩) hok hg
/-- an untracked record of ours (an iterator) has turned -/
theorem Inv.turned {t' : Nat} {it : Addr} (I : Inv X pins σ H s) (k : ∀ b o, b ≠ it → s.heap.get? b = some o → h'.get? b = some o) (hn : H it = none) (hL : it ≠ X.env.locals)
    (h1 : it ∈ X.ex ∨ X.s₀.heap.objs.size ≤ it) (h2 : ∀ x c, X.env.cells.lookup x = some c → c ≠ it) (h3 : ∀ p ∈ X.pn ++ pins, p.1 ≠ it) : Inv X pins σ H { s with heap := h', toks := t' } := by
  have nit : ∀ b u, H b = some u → b ≠ it := fun b u e z => by rw [z, hn] at e; cases e
  refine I.step (g' := s.gens) (d' := s.drawn) (ch := [it]) (fun b hb => ?_) (fun b o _ _ hc e _ => k b o (fun z => hc (by simp [z])) e) (fun b o _ _ hc e _ => ⟨o.slots, k b o (fun z => hc (by simp [z])) e⟩) (fun _ _ _ _ n => n)
    (fun b o hc e => ⟨o, k b o (fun z => hc (by simp [z])) e⟩) (fun _ _ e => e) (fun _ _ _ e => e) (fun b ps e => ⟨#[], by rw [e]; simp⟩) (fun m hm => ?_) (fun b u e => ?_) I.bare
  · have e : b = it := by simpa using hb
    subst e
    exact ⟨h1, hL, h2, h3⟩
  · obtain ⟨o, es, ep, ho, r⟩ := hm
    exact ⟨o, es, ep, k _ o (Ne.symm hL) ho, r⟩
  · refine (I.hok b u e).stay (fun c v hc q => k c v ?_ q) (fun _ q => q) fun _ _ q => q
    rcases hc with z | z
    · rw [z]; exact nit b u e
    · exact nit c _ z
theorem Inv.tok (I : Inv X pins σ H s) (t : Nat) : Inv X pins σ H { s with toks := t } := I.un (h' := s.heap) (t' := t) Un.refl I.hok
/-- all objects kept -/
theorem Inv.kept {t' : Nat} (I : Inv X pins σ H s) (k : ∀ b u, s.heap.get? b = some u → h'.get? b = some u) : Inv X pins σ H { s with heap := h', toks := t' } := I.un (Un.kept k) (I.hok.kept k)
/-- a new object laid and tracked -/
theorem Inv.laid {a : Addr} {o : HO} {t' : Nat} (I : Inv X pins σ H s) (k : ∀ b u, s.heap.get? b = some u → h'.get? b = some u) (hp : s.heap.objs.size ≤ a) (new : ObjOk X.prog X.w (upd H a o) h' a o) :
    Inv X pins σ (upd H a o) { s with heap := h', toks := t' } := I.un (Un.laid k hp (I.hok.fresh hp)) (I.hok.laid k hp new)
/-- an object written -/
theorem Inv.write {x e : Addr} {o : HO} {t' : Nat} (I : Inv X pins σ H s) (mu : Mut (H x)) (he : e = x ∨ H e = some (.own x)) (k : ∀ b u, b ≠ e → s.heap.get? b = some u → h'.get? b = some u) (heo : ∃ u, h'.get? e = some u)
    (new : ObjOk X.prog X.w (upd H x o) h' x o) : Inv X pins σ (upd H x o) { s with heap := h', toks := t' } := I.un (Un.write mu he k heo) (I.hok.write mu he k heo new)
theorem Inv.pins_of {pins' : List (Addr × Obj)} (I : Inv X pins σ H s) (h : ∀ p ∈ pins', s.heap.get? p.1 = some p.2 ∧ H p.1 = none ∧ p.1 ≠ X.env.locals ∧ p.1 ∉ X.fs ∧ ∀ v, p.2.data ≠ .cell v) : Inv X pins' σ H s :=
  ⟨I.ok, I.os, I.bare, I.base, I.loc, I.cell, I.free, I.freeC, fun p hp => (List.mem_append.mp hp).elim (fun z => I.pin p (List.mem_append_left _ z)) (h p), I.hok, I.len⟩

theorem nodup_ix {N : List Str} (hN : N.Nodup) {i j : Nat} {x : Str} (a : N[i]? = some x) (b : N[j]? = some x) : i = j := by
  obtain ⟨h1, e1⟩ := List.getElem?_eq_some_iff.mp a
  obtain ⟨h2, e2⟩ := List.getElem?_eq_some_iff.mp b
  exact (List.getElem_inj hN).mp (e1.trans e2.symm)

/-- a name is stored; what changed -/
theorem store_ok2 {M : Model} {A : Around} {E : Value → Shared → Prop} {i : Nat} {x : Str} {v : V} {u : Value} {Q : Unit → Shared → Prop} (I : Inv X pins σ H s) (hN : X.N.Nodup) (hi : X.N[i]? = some x) (hx : Loc X.env.scope x) (r : RelV v u)
    (h : ∀ s', Inv X pins (σ.set i (some v)) H s' → (∃ a, Heap.SameBut a s.heap s'.heap ∧ (a = X.env.locals ∨ X.env.cells.lookup x = some a)) → Q () s') (hf : X.fn x = true ∨ X.env.scope.names.lookup x = some .local := by first | exact .inl rfl | exact .inr rfl | assumption) : wpAny M A (storeName X.env x u) Q E s := by
  obtain ⟨m, hn, hl⟩ := id I.loc
  have hcls : (X.env.scope.kind == .class || (X.env.scope.kind == .module && X.env.locals != X.env.globals)) = false := by rw [I.ok.kind]; rfl
  have hiσ : i < σ.length := by rw [I.len]; exact (List.getElem?_eq_some_iff.mp hi).1
  have cne := I.cne
  have tracked : ∀ {a : Addr} {h' : Heap}, (∃ o, s.heap.get? a = some o ∧ H a = none) → Heap.SameBut a s.heap h' → HOk X.prog X.w H h' := fun {a h'} ha hs b ob e => by
    obtain ⟨_, _, hfree⟩ := ha
    refine (I.hok b ob e).stay (fun c w' hc q => (hs.2 c ?_).trans q) (fun _ q => q) fun _ _ q => q
    rintro rfl
    rcases hc with rfl | hc
    · rw [hfree] at e; cases e
    · rw [hfree] at hc; cases hc
  rcases hx with hk | hk
  · refine wpAny_storeName_local hk hn (fun h' hn' hs => ?_) hcls
    obtain ⟨oL, _, _, hoL, _⟩ := id hn
    refine h _ ⟨I.ok, I.os, I.bare, ⟨fun b o e n hb hx => ?_, fun b o e n hb hx => ?_, I.base.free, fun b o e hx => ?_, I.base.tups, I.base.frzs, I.base.tbls⟩, ⟨_, hn', fun j y v' e1 e2 e3 => ?_⟩, fun y c e => ?_, I.free, I.freeC, fun p hp => ?_, tracked ⟨oL, hoL, I.free⟩ hs, by simpa using I.len⟩ ⟨_, hs, .inl rfl⟩
    · exact (hs.2 b (Nat.ne_of_lt (Nat.lt_of_lt_of_le (Heap.lt_size e) I.ok.above))).trans (I.base.keep b o e n hb hx)
    · obtain ⟨sl, e1⟩ := I.base.slot b o e n hb hx
      exact ⟨sl, (hs.2 b (Nat.ne_of_lt (Nat.lt_of_lt_of_le (Heap.lt_size e) I.ok.above))).trans e1⟩
    · obtain ⟨o', e1⟩ := I.base.there b o e hx
      exact ⟨o', (hs.2 b (Nat.ne_of_lt (Nat.lt_of_lt_of_le (Heap.lt_size e) I.ok.above))).trans e1⟩
    · by_cases hj : j = i
      · subst hj
        rw [hi] at e1; cases e1
        rw [List.getElem?_set_self hiσ] at e2
        cases e2
        exact ⟨u, r, .inl ⟨hk, by simp⟩⟩
      · rw [List.getElem?_set_ne (Ne.symm hj)] at e2
        obtain ⟨u', r', q⟩ := hl j y v' e1 e2 e3
        refine ⟨u', r', ?_⟩
        rcases q with ⟨k, e⟩ | ⟨k, c, e, z⟩
        · refine .inl ⟨k, ?_⟩
          have : y ≠ x := fun e => hj (nodup_ix hN e1 (e ▸ hi))
          simp [this, e]
        · exact .inr ⟨k, c, e, z.sameBut hs (cne y c e)⟩
    · obtain ⟨w', z⟩ := I.cell y c e
      exact ⟨w', z.sameBut hs (cne y c e)⟩
    · obtain ⟨e, n, ne, nf, d⟩ := I.pin p hp
      exact ⟨(hs.2 p.1 ne).trans e, n, ne, nf, d⟩
  · have hfn : X.fn x = true := by
      rcases hf with z | z
      · exact z
      · rw [z] at hk; cases hk
    obtain ⟨c, hc⟩ := I.ok.has x (.inl hk)
    obtain ⟨w', z⟩ := I.cell x c hc
    refine wpAny_storeName_cell I.ok.kind hk hc z (fun h' hc' hs => ?_)
    obtain ⟨oc, hoc, hocd⟩ := id z
    refine h { s with heap := h' } ⟨I.ok, I.os, I.bare, ⟨fun b o e n hb hx => ?_, fun b o e n hb hx => ?_, I.base.free, fun b o e hx => ?_, I.base.tups, I.base.frzs, I.base.tbls⟩, ⟨m, hn.sameBut hs (Ne.symm (cne x c hc)), fun j y v' e1 e2 e3 => ?_⟩, fun y c' e => ?_, I.free, I.freeC, fun p hp => ?_, tracked ⟨oc, hoc, I.freeC x c hc⟩ hs, by simpa using I.len⟩ ⟨c, hs, .inr hc⟩
    · exact (hs.2 b (Nat.ne_of_lt (Nat.lt_of_lt_of_le (Heap.lt_size e) (I.ok.cab x c hfn hc)))).trans (I.base.keep b o e n hb hx)
    · obtain ⟨sl, e1⟩ := I.base.slot b o e n hb hx
      exact ⟨sl, (hs.2 b (Nat.ne_of_lt (Nat.lt_of_lt_of_le (Heap.lt_size e) (I.ok.cab x c hfn hc)))).trans e1⟩
    · obtain ⟨o', e1⟩ := I.base.there b o e hx
      exact ⟨o', (hs.2 b (Nat.ne_of_lt (Nat.lt_of_lt_of_le (Heap.lt_size e) (I.ok.cab x c hfn hc)))).trans e1⟩
    · by_cases hj : j = i
      · subst hj
        rw [hi] at e1; cases e1
        rw [List.getElem?_set_self hiσ] at e2
        cases e2
        exact ⟨u, r, .inr ⟨.inl hk, c, hc, hc'⟩⟩
      · rw [List.getElem?_set_ne (Ne.symm hj)] at e2
        obtain ⟨u', r', q⟩ := hl j y v' e1 e2 e3
        refine ⟨u', r', ?_⟩
        rcases q with q | ⟨k, c', e, z'⟩
        · exact .inl q
        · refine .inr ⟨k, c', e, z'.sameBut hs ?_⟩
          rintro rfl
          exact hj (nodup_ix hN e1 (I.ok.inj _ _ _ e hc ▸ hi))
    · by_cases hcc : c' = c
      · subst hcc; exact ⟨_, hc'⟩
      · obtain ⟨w2, z2⟩ := I.cell y c' e
        exact ⟨w2, z2.sameBut hs hcc⟩
    · obtain ⟨e, n, ne, nf, d⟩ := I.pin p hp
      refine ⟨(hs.2 p.1 ?_).trans e, n, ne, nf, d⟩
      intro q
      rw [q, hoc] at e
      have q' : oc = p.2 := Option.some.inj e
      exact d w' (by rw [← q']; exact hocd)
theorem store_ok {M : Model} {A : Around} {E : Value → Shared → Prop} {i : Nat} {x : Str} {v : V} {u : Value} {Q : Unit → Shared → Prop} (I : Inv X pins σ H s) (hN : X.N.Nodup) (hi : X.N[i]? = some x) (hx : Loc X.env.scope x) (r : RelV v u)
    (h : ∀ s', Inv X pins (σ.set i (some v)) H s' → Q () s') (hf : X.fn x = true ∨ X.env.scope.names.lookup x = some .local := by first | exact .inl rfl | exact .inr rfl | assumption) : wpAny M A (storeName X.env x u) Q E s :=
  store_ok2 I hN hi hx r (fun s' I' _ => h s' I') hf
/-- behind a call or a block, the state as it is -/
theorem Inv.call' {s' : Shared} {ch : List Addr} (I : Inv X pins σ H s) (ho : s'.os = s.os) (u : Un (frs X.stack) ch H H' s.heap s'.heap) (hok : HOk X.prog X.w H' s'.heap) (hg : AllBare s'.gens)
    (hch : ∀ b ∈ ch, (b ∈ X.ex ∨ X.s₀.heap.objs.size ≤ b) ∧ b ≠ X.env.locals ∧ (∀ x c, X.env.cells.lookup x = some c → c ≠ b) ∧ ∀ p ∈ X.pn ++ pins, p.1 ≠ b) : Inv X pins σ H' s' := by
  obtain ⟨h', g', d', t', o'⟩ := s'
  have e : o' = s.os := ho
  subst e
  exact I.call (g' := g') (t' := t') (d' := d') u hok hg hch
end

/-! ### the judgements -/
/-- an exception: its class, its own dict's address (where it has one), the abstract heap behind it -/
abbrev XK := Value → Option Addr → Hp → Prop
abbrev St := List (Option V)
abbrev VK := V → Hp → Prop
/-- an expression's reading; a test's; an argument list's -/
abbrev TE := St → Hp → VK → Prop
abbrev TT := St → Hp → (Bool → Hp → Prop) → Prop
abbrev TA := St → Hp → (List V → Hp → Prop) → Prop
/-- what is wanted behind a statement -/
structure Ends where
  nx : St → Hp → Prop
  rt : VK
  bk : St → Hp → Prop := fun _ _ => False
  ct : St → Hp → Prop := fun _ _ => False
abbrev TS := Ends → St → Hp → Prop

def EP (X : Cx) (pins : List (Addr × Obj)) (σ : St) (Q : VK) (u : Value) (s' : Shared) : Prop := ∃ v H', Inv X pins σ H' s' ∧ RelV v u ∧ Q v H'
def TP (X : Cx) (pins : List (Addr × Obj)) (σ : St) (Q : Bool → Hp → Prop) (b : Bool) (s' : Shared) : Prop := ∃ H', Inv X pins σ H' s' ∧ Q b H'
def AP (X : Cx) (pins : List (Addr × Obj)) (σ : St) (Q : List V → Hp → Prop) (us : List Value) (s' : Shared) : Prop := ∃ vs H', Inv X pins σ H' s' ∧ Vals vs us ∧ Q vs H'
def SP (X : Cx) (pins : List (Addr × Obj)) (D : Ends) (f : Flow) (s' : Shared) : Prop :=
  match f with
  | .next => ∃ σ' H', Inv X pins σ' H' s' ∧ D.nx σ' H'
  | .brk => ∃ σ' H', Inv X pins σ' H' s' ∧ D.bk σ' H'
  | .cont => ∃ σ' H', Inv X pins σ' H' s' ∧ D.ct σ' H'
  | .ret u => ∃ v σ' H', Inv X pins σ' H' s' ∧ RelV v u ∧ D.rt v H'

def PE (X : Cx) (e : Expr) (t : TE) : Prop :=
  ∀ (pins : List (Addr × Obj)) (s : Shared) (σ : St) (H : Hp) (Q : VK), Inv X pins σ H s → t σ H Q → wpAny (model X.prog X.w) X.A (eval e X.env) (EP X pins σ Q) X.xe s
def PT (X : Cx) (e : Expr) (t : TT) : Prop :=
  ∀ (pins : List (Addr × Obj)) (s : Shared) (σ : St) (H : Hp) (Q : Bool → Hp → Prop), Inv X pins σ H s → t σ H Q → wpAny (model X.prog X.w) X.A (isTrue e X.env (eval e X.env)) (TP X pins σ Q) X.xe s
/-- a test whatever its 'whole' is (and, or) -/
def PW (X : Cx) (e : Expr) (t : TT) : Prop :=
  ∀ (whole : Sem Value) (pins : List (Addr × Obj)) (s : Shared) (σ : St) (H : Hp) (Q : Bool → Hp → Prop), Inv X pins σ H s → t σ H Q → wpAny (model X.prog X.w) X.A (isTrue e X.env whole) (TP X pins σ Q) X.xe s
theorem PW.pt {X : Cx} {e : Expr} {t : TT} (h : PW X e t) : PT X e t := h _
/-- an argument list (no star), from the left -/
def PA (X : Cx) (es : List Expr) (t : TA) : Prop :=
  ∀ (pos : Pos) (pins : List (Addr × Obj)) (s : Shared) (σ : St) (H : Hp) (Q : List V → Hp → Prop), Inv X pins σ H s → t σ H Q → wpAny (model X.prog X.w) X.A (spliced (backTo pos (starEach es X.env))) (AP X pins σ Q) X.xe s
def PS (X : Cx) (st : Stmt) (t : TS) : Prop :=
  ∀ (pins : List (Addr × Obj)) (s : Shared) (σ : St) (H : Hp) (D : Ends), Inv X pins σ H s → t D σ H → wpAny (model X.prog X.w) X.A (exec st X.env) (SP X pins D) X.xe s
def PSs (X : Cx) (st : List Stmt) (t : TS) : Prop :=
  ∀ (pins : List (Addr × Obj)) (s : Shared) (σ : St) (H : Hp) (D : Ends), Inv X pins σ H s → t D σ H → wpAny (model X.prog X.w) X.A (execs st X.env) (SP X pins D) X.xe s
/-- weaken the end -/
theorem thn {α : Type} {t : Sem α} {Q Q' : α → Shared → Prop} {M : Model} {A : Around} {E : Value → Shared → Prop} {s : Shared} (h : wpAny M A t Q E s) (hQ : ∀ a s, Q a s → Q' a s) : wpAny M A t Q' E s := wpAny_mono h hQ fun _ _ x => x
end L2

namespace L2
open PySem PySem.Spec PyProof.Rows
section
variable {X : Cx}

/-! ### names and constants -/
def tVar (i : Nat) : TE := fun σ H Q => ∃ v, σ[i]? = some (some v) ∧ Q v H
def tC (v : V) : TE := fun _ H Q => Q v H
theorem pe_var {i : Nat} {x : Str} {pos : Pos} (hN : X.N[i]? = some x) (hv : Vis X.env.scope x) (hd : (x == ("__debug__" : Str)) = false := by decide) (hcd : (x == ("__classdict__" : Str)) = false := by decide) : PE X (.Name x pos) (tVar i) := by
  intro pins s σ H Q I h
  obtain ⟨v, e, h⟩ := h
  obtain ⟨m, hn, hl⟩ := I.loc
  obtain ⟨u, r, l⟩ := hl i x v hN e hv
  have fin : EP X pins σ Q u s := ⟨v, H, I, r, h⟩
  rcases l with ⟨hk, hm⟩ | ⟨hk, c, hc, hcell⟩
  · exact wpAny_Name (wpAny_loadName_local I.ok.kind hk hn hm fin) hd
  · rcases hk with hk | hk
    · exact wpAny_Name (wpAny_loadName_cell I.ok.kind hk hc hcell fin) hd
    · exact wpAny_Name (wpAny_loadName_free I.ok.kind hk hc hcell fin hcd) hd
theorem pe_int {i j pos} : PE X (.Constant (.int i) j pos) (tC (.int i)) := fun _ _ _ H _ I h => wpAny_Constant_int ⟨.int i, H, I.tok _, ⟨_, rfl⟩, h⟩
theorem pe_bl {b j pos} : PE X (.Constant (.bool b) j pos) (tC (.bl b)) := fun _ _ _ H _ I h => Constant_bool ⟨.bl b, H, I, rfl, h⟩
/-- a global name of the def -/
def Gl (X : Cx) (x : Str) : Prop := X.env.kindOf x = some .globalImplicit
theorem ld_glob {E : Value → Shared → Prop} {pins : List (Addr × Obj)} {s : Shared} {σ : St} {H : Hp} {x : Str} {u : Value} {pos : Pos} {Q : Value → Shared → Prop} (I : Inv X pins σ H s) (hg : Gl X x) (hm : X.mg x = some u) (h : Q u s)
    (hd : (x == ("__debug__" : Str)) = false := by decide) : wpAny (model X.prog X.w) X.A (eval (.Name x pos) X.env) Q E s :=
  Calls.Name_function_global I.ok.kind hg (Calls.loadGlobal_global (by rw [I.ok.glob]; exact I.mod.glob.keeps I.bk) hm h) hd
theorem ld_blt {E : Value → Shared → Prop} {pins : List (Addr × Obj)} {s : Shared} {σ : St} {H : Hp} {x : Str} {u : Value} {pos : Pos} {Q : Value → Shared → Prop} (I : Inv X pins σ H s) (hg : Gl X x) (hm : X.mg x = none) (hv : bootBuiltins x = some u) (h : Q u s)
    (hn : x ≠ "__name__" := by decide) (hd : (x == ("__debug__" : Str)) = false := by decide) : wpAny (model X.prog X.w) X.A (eval (.Name x pos) X.env) Q E s := by
  obtain ⟨mb, h1, h2⟩ := I.mod.blt
  exact Calls.Name_function_global I.ok.kind hg (Calls.loadGlobal_builtin (by rw [I.ok.glob]; exact I.mod.glob.keeps I.bk) hm (by rw [I.ok.blt]; exact h1.keeps I.bk) ((h2 x hn).trans hv) h) hd
/-! ### arithmetic -/
/-- two ints -/
def t2I (ta tb : TE) (k : Int → Int → Hp → Prop) : St → Hp → Prop := fun σ H => ta σ H fun x H1 => tb σ H1 fun y H2 => ∃ i j, x = .int i ∧ y = .int j ∧ k i j H2
def tAdd (ta tb : TE) : TE := fun σ H Q => t2I ta tb (fun i j H2 => Q (.int (i + j)) H2) σ H
def tSub (ta tb : TE) : TE := fun σ H Q => t2I ta tb (fun i j H2 => Q (.int (i - j)) H2) σ H
/-- the left factor below 2^64 -/
def tMul (ta tb : TE) : TE := fun σ H Q => t2I ta tb (fun i j H2 => (-(2 ^ 64) < i ∧ i < 2 ^ 64) ∧ Q (.int (i * j)) H2) σ H
variable {a b : Expr} {ta tb : TE} {pos : Pos}
/-! ### comparisons -/
def PC (X : Cx) (op : CmpOp) (a b : Expr) (t : TE) : Prop :=
  ∀ (pins : List (Addr × Obj)) (s : Shared) (σ : St) (H : Hp) (Q : VK), Inv X pins σ H s → t σ H Q →
    wpAny (model X.prog X.w) X.A (eval a X.env) (fun v s₁ => wpAny (model X.prog X.w) X.A (eval b X.env) (fun u s₂ => wpAny (model X.prog X.w) X.A (compareOp op v u) (EP X pins σ Q) X.xe s₂) X.xe s₁) X.xe s
def tCmp (p : Int → Int → Bool) (ta tb : TE) : TE := fun σ H Q => t2I ta tb (fun i j H2 => Q (.bl (p i j)) H2) σ H
abbrev tLt : TE → TE → TE := tCmp fun i j => decide (i < j)
abbrev tLe : TE → TE → TE := tCmp fun i j => decide (i ≤ j)
abbrev tGt : TE → TE → TE := tCmp fun i j => decide (j < i)
abbrev tGe : TE → TE → TE := tCmp fun i j => decide (j ≤ i)
abbrev tEqI : TE → TE → TE := tCmp fun i j => decide (i = j)
abbrev tNeI : TE → TE → TE := tCmp fun i j => !decide (i = j)
/-- is None -/
def tIsN (ta : TE) : TE := fun σ H Q => ta σ H fun x H1 => Q (.bl (decide (x = .non))) H1
def tNotN (ta : TE) : TE := fun σ H Q => ta σ H fun x H1 => Q (.bl (!decide (x = .non))) H1
/-- a comparison as a value, as a test -/
def tB (t : TE) : TT := fun σ H Q => t σ H fun x H1 => ∃ c, x = .bl c ∧ Q c H1
/-! ### and, or, not -/
variable {tA tB' : TT} {rest : List Expr}
def tAnd (t u : TT) : TT := fun σ H Q => t σ H fun c H1 => if c = true then u σ H1 Q else Q false H1
def tOr (t u : TT) : TT := fun σ H Q => t σ H fun c H1 => if c = true then Q true H1 else u σ H1 Q
def tNot (t : TT) : TT := fun σ H Q => t σ H fun c H1 => Q (!c) H1
theorem pw_and1 (ha : PT X a tA) : PW X (.BoolOp .And [a] pos) tA := by
  intro wh pins s σ H Q I h
  refine isTrue_and (thn (ha pins s σ H Q I h) fun c s1 e => ?_)
  cases c with
  | true => exact isTrue_and_nil e
  | false => exact e
theorem pw_or1 (ha : PT X a tA) : PW X (.BoolOp .Or [a] pos) tA := by
  intro wh pins s σ H Q I h
  refine isTrue_or (thn (ha pins s σ H Q I h) fun c s1 e => ?_)
  cases c with
  | false => exact isTrue_or_nil e
  | true => exact e
theorem pw_and (ha : PT X a tA) (hb : PW X (.BoolOp .And (b :: rest) pos) tB') : PW X (.BoolOp .And (a :: b :: rest) pos) (tAnd tA tB') := by
  intro wh pins s σ H Q I h
  refine isTrue_and (thn (ha pins s σ H _ I h) fun c s1 ⟨H1, I1, q1⟩ => ?_)
  cases c with
  | true => exact hb wh pins s1 σ H1 Q I1 q1
  | false => exact ⟨H1, I1, q1⟩
theorem pw_or (ha : PT X a tA) (hb : PW X (.BoolOp .Or (b :: rest) pos) tB') : PW X (.BoolOp .Or (a :: b :: rest) pos) (tOr tA tB') := by
  intro wh pins s σ H Q I h
  refine isTrue_or (thn (ha pins s σ H _ I h) fun c s1 ⟨H1, I1, q1⟩ => ?_)
  cases c with
  | true => exact ⟨H1, I1, q1⟩
  | false => exact hb wh pins s1 σ H1 Q I1 q1
/-- .. as values (bools) -/
def tAndV (ta tb : TE) : TE := fun σ H Q => ta σ H fun x H1 => ∃ c, x = .bl c ∧ if c = true then tb σ H1 Q else Q (.bl false) H1
def tOrV (ta tb : TE) : TE := fun σ H Q => ta σ H fun x H1 => ∃ c, x = .bl c ∧ if c = true then Q (.bl true) H1 else tb σ H1 Q
def tNotV (ta : TE) : TE := fun σ H Q => ta σ H fun x H1 => ∃ c, x = .bl c ∧ Q (.bl (!c)) H1
/-- a if t else b -/
def tIf (t : TT) (ta tb : TE) : TE := fun σ H Q => t σ H fun c H1 => if c = true then ta σ H1 Q else tb σ H1 Q
theorem pe_ifExp {c : Expr} (hc : PT X c tA) (ha : PE X a ta) (hb : PE X b tb) : PE X (.IfExp c a b pos) (tIf tA ta tb) := by
  intro pins s σ H Q I h
  refine wpAny_IfExp (thn (hc pins s σ H _ I h) fun d s1 ⟨H1, I1, q1⟩ => ?_)
  cases d with
  | true => exact ha pins s1 σ H1 Q I1 q1
  | false => exact hb pins s1 σ H1 Q I1 q1
end
end L2

namespace L2
open PySem PySem.Spec PyProof.Rows

/-! ### a list, a tuple that is read: tracked, frozen, or an object of the module -/
def SqL (K : PySem.W.Frag) (H : Hp) (a : Addr) (xs : List V) : Prop :=
  Rd H a (.lst xs) ∨
    ∃ (o : Obj) (its : Array Value) (n : Nat), K.lookup a = some o ∧ o.cls = .type "list" ∧ o.dict = none ∧ o.data = .seq its n ∧ its.size ≤ sizeLine ∧ Vals xs its.toList
def SqT (K : PySem.W.Frag) (H : Hp) (a : Addr) (xs : List V) : Prop :=
  Rd H a (.tup xs) ∨
    ∃ (o : Obj) (its : Array Value) (n : Nat), K.lookup a = some o ∧ o.cls = .type "tuple" ∧ o.data = .seq its n ∧ its.size ≤ sizeLine ∧ Vals xs its.toList
def absV : Value → Option V
  | .none => some .non
  | .bool b => some (.bl b)
  | .int i _ => some (.int i)
  | .str x _ => some (.str x)
  | .bytes b _ => some (.byt b)
  | .float b _ => some (.flt b)
  | .ref a => some (.ref a)
  | .type n => some (.ty n)
  | _ => none
theorem RelV.abs {x : V} {u : Value} (r : RelV x u) : absV u = some x := by
  cases x with
  | non => cases r; rfl
  | bl _ => cases r; rfl
  | int _ => obtain ⟨t, rfl⟩ := r; rfl
  | str _ => obtain ⟨t, rfl⟩ := r; rfl
  | byt _ => obtain ⟨t, rfl⟩ := r; rfl
  | flt _ => obtain ⟨t, rfl⟩ := r; rfl
  | ref _ => cases r; rfl
  | ty _ => cases r; rfl
theorem RelV.inj {x y : V} {u : Value} (r : RelV x u) (q : RelV y u) : x = y := Option.some.inj (r.abs.symm.trans q.abs)
theorem Vals.inj : ∀ {xs ys : List V} {us : List Value}, Vals xs us → Vals ys us → xs = ys
  | _, _, _, .nil, .nil => rfl
  | _, _, _, .cons r t, .cons r' t' => by rw [r.inj r', Vals.inj t t']
section
variable {X : Cx} {pins : List (Addr × Obj)} {σ : St} {H : Hp} {s : Shared} {a : Addr} {xs ys : List V}
theorem SqL.of {K : PySem.W.Frag} (h : H a = some (.lst xs)) : SqL K H a xs := .inl (.inl h)
theorem SqT.of {K : PySem.W.Frag} (h : H a = some (.tup xs)) : SqT K H a xs := .inl (.inl h)
theorem Inv.list (I : Inv X pins σ H s) (h : SqL X.K H a xs) : ∃ its : List Value, Vals xs its ∧ PlainL s.heap a its.toArray ∧ xs.length ≤ sizeLine := by
  rcases h with h | ⟨o, its, n, hk, hc, hd, hs, hz, r⟩
  · obtain ⟨z, its, n, r, e⟩ := h.ok I.hok
    exact ⟨its, r, ⟨_, n, e, rfl, rfl, rfl⟩, z⟩
  · refine ⟨its.toList, r, ⟨o, n, I.kIn a o hk, hc, hd, by simpa using hs⟩, ?_⟩
    have e := r.length
    simp only [Array.length_toList] at e
    omega
theorem Inv.tuple (I : Inv X pins σ H s) (h : SqT X.K H a xs) : ∃ its : List Value, Vals xs its ∧ IsTup s.heap a its.toArray ∧ xs.length ≤ sizeLine := by
  rcases h with h | ⟨o, its, n, hk, hc, hs, hz, r⟩
  · obtain ⟨z, its, r, p⟩ := h.ok I.hok
    exact ⟨its, r, p, z⟩
  · refine ⟨its.toList, r, ⟨o, I.kIn a o hk, hc, n, by simpa using hs⟩, ?_⟩
    have e := r.length
    simp only [Array.length_toList] at e
    omega
theorem Inv.list_inj (I : Inv X pins σ H s) (h : SqL X.K H a xs) (h' : SqL X.K H a ys) : xs = ys := by
  obtain ⟨its, r, ⟨o, n, e, _, _, d⟩, _⟩ := I.list h
  obtain ⟨its', r', ⟨o', n', e', _, _, d'⟩, _⟩ := I.list h'
  rw [e] at e'; cases e'
  rw [d] at d'
  injection d' with d1 _
  have : its = its' := by simpa using congrArg Array.toList d1
  subst this
  exact r.inj r'
theorem Inv.tuple_inj (I : Inv X pins σ H s) (h : SqT X.K H a xs) (h' : SqT X.K H a ys) : xs = ys := by
  obtain ⟨its, r, ⟨o, e, _, n, d⟩, _⟩ := I.tuple h
  obtain ⟨its', r', ⟨o', e', _, n', d'⟩, _⟩ := I.tuple h'
  rw [e] at e'; cases e'
  rw [d] at d'
  injection d' with d1 _
  have : its = its' := by simpa using congrArg Array.toList d1
  subst this
  exact r.inj r'
end

/-! ### another wish about exceptions -/
abbrev Cx.wish (X : Cx) (E : Value → Shared → Prop) : Cx := { X with xe := E }
/-- no exception leaves -/
abbrev Cx.nox (X : Cx) : Cx := X.wish fun _ _ => False
theorem Cx.Ok.wish {X : Cx} (ok : X.Ok) (E : Value → Shared → Prop) : (X.wish E).Ok :=
  ⟨ok.mod, ok.kind, ok.glob, ok.blt, ok.above, ok.inj, ok.has, ok.cab, ok.hd, ok.frames, ok.stk, ok.exf, ok.bs, ok.bsz, ok.noex, ok.exfs, ok.funs, ok.frf⟩
theorem Cx.Ok.unwish {X : Cx} {E : Value → Shared → Prop} (ok : (X.wish E).Ok) : X.Ok :=
  ⟨ok.mod, ok.kind, ok.glob, ok.blt, ok.above, ok.inj, ok.has, ok.cab, ok.hd, ok.frames, ok.stk, ok.exf, ok.bs, ok.bsz, ok.noex, ok.exfs, ok.funs, ok.frf⟩
section
variable {X : Cx} {pins : List (Addr × Obj)} {σ : St} {H : Hp} {s : Shared} {E : Value → Shared → Prop}
theorem Inv.wish (I : Inv X pins σ H s) (E : Value → Shared → Prop) : Inv (X.wish E) pins σ H s := ⟨I.ok.wish E, I.os, I.bare, I.base, I.loc, I.cell, I.free, I.freeC, I.pin, I.hok, I.len⟩
theorem Inv.unwish (I : Inv (X.wish E) pins σ H s) : Inv X pins σ H s := ⟨I.ok.unwish, I.os, I.bare, I.base, I.loc, I.cell, I.free, I.freeC, I.pin, I.hok, I.len⟩
theorem SP.unwish {D : Ends} {f : Flow} {s' : Shared} (h : SP (X.wish E) pins D f s') : SP X pins D f s' := by
  cases f with
  | next => obtain ⟨σ', H', I, q⟩ := h; exact ⟨σ', H', I.unwish, q⟩
  | brk => obtain ⟨σ', H', I, q⟩ := h; exact ⟨σ', H', I.unwish, q⟩
  | cont => obtain ⟨σ', H', I, q⟩ := h; exact ⟨σ', H', I.unwish, q⟩
  | ret u => obtain ⟨v, σ', H', I, r, q⟩ := h; exact ⟨v, σ', H', I.unwish, r, q⟩
theorem PSs.nox {st : List Stmt} {t : TS} (h : PSs X.nox st t) : PSs X st t := fun pins s σ H D I hw =>
  wpAny_mono (h pins s σ H D (I.wish _) hw) (fun _ _ q => q.unwish) fun _ _ z => False.elim z
end

/-! ### blocks and small statements -/
section
variable {X : Cx} {st : Stmt} {rest : List Stmt} {t u : TS} {e : Expr} {te : TE} {pos : Pos}
def tNext : TS := fun D σ H => D.nx σ H
def tSeq (t u : TS) : TS := fun D σ H => t { D with nx := u D } σ H
theorem pss_nil : PSs X [] tNext := fun _ _ σ H _ I h => wpAny_execs_nil ⟨σ, H, I, h⟩
theorem pss_cons (h1 : PS X st t) (h2 : PSs X rest u) : PSs X (st :: rest) (tSeq t u) := by
  intro pins s σ H D I h
  refine wpAny_execs_cons (thn (h1 pins s σ H { D with nx := u D } I h) fun f s1 q => ?_)
  cases f with
  | next =>
    obtain ⟨σ', H', I', q⟩ := q
    exact h2 pins s1 σ' H' D I' q
  | ret v => exact q
  | brk => exact q
  | cont => exact q
theorem pss_one (h1 : PS X st t) : PSs X [st] t := by
  intro pins s σ H D I h
  refine wpAny_execs_cons (thn (h1 pins s σ H D I h) fun f s1 q => ?_)
  cases f with
  | next => exact wpAny_execs_nil q
  | ret v => exact q
  | brk => exact q
  | cont => exact q
def tBreak : TS := fun D σ H => D.bk σ H
def tCont : TS := fun D σ H => D.ct σ H
/-- in a def's body nothing is shown -/
theorem Inv.quiet {pins : List (Addr × Obj)} {σ : St} {H : Hp} {s : Shared} (I : Inv X pins σ H s) : interactive X.env = false := by simp [interactive, I.ok.kind]
/-- an expression whose value is dropped -/
def tDrop (te : TE) : TS := fun D σ H => te σ H fun _ H1 => D.nx σ H1
theorem ps_expr (he : PE X e te) (hs : swapsWith e none pos.line X.env = pure false := by rfl) : PS X (.Expr e pos) (tDrop te) := by
  intro pins s σ H D I h
  exact wpAny_Expr_any (thn (he pins s σ H _ I h) fun v s1 ⟨x, H1, I1, r1, q1⟩ => ⟨σ, H1, I1, q1⟩) I.quiet hs
def tRet (te : TE) : TS := fun D σ H => te σ H D.rt
theorem ps_ret (he : PE X e te) : PS X (.Return (some e) pos) (tRet te) := by
  intro pins s σ H D I h
  exact wpAny_Return_some (thn (he pins s σ H _ I h) fun v s1 ⟨x, H1, I1, r1, q1⟩ => ⟨x, σ, H1, I1, r1, q1⟩)
def tRetN : TS := fun D _ H => D.rt .non H
def tIfS (c : TT) (t u : TS) : TS := fun D σ H => c σ H fun b H1 => if b = true then t D σ H1 else u D σ H1
theorem ps_if {c : Expr} {a b : List Stmt} {tc : TT} (hc : PT X c tc) (ha : PSs X a t) (hb : PSs X b u) : PS X (.If c a b pos) (tIfS tc t u) := by
  intro pins s σ H D I h
  refine wpAny_If (thn (hc pins s σ H _ I h) fun d s1 ⟨H1, I1, q1⟩ => ?_)
  cases d with
  | true => exact ha pins s1 σ H1 D I1 q1
  | false => exact hb pins s1 σ H1 D I1 q1
/-- code that the proof never comes to -/
def tNever : TS := fun _ _ _ => False
end

/-! ### targets -/
abbrev TG := V → St → Hp → (St → Hp → Prop) → Prop
abbrev TGs := List V → St → Hp → (St → Hp → Prop) → Prop
def PG (X : Cx) (target : Expr) (t : TG) : Prop :=
  ∀ (pins : List (Addr × Obj)) (s : Shared) (σ : St) (H : Hp) (v : V) (u : Value) (Q : St → Hp → Prop), Inv X pins σ H s → RelV v u → t v σ H Q →
    wpAny (model X.prog X.w) X.A (assign target X.env u) (fun _ s' => ∃ σ' H', Inv X pins σ' H' s' ∧ Q σ' H') X.xe s
/-- several targets, one after another -/
def PGs (X : Cx) (ts : List Expr) (t : TGs) : Prop :=
  ∀ (pins : List (Addr × Obj)) (s : Shared) (σ : St) (H : Hp) (vs : List V) (us : List Value) (Q : St → Hp → Prop), Inv X pins σ H s → Vals vs us → t vs σ H Q →
    wpAny (model X.prog X.w) X.A (assignInOrder ((assignEach ts X.env).map (·.2)) us) (fun _ s' => ∃ σ' H', Inv X pins σ' H' s' ∧ Q σ' H') X.xe s
/-- o[i] = v, by values -/
abbrev TSet := V → V → V → Hp → (Hp → Prop) → Prop
def PSet (X : Cx) (t : TSet) : Prop :=
  ∀ (pins : List (Addr × Obj)) (s : Shared) (σ : St) (H : Hp) (o i v : V) (ov iv u : Value) (Q : Hp → Prop), Inv X pins σ H s → RelV o ov → RelV i iv → RelV v u → t o i v H Q →
    wpAny (model X.prog X.w) X.A (setItem ov iv u) (fun _ s' => ∃ H', Inv X pins σ H' s' ∧ Q H') X.xe s
/-- a op= b, by values -/
abbrev TIp := V → V → Hp → VK → Prop
def PIp (X : Cx) (op : Operator) (t : TIp) : Prop :=
  ∀ (pins : List (Addr × Obj)) (s : Shared) (σ : St) (H : Hp) (x y : V) (v u : Value) (Q : VK), Inv X pins σ H s → RelV x v → RelV y u → t x y H Q →
    wpAny (model X.prog X.w) X.A (inplaceOp op v u) (EP X pins σ Q) X.xe s
section
variable {X : Cx} {pos : Pos}
def gName (i : Nat) : TG := fun v σ H Q => Q (σ.set i (some v)) H
theorem pg_name {i : Nat} {x : Str} (hN : X.N.Nodup) (hi : X.N[i]? = some x) (hx : Loc X.env.scope x) (hf : X.fn x = true ∨ X.env.scope.names.lookup x = some .local := by first | exact .inl rfl | exact .inr rfl | assumption) : PG X (.Name x pos) (gName i) := by
  intro pins s σ H v u Q I r h
  exact wpAny_assign_Name (store_ok I hN hi hx r (fun s' I' => ⟨_, H, I', h⟩) hf)
def gNil : TGs := fun vs σ H Q => vs = [] ∧ Q σ H
def gCons (t : TG) (u : TGs) : TGs := fun vs σ H Q => ∃ v r, vs = v :: r ∧ t v σ H fun σ' H' => u r σ' H' Q
theorem pgs_nil : PGs X [] gNil := by
  intro pins s σ H vs us Q I r h
  obtain ⟨e, h⟩ := h
  subst e
  cases r
  exact assignInOrder_nil ⟨σ, H, I, h⟩
theorem pgs_cons {e : Expr} {es : List Expr} {t : TG} {u : TGs} (h1 : PG X e t) (h2 : PGs X es u)
    (hs : (assignEach (e :: es) X.env).map (·.2) = assign e X.env :: (assignEach es X.env).map (·.2) := by rfl) : PGs X (e :: es) (gCons t u) := by
  intro pins s σ H vs us Q I r h
  obtain ⟨v, vr, e1, h⟩ := h
  subst e1
  cases r with
  | cons r rr =>
    rw [hs]
    refine assignInOrder_cons (thn (h1 pins s σ H _ _ _ I r h) fun _ s1 ⟨σ1, H1, I1, q1⟩ => ?_)
    exact h2 pins s1 σ1 H1 _ _ Q I1 rr q1
/-- (a, b, ..) = a tuple of that length -/
def gTup (K : PySem.W.Frag) (n : Nat) (t : TGs) : TG := fun v σ H Q => ∃ a xs, v = .ref a ∧ SqT K H a xs ∧ xs.length = n ∧ t xs σ H Q
theorem pg_tup {es : List Expr} {k : Nat} {t : TGs} {n : Nat} (hc : X.calm = true) (h : PGs X es t)
    (hn : (assignEach es X.env).length = n := by rfl) (hst : (assignEach es X.env).findIdx? (·.1) = none := by rfl) : PG X (.Tuple es k pos) (gTup X.K n t) := by
  intro pins s σ H v u Q I r hw
  obtain ⟨a, xs, e1, hq, hl, hw⟩ := hw
  subst e1
  cases r
  obtain ⟨its, rv, ht, hz⟩ := I.tuple hq
  refine assign_Tuple_tuple (I.ok.hd hc) ht (by simp [hn, ← hl, rv.length]) hst fun h' hx => ?_
  have I1 : Inv X pins σ H { s with heap := h' } := I.kept (t' := s.toks) fun b o e => hx b o (Nat.ne_of_lt (Heap.lt_size e)) e
  exact h pins _ σ H xs _ Q I1 (by simpa using rv) hw
/-- o[i] = .. -/
def gSub (to ti : TE) (t : TSet) : TG := fun v σ H Q => to σ H fun o H1 => ti σ H1 fun i H2 => t o i v H2 fun H3 => Q σ H3
theorem pg_sub {o i : Expr} {to ti : TE} {t : TSet} (ho : PE X o to) (hi : PE X i ti) (hs : PSet X t)
    (ha : ∀ v, assign (.Subscript o i pos) X.env v = (do
      let ov ← holding [v] (eval o X.env)
      let iv ← holding [v, ov] (eval i X.env)
      standAt pos
      holding [v, ov, iv] (setItem ov iv v)
      release [v, ov, iv] []) := by intro _; rfl) : PG X (.Subscript o i pos) (gSub to ti t) := by
  intro pins s σ H v u Q I r h
  rw [ha]
  refine wpAny_bind (wpAny_holding (thn (ho pins s σ H _ I h) fun ov s1 ⟨x, H1, I1, r1, q1⟩ => ?_))
  refine wpAny_bind (wpAny_holding (thn (hi pins s1 σ H1 _ I1 q1) fun iv s2 ⟨y, H2, I2, r2, q2⟩ => ?_))
  refine wpAny_bind (wpAny_standAt (wpAny_bind (wpAny_holding (thn (hs pins s2 σ H2 x y v ov iv u _ I2 r1 r2 r q2) fun _ s3 ⟨H3, I3, q3⟩ => ?_))))
  exact wpAny_release ⟨σ, H3, I3, q3⟩
/-- target = value -/
def tAsg (te : TE) (g : TG) : TS := fun D σ H => te σ H fun x H1 => g x σ H1 D.nx
theorem ps_asg {tg e : Expr} {te : TE} {g : TG} (he : PE X e te) (hg : PG X tg g) (hs : swapsWithSole [tg] e pos.line X.env = pure false := by rfl) (hw : swappedStores [tg] e X.env = pure none := by rfl)
    (h1 : (assignEach [tg] X.env).map (·.2) = [assign tg X.env] := by rfl) : PS X (.Assign [tg] e pos) (tAsg te g) := by
  intro pins s σ H D I h
  refine wpAny_Assign_stores (thn (he pins s σ H _ I h) fun v s1 ⟨x, H1, I1, r1, q1⟩ => ?_) hs hw
  rw [h1]
  exact thn (hg pins s1 σ H1 x v _ I1 r1 q1) fun _ s2 q => q
/-- name = value -/
theorem ps_set {i : Nat} {x : Str} {e : Expr} {te : TE} {pos' : Pos} (hN : X.N.Nodup) (hi : X.N[i]? = some x) (hx : Loc X.env.scope x) (he : PE X e te) (hs : swapsWith e (some (.Name x pos')) pos.line X.env = pure false := by rfl) (hf : X.fn x = true ∨ X.env.scope.names.lookup x = some .local := by first | exact .inl rfl | exact .inr rfl | assumption) :
    PS X (.Assign [.Name x pos'] e pos) (tAsg te (gName i)) := by
  intro pins s σ H D I h
  refine wpAny_Assign_Name (thn (he pins s σ H _ I h) fun v s1 ⟨y, H1, I1, r1, q1⟩ => ?_) hs
  exact store_ok I1 hN hi hx r1 (fun s2 I2 => ⟨_, H1, I2, q1⟩) hf
/-- a, b = x, y with plain local names: stored from the right; the pair itself is not tracked (the opening rows as in PyProof/Rows/TupAssign.lean:23) -/
def tPar (i j : Nat) (ta : TA) : TS := fun D σ H => ta σ H fun vs H1 => ∃ v w, vs = [v, w] ∧ D.nx ((σ.set i (some v)).set j (some w)) H1
theorem ps_par {i j : Nat} {x y : Str} {a b : Expr} {ta : TA} {px py pt : Pos} {kt k2 pt2} (hc : X.calm = true) (hN : X.N.Nodup) (hi : X.N[i]? = some x) (hj : X.N[j]? = some y) (hij : i ≠ j)
    (hx : X.env.scope.names.lookup x = some .local) (hy : X.env.scope.names.lookup y = some .local) (ha : PA X [a, b] ta)
    (hw : swappedStores [.Tuple [.Name x px, .Name y py] kt pt] (.Tuple [a, b] k2 pt2) X.env = pure (some [x, y]))
    (hs : swapsWithSole [.Tuple [.Name x px, .Name y py] kt pt] (.Tuple [a, b] k2 pt2) pos.line X.env = pure false := by rfl) :
    PS X (.Assign [.Tuple [.Name x px, .Name y py] kt pt] (.Tuple [a, b] k2 pt2) pos) (tPar i j ta) := by
  intro pins s σ H D I h
  rw [exec_Assign_arm]
  refine wpAny_bind (wpAny_standAt ?_)
  rw [hs]
  refine wpAny_bind (wpAny_pure ?_)
  rw [if_neg (by decide)]
  refine wpAny_bind (Tuple_ (thn (ha _ pins s σ H _ I h) fun us s1 ⟨vs, H1, I1, r1, q1⟩ => ?_))
  obtain ⟨v, w, e1, q1⟩ := q1
  subst e1
  obtain ⟨u1, u2, rfl, rv, rw'⟩ : ∃ u1 u2, us = [u1, u2] ∧ RelV v u1 ∧ RelV w u2 := by
    cases r1 with
    | cons p q =>
      cases q with
      | cons p' q' =>
        cases q'
        exact ⟨_, _, rfl, p, p'⟩
  refine wpAny_newObj_type ?_ (by show 2 ≤ sizeLine; decide)
  have I2 : Inv X pins σ H1 { s1 with heap := s1.heap.push { cls := .type "tuple", data := .seq [u1, u2].toArray } } := I1.kept (t' := s1.toks) fun b o e => Heap.get?_push_of_some _ e
  rw [hw]
  refine wpAny_bind (wpAny_pure ?_)
  show wpAny (model X.prog X.w) X.A (do rule "assign.swapped-stores"; let items ← unpackItems (.ref s1.heap.objs.size) 2 none; assignInOrder [fun v => bindName X.env y v, fun v => bindName X.env x v] items.reverse; pure Flow.next) _ _ _
  refine wpAny_bind (wpAny_rule (wpAny_bind (unpackItems_tuple (items := #[u1, u2]) (I.ok.hd hc) (IsTup.new s1.heap _) fun h' hx' => ?_)))
  have I3 := I2.kept (h' := h') (t' := s1.toks) fun b o e => hx' b o (Nat.ne_of_lt (Heap.lt_size e)) e
  show wpAny _ _ (assignInOrder [fun v => bindName X.env y v, fun v => bindName X.env x v] [u2, u1] >>= fun _ => pure Flow.next) _ _ _
  refine wpAny_bind (assignInOrder_cons (wpAny_bindName (store_ok I3 hN hj (.inl hy) rw' (fun s2 I4 => ?_) (.inr hy))))
  refine assignInOrder_cons (wpAny_bindName (store_ok I4 hN hi (.inl hx) rv (fun s3 I5 => assignInOrder_nil (wpAny_pure ?_)) (.inr hx)))
  rw [List.set_comm _ _ (Ne.symm hij)] at I5
  exact ⟨_, H1, I5, q1⟩
/-- name op= e -/
def tAug (i : Nat) (te : TE) (ti : TIp) : TS := fun D σ H => ∃ x, σ[i]? = some (some x) ∧ te σ H fun y H1 => ti x y H1 fun z H2 => D.nx (σ.set i (some z)) H2
theorem ps_aug {i : Nat} {x : Str} {e : Expr} {te : TE} {op : Operator} {ti : TIp} {pos' : Pos} (hN : X.N.Nodup) (hi : X.N[i]? = some x) (hx : Loc X.env.scope x) (he : PE X e te) (ho : PIp X op ti) (hf : X.fn x = true ∨ X.env.scope.names.lookup x = some .local := by first | exact .inl rfl | exact .inr rfl | assumption) :
    PS X (.AugAssign (.Name x pos') op e pos) (tAug i te ti) := by
  intro pins s σ H D I h
  obtain ⟨v, e1, h⟩ := h
  obtain ⟨m, hn, hl⟩ := I.loc
  have vis : Vis X.env.scope x := by rcases hx with k | k; exact .inl k; exact .inr (.inl k)
  obtain ⟨u, r, l⟩ := hl i x v hi e1 vis
  refine wpAny_AugAssign_Name ?_
  have go : wpAny (model X.prog X.w) X.A (eval e X.env) (fun w s₂ => wpAny (model X.prog X.w) X.A (inplaceOp op u w) (fun r s₃ => wpAny (model X.prog X.w) X.A (storeName X.env x r) (fun _ => SP X pins D .next) X.xe s₃) X.xe s₂) X.xe s := by
    refine thn (he pins s σ H _ I h) fun w s1 ⟨y, H1, I1, r1, q1⟩ => ?_
    refine thn (ho pins s1 σ H1 v y u w _ I1 r r1 q1) fun z s2 ⟨zv, H2, I2, r2, q2⟩ => ?_
    exact store_ok I2 hN hi hx r2 (fun s3 I3 => ⟨_, H2, I3, q2⟩) hf
  rcases l with ⟨hk, hm⟩ | ⟨hk, c, hc, hcell⟩
  · exact wpAny_loadName_local I.ok.kind hk hn hm go
  · rcases hk with hk | hk
    · exact wpAny_loadName_cell I.ok.kind hk hc hcell go
    · rcases hx with k | k
      · have : X.env.scope.names.lookup x = some .free := hk
        rw [k] at this; cases this
      · have : X.env.scope.names.lookup x = some .free := hk
        rw [k] at this; cases this
/-- o[i] op= e -/
def tAugS (to ti te : TE) (tget : V → V → Hp → VK → Prop) (tip : TIp) (tset : TSet) : TS := fun D σ H => to σ H fun o H1 => ti σ H1 fun i H2 => tget o i H2 fun x H3 => te σ H3 fun y H4 => tip x y H4 fun z H5 => tset o i z H5 fun H6 => D.nx σ H6
/-- o[i], by values -/
def PGet (X : Cx) (t : V → V → Hp → VK → Prop) : Prop :=
  ∀ (pins : List (Addr × Obj)) (s : Shared) (σ : St) (H : Hp) (o i : V) (ov iv : Value) (Q : VK), Inv X pins σ H s → RelV o ov → RelV i iv → t o i H Q →
    wpAny (model X.prog X.w) X.A (getItem ov iv) (EP X pins σ Q) X.xe s
/-- ints -/
def ipI (f : Int → Int → Int) : TIp := fun x y H Q => ∃ i j, x = .int i ∧ y = .int j ∧ Q (.int (f i j)) H
theorem ip_add : PIp X .Add (ipI fun i j => i + j) := by
  intro pins s σ H x y v u Q I r1 r2 h
  obtain ⟨i, j, e1, e2, q⟩ := h
  subst e1; subst e2
  obtain ⟨t, rfl⟩ := r1
  obtain ⟨t', rfl⟩ := r2
  exact iadd_int ⟨.int _, H, I.tok _, ⟨_, rfl⟩, q⟩
end

/-! ### while -/
section
variable {X : Cx} {pos : Pos}
/-- the invariant W with its measure -/
def tWhile (c : TT) (tb : TS) : TS := fun D σ H => ∃ W : Nat → St → Hp → Prop, (∃ m, W m σ H) ∧ ∀ m σ H, W m σ H →
  c σ H fun b H1 => if b = true then ∃ N : St → Hp → Prop, (∀ σ' H', N σ' H' → ∃ m', m' < m ∧ W m' σ' H') ∧ tb { D with nx := N, ct := N, bk := D.nx } σ H1 else D.nx σ H1
theorem ps_while {c : Expr} {body : List Stmt} {tc : TT} {tb : TS} (hp : PassesOwn (model X.prog X.w) X.A X.env X.xe) (hc : PT X c tc) (hb : PSs X body tb) : PS X (.While c body [] pos) (tWhile tc tb) := by
  intro pins s σ H D I h
  obtain ⟨W, ⟨m0, w0⟩, turn⟩ := h
  refine wpAny_While (codeAny_whileLoop (fun n s' => ∃ σ' H', Inv X pins σ' H' s' ∧ W n σ' H') ?_ m0 ⟨σ, H, I, w0⟩)
  rintro n s1 ⟨σ1, H1, I1, w1⟩
  refine wpAny_passesOwn hp (thn (hc pins s1 σ1 H1 _ I1 (turn n σ1 H1 w1)) fun b s2 ⟨H2, I2, q2⟩ => ?_)
  cases b with
  | true =>
    obtain ⟨N, hN, q2⟩ := q2
    rw [if_pos rfl]
    refine wpAny_passesOwn hp (thn (hb pins s2 σ1 H2 _ I2 q2) fun f s3 q3 => ?_)
    cases f with
    | next =>
      obtain ⟨σ3, H3, I3, n3⟩ := q3
      obtain ⟨m', hm, w3⟩ := hN σ3 H3 n3
      exact ⟨m', hm, σ3, H3, I3, w3⟩
    | cont =>
      obtain ⟨σ3, H3, I3, n3⟩ := q3
      obtain ⟨m', hm, w3⟩ := hN σ3 H3 n3
      exact ⟨m', hm, σ3, H3, I3, w3⟩
    | brk => exact q3
    | ret v => exact q3
  | false =>
    rw [if_neg Bool.false_ne_true]
    exact wpAny_execs_nil ⟨σ1, H2, I2, q2⟩
end

/-! ### what a loop or a comprehension walks -/
/-- at turn i: it yields x (the heap may grow), or it stops -/
structure It where
  go : Nat → Hp → Prop
  yld : Nat → Hp → V → Hp → Prop
  stop : Nat → Hp → Prop
/-- the iterator's own objects may turn: they are not the frame's, not pinned, younger than the entry (or a comprehension's own) -/
def FpOk (X : Cx) (pins : List (Addr × Obj)) (H : Hp) (b : Addr) : Prop :=
  H b = none ∧ b ≠ X.env.locals ∧ b ∉ X.fs ∧ (b ∈ X.ex ∨ X.s₀.heap.objs.size ≤ b) ∧ (∀ x c, X.env.cells.lookup x = some c → c ≠ b) ∧ ∀ p ∈ X.pn ++ pins, p.1 ≠ b
theorem Inv.fpOk {X : Cx} {pins : List (Addr × Obj)} {σ : St} {H H' : Hp} {s : Shared} {b : Addr} (I : Inv X pins σ H s) (hb : s.heap.objs.size ≤ b) (hn : H' b = none) : FpOk X pins H' b := by
  refine ⟨hn, Nat.ne_of_gt (Nat.lt_of_lt_of_le I.lt hb), I.nofs hb, .inr (Nat.le_trans I.sz hb), fun x c e z => ?_, fun p hp z => ?_⟩
  · obtain ⟨v, q⟩ := I.cell x c e
    exact absurd (Nat.lt_of_lt_of_le q.lt (by rw [z]; exact hb)) (Nat.lt_irrefl _)
  · exact absurd (Nat.lt_of_lt_of_le (Heap.lt_size (I.pin p hp).1) (by rw [z]; exact hb)) (Nat.lt_irrefl _)
structure Turn (P : Program) (w : World) (K : PySem.W.Frag) (tg : Expr) (J : It) (fp : List Addr) (it : Addr) (tn : Nat → Heap → Prop) : Prop where
  mem : it ∈ fp
  obj : ∀ i h, tn i h → ∀ b ∈ fp, ∃ o, h.get? b = some o ∧ ∀ v, o.data ≠ .cell v
  keep : ∀ i h h', tn i h → (∀ b ∈ fp, ∀ o, h.get? b = some o → h'.get? b = some o) → tn i h'
  item : ∀ (X : Cx), X.prog = P → X.w = w → X.K = K → X.calm = true → ∀ (i : Nat) (pins : List (Addr × Obj)) (s : Shared) (σ : St) (H : Hp) (E : Value → Shared → Prop), Inv X pins σ H s → (∀ b ∈ fp, FpOk X pins H b) → tn i s.heap → J.go i H →
    wpAny (model P w) X.A (pyNext (.ref it)) (fun r s1 => ∃ u, r = some u ∧
      wpAny (model P w) X.A (letOwnedTupleGo tg (.ref it) u) (fun _ s2 => ∃ x H', Inv X pins σ H' s2 ∧ RelV x u ∧ J.yld i H x H' ∧ tn (i + 1) s2.heap ∧ ∀ b ∈ fp, H' b = none) E s1) E s
  done : ∀ (X : Cx), X.prog = P → X.w = w → X.K = K → X.calm = true → ∀ (i : Nat) (pins : List (Addr × Obj)) (s : Shared) (σ : St) (H : Hp) (E : Value → Shared → Prop), Inv X pins σ H s → (∀ b ∈ fp, FpOk X pins H b) → tn i s.heap → J.stop i H →
    wpAny (model P w) X.A (pyNext (.ref it)) (fun r s1 => r = none ∧ Inv X pins σ H s1) E s
  self : ∀ (A : Around) (i : Nat) (s : Shared) (Q : Value → Shared → Prop) (E : Value → Shared → Prop), tn i s.heap → Q (.ref it) s → wpAny (model P w) A (pyIter (.ref it)) Q E s
abbrev TI := St → Hp → (It → Hp → Prop) → Prop
/-- an iterator has come -/
def PIE (X : Cx) (pins : List (Addr × Obj)) (σ : St) (tg : Expr) (R : It → Hp → Prop) (itv : Value) (s2 : Shared) : Prop :=
  ∃ (it : Addr) (fp : List Addr) (tn : Nat → Heap → Prop) (J : It) (H' : Hp), itv = .ref it ∧ Inv X pins σ H' s2 ∧ Turn X.prog X.w X.K tg J fp it tn ∧ tn 0 s2.heap ∧ (∀ b ∈ fp, FpOk X pins H' b) ∧ R J H'
def PI (X : Cx) (tg iter : Expr) (wi : TI) : Prop :=
  ∀ (pins : List (Addr × Obj)) (s : Shared) (σ : St) (H : Hp) (R : It → Hp → Prop), Inv X pins σ H s → wi σ H R →
    wpAny (model X.prog X.w) X.A (eval iter X.env) (fun v s1 => wpAny (model X.prog X.w) X.A (pyIter v) (PIE X pins σ tg R) X.xe s1) X.xe s

/-- the step ahead of the store is nothing for an iterator that keeps no tuple -/
theorem go_of {M : Model} {A : Around} {E : Value → Shared → Prop} {s : Shared} {tg : Expr} {it : Addr} {u : Value} {o : Obj} {n : String} {vs : Array Value} {Q : Unit → Shared → Prop} (ho : s.heap.get? it = some o) (hc : o.cls = .type n) (hd : o.data = .fields vs)
    (hn : ["enumerate", "zip", "dict_itemiterator", "dict_reverseitemiterator", "odict_iterator", "itertools.zip_longest", "itertools.pairwise"].contains n = false) (hQ : Q () s) : wpAny M A (letOwnedTupleGo tg (.ref it) u) Q E s := by
  unfold letOwnedTupleGo
  cases tg <;> first
    | exact wpAny_pure hQ
    | (cases u <;> first
        | exact wpAny_pure hQ
        | (refine wpAny_bind (wpAny_load ho ?_)
           rw [hc, hd]
           show wpAny M A (if (["enumerate", "zip", "dict_itemiterator", "dict_reverseitemiterator", "odict_iterator", "itertools.zip_longest", "itertools.pairwise"].contains n && vs[0]? == some (rawInt _)) = true then _ else _) Q E s
           rw [if_neg (by intro h; rw [hn, Bool.false_and] at h; cases h)]
           exact wpAny_pure hQ))

/-- the list at a, as it stands at each turn (a loop may append to it) -/
def Itl (K : PySem.W.Frag) (a : Addr) : It :=
  ⟨fun i H => ∃ xs x, SqL K H a xs ∧ xs[i]? = some x, fun i H x H' => H' = H ∧ ∀ xs, SqL K H a xs → xs[i]? = some x, fun i H => ∃ xs, SqL K H a xs ∧ xs.length ≤ i⟩
def Itt (K : PySem.W.Frag) (a : Addr) : It :=
  ⟨fun i H => ∃ xs x, SqT K H a xs ∧ xs[i]? = some x, fun i H x H' => H' = H ∧ ∀ xs, SqT K H a xs → xs[i]? = some x, fun i H => ∃ xs, SqT K H a xs ∧ xs.length ≤ i⟩
/-- lo, lo + 1, .. (n of them) -/
def Itr (lo : Int) (n : Nat) : It := ⟨fun i _ => i < n, fun i H x H' => H' = H ∧ x = .int (lo + i), fun i _ => n ≤ i⟩
theorem turn_list {P : Program} {w : World} {K : PySem.W.Frag} {tg : Expr} (a it : Addr) : Turn P w K tg (Itl K a) [it] it (fun i h => h.IsListIter it a i) where
  mem := by simp
  obj := fun i h st b hb => by
    have e : b = it := by simpa using hb
    subst e
    obtain ⟨o, e, c, d⟩ := st
    exact ⟨o, e, fun v z => by rw [d] at z; cases z⟩
  keep := fun i h h' st k => st.at fun o e => k it (by simp) o e
  item := by
    intro X hP hw hK hc i pins s σ H E I hf st hg
    subst hP hw hK
    obtain ⟨xs, x, hq, hx⟩ := hg
    obtain ⟨its, rv, p, hz⟩ := I.list hq
    obtain ⟨u, hu, ru⟩ := rv.get hx
    obtain ⟨f0, f1, f2, f3, f4, f5⟩ := hf it (by simp)
    refine wpAny_pyNext_list_item st p.isList (x := u) (by simpa using hu) fun h' st' sb => ?_
    have I1 : Inv X pins σ H { s with heap := h' } := I.turned (t' := s.toks) (fun b o hb e => (sb.2 b hb).trans e) f0 f1 f3 f4 f5
    obtain ⟨o, e, c, d⟩ := id st'
    exact ⟨u, rfl, go_of (s := { s with heap := h' }) e c d (by decide) ⟨x, H, I1, ru, ⟨rfl, fun ys hy => by rw [I.list_inj hy hq]; exact hx⟩, st', fun b hb => (hf b hb).1⟩⟩
  done := by
    intro X hP hw hK hc i pins s σ H E I hf st hg
    subst hP hw hK
    obtain ⟨xs, hq, hx⟩ := hg
    obtain ⟨its, rv, p, hz⟩ := I.list hq
    obtain ⟨f0, f1, f2, f3, f4, f5⟩ := hf it (by simp)
    have hl := rv.length
    exact wpAny_pyNext_list_end (I.ok.hd hc) st p.isList (by simp; omega) fun h' eb => ⟨rfl, I.turned (t' := s.toks) (fun b o hb e => eb b o hb e) f0 f1 f3 f4 f5⟩
  self := fun _ _ _ _ _ st h => wpAny_pyIter_listiter st h
theorem turn_tuple {P : Program} {w : World} {K : PySem.W.Frag} {tg : Expr} (a it : Addr) : Turn P w K tg (Itt K a) [it] it (fun i h => h.IsTupleIter it a i) where
  mem := by simp
  obj := fun i h st b hb => by
    have e : b = it := by simpa using hb
    subst e
    obtain ⟨o, e, c, d⟩ := st
    exact ⟨o, e, fun v z => by rw [d] at z; cases z⟩
  keep := fun i h h' st k => st.at fun o e => k it (by simp) o e
  item := by
    intro X hP hw hK hc i pins s σ H E I hf st hg
    subst hP hw hK
    obtain ⟨xs, x, hq, hx⟩ := hg
    obtain ⟨its, rv, p, hz⟩ := I.tuple hq
    obtain ⟨u, hu, ru⟩ := rv.get hx
    obtain ⟨f0, f1, f2, f3, f4, f5⟩ := hf it (by simp)
    refine wpAny_pyNext_tuple_item st (show s.heap.IsTuple a its.toArray from p) (x := u) (by simpa using hu) fun h' st' sb => ?_
    have I1 : Inv X pins σ H { s with heap := h' } := I.turned (t' := s.toks) (fun b o hb e => (sb.2 b hb).trans e) f0 f1 f3 f4 f5
    obtain ⟨o, e, c, d⟩ := id st'
    exact ⟨u, rfl, go_of (s := { s with heap := h' }) e c d (by decide) ⟨x, H, I1, ru, ⟨rfl, fun ys hy => by rw [I.tuple_inj hy hq]; exact hx⟩, st', fun b hb => (hf b hb).1⟩⟩
  done := by
    intro X hP hw hK hc i pins s σ H E I hf st hg
    subst hP hw hK
    obtain ⟨xs, hq, hx⟩ := hg
    obtain ⟨its, rv, p, hz⟩ := I.tuple hq
    obtain ⟨f0, f1, f2, f3, f4, f5⟩ := hf it (by simp)
    have hl := rv.length
    exact wpAny_pyNext_tuple_end (I.ok.hd hc) st (show s.heap.IsTuple a its.toArray from p) (by simp; omega) fun h' eb => ⟨rfl, I.turned (t' := s.toks) (fun b o hb e => eb b o hb e) f0 f1 f3 f4 f5⟩
  self := fun _ _ _ _ _ st h => wpAny_pyIter_tupleiter st h
theorem turn_range {P : Program} {w : World} {K : PySem.W.Frag} {tg : Expr} (it : Addr) (lo : Int) (n : Nat) : Turn P w K tg (Itr lo n) [it] it (fun i h => IsRangeIter h it (lo + (i : Nat) * 1) ((n : Int) - (i : Nat)) 1) where
  mem := by simp
  obj := fun i h st b hb => by
    have e : b = it := by simpa using hb
    subst e
    exact ⟨_, st, fun v z => by
      have z' : Data.fields _ = Data.cell v := z
      cases z'⟩
  keep := fun i h h' st k => k it (by simp) _ st
  item := by
    intro X hP hw hK hc i pins s σ H E I hf st hg
    subst hP hw hK
    obtain ⟨f0, f1, f2, f3, f4, f5⟩ := hf it (by simp)
    have W := Walks.range (prog := X.prog) (w := X.w) (I.ok.hd hc) it lo 1 n
    refine W.item i s _ _ hg st fun v h' tk hv st' kk => ?_
    obtain ⟨t, rfl⟩ := hv
    have I1 : Inv X pins σ H { s with heap := h', toks := tk } := I.turned (fun b o hb e => kk b o (by simpa using hb) e) f0 f1 f3 f4 f5
    refine ⟨_, rfl, go_of (s := { s with heap := h', toks := tk }) (n := "range_iterator") st' rfl rfl (by decide) ⟨.int (lo + i), H, I1, ⟨t, ?_⟩, ⟨rfl, rfl⟩, st', fun b hb => (hf b hb).1⟩⟩
    rw [Int.mul_one]
  done := by
    intro X hP hw hK hc i pins s σ H E I hf st hg
    subst hP hw hK
    obtain ⟨f0, f1, f2, f3, f4, f5⟩ := hf it (by simp)
    exact wpAny_pyNext_range_end (I.ok.hd hc) st (by have : n ≤ i := hg; omega) fun h' eb => ⟨rfl, I.turned (t' := s.toks) (fun b o hb e => eb b o hb e) f0 f1 f3 f4 f5⟩
  self := fun _ _ _ _ _ st h => wpAny_pyIter_rangeiter st h
end L2

namespace L2
open PySem PySem.Spec PyProof.Rows
section
variable {X : Cx} {tg : Expr}
def iList (K : PySem.W.Frag) (tl : TE) : TI := fun σ H R => tl σ H fun x H1 => ∃ a, x = .ref a ∧ (∃ xs, SqL K H1 a xs) ∧ R (Itl K a) H1
def iTup (K : PySem.W.Frag) (tl : TE) : TI := fun σ H R => tl σ H fun x H1 => ∃ a, x = .ref a ∧ (∃ xs, SqT K H1 a xs) ∧ R (Itt K a) H1
theorem pi_list {l : Expr} {tl : TE} (hl : PE X l tl) : PI X tg l (iList X.K tl) := by
  intro pins s σ H R I h
  refine thn (hl pins s σ H _ I h) fun v s1 ⟨x, H1, I1, r1, q1⟩ => ?_
  obtain ⟨a, e, ⟨xs, hq⟩, q⟩ := q1
  subst e
  cases r1
  obtain ⟨its, rv, p, hz⟩ := I1.list hq
  refine wpAny_pyIter_list p.isList ?_
  refine ⟨s1.heap.objs.size, [s1.heap.objs.size], _, _, H1, rfl, I1.kept (t' := s1.toks) fun b o e => Heap.get?_push_of_some _ e, turn_list a _, ⟨_, Heap.get?_push_size _ rfl, rfl, rfl⟩, fun b hb => ?_, q⟩
  have e : b = s1.heap.objs.size := by simpa using hb
  subst e
  exact I1.fpOk (Nat.le_refl _) (I1.hok.fresh (Nat.le_refl _))
theorem pi_tup {l : Expr} {tl : TE} (hl : PE X l tl) : PI X tg l (iTup X.K tl) := by
  intro pins s σ H R I h
  refine thn (hl pins s σ H _ I h) fun v s1 ⟨x, H1, I1, r1, q1⟩ => ?_
  obtain ⟨a, e, ⟨xs, hq⟩, q⟩ := q1
  subst e
  cases r1
  obtain ⟨its, rv, p, hz⟩ := I1.tuple hq
  refine wpAny_pyIter_tuple (show s1.heap.IsTuple a its.toArray from p) ?_
  refine ⟨s1.heap.objs.size, [s1.heap.objs.size], _, _, H1, rfl, I1.kept (t' := s1.toks) fun b o e => Heap.get?_push_of_some _ e, turn_tuple a _, ⟨_, Heap.get?_push_size _ rfl, rfl, rfl⟩, fun b hb => ?_, q⟩
  have e : b = s1.heap.objs.size := by simpa using hb
  subst e
  exact I1.fpOk (Nat.le_refl _) (I1.hok.fresh (Nat.le_refl _))
/-- a range object just made, walked -/
theorem range_it {pins : List (Addr × Obj)} {σ : St} {H : Hp} {s : Shared} {R : It → Hp → Prop} {E : Value → Shared → Prop} {lo hi : Int} {t u v : Tok} {tk : Nat} (I : Inv X pins σ H s) (h1 : -(2 ^ 62) ≤ lo) (h2 : lo < 2 ^ 62) (h3 : -(2 ^ 62) ≤ hi) (h4 : hi < 2 ^ 62)
    (q : R (Itr lo (hi - lo).toNat) H) : wpAny (model X.prog X.w) X.A (pyIter (.ref s.heap.objs.size)) (PIE X pins σ tg R) E { s with heap := s.heap.push { cls := .type "range", data := .fields #[.int lo t, .int hi u, .int 1 v] }, toks := tk } := by
  refine wpAny_pyIter_range (IsRange.new ..) (small_one h1 h2 h3 h4) ?_
  have I1 : Inv X pins σ H { s with heap := s.heap.push { cls := .type "range", data := .fields #[.int lo t, .int hi u, .int 1 v] }, toks := tk } := I.kept fun b o e => Heap.get?_push_of_some _ e
  refine ⟨(s.heap.push { cls := .type "range", data := .fields #[.int lo t, .int hi u, .int 1 v] }).objs.size, [(s.heap.push { cls := .type "range", data := .fields #[.int lo t, .int hi u, .int 1 v] }).objs.size], _, _, H, rfl,
    I1.kept (t' := tk) fun b o e => Heap.get?_push_of_some _ e, turn_range _ lo (hi - lo).toNat, ?_, fun b hb => ?_, q⟩
  · have e1 : lo + ((0 : Nat) : Int) * 1 = lo := by simp
    have e2 : (((hi - lo).toNat : Nat) : Int) - ((0 : Nat) : Int) = Builtin.Range.rangeSize lo hi 1 := by rw [rangeSize_one]; split <;> omega
    show IsRangeIter _ _ (lo + ((0 : Nat) : Int) * 1) ((((hi - lo).toNat : Nat) : Int) - ((0 : Nat) : Int)) 1
    rw [e1, e2]
    exact Heap.get?_push_size _ rfl
  · have e : b = (s.heap.push { cls := .type "range", data := .fields #[.int lo t, .int hi u, .int 1 v] }).objs.size := by simpa using hb
    subst e
    exact I1.fpOk (Nat.le_refl _) (I1.hok.fresh (Nat.le_refl _))
def iRng1 (ta : TA) : TI := fun σ H R => ta σ H fun vs H1 => ∃ j : Int, vs = [.int j] ∧ -(2 ^ 62) ≤ j ∧ j < 2 ^ 62 ∧ R (Itr 0 j.toNat) H1
def iRng2 (ta : TA) : TI := fun σ H R => ta σ H fun vs H1 => ∃ i j : Int, vs = [.int i, .int j] ∧ (-(2 ^ 62) ≤ i ∧ i < 2 ^ 62 ∧ -(2 ^ 62) ≤ j ∧ j < 2 ^ 62) ∧ R (Itr i (j - i).toNat) H1
theorem pi_range1 {a : Expr} {ta : TA} {p pos : Pos} (hg : Gl X "range") (hm : X.mg "range" = none) (ha : PA X [a] ta) (hs : starEach [a] X.env = [(false, eval a X.env)] := by rfl) : PI X tg (.Call (.Name "range" p) [a] [] pos) (iRng1 ta) := by
  intro pins s σ H R I h
  refine Call_ (ld_blt I hg hm boot_range (PyProof.Rows.callWith_type1 (thn (ha pos pins s σ H _ I h) fun us s1 ⟨vs, H1, I1, r1, q1⟩ => ?_) hs rfl))
  obtain ⟨j, e, q1, q2, q⟩ := q1
  subst e
  cases r1 with
  | cons r rr =>
    cases rr
    obtain ⟨t, rfl⟩ := r
    exact call_range_1 (range_it I1 (by omega) (by omega) q1 q2 (by simpa using q))
theorem pi_range2 {a b : Expr} {ta : TA} {p pos : Pos} (hg : Gl X "range") (hm : X.mg "range" = none) (ha : PA X [a, b] ta) (hs : starEach [a, b] X.env = [(false, eval a X.env), (false, eval b X.env)] := by rfl) (hs2 : starEach [b] X.env = [(false, eval b X.env)] := by rfl) :
    PI X tg (.Call (.Name "range" p) [a, b] [] pos) (iRng2 ta) := by
  intro pins s σ H R I h
  refine Call_ (ld_blt I hg hm boot_range (PyProof.Rows.callWith_type1 (thn (ha pos pins s σ H _ I h) fun us s1 ⟨vs, H1, I1, r1, q1⟩ => ?_) (by rw [hs, hs2]) (by rw [hs2]; rfl)))
  obtain ⟨i, j, e, ⟨q1, q2, q3, q4⟩, q⟩ := q1
  subst e
  cases r1 with
  | cons r rr =>
    cases rr with
    | cons r' rr =>
      cases rr
      obtain ⟨t, rfl⟩ := r
      obtain ⟨t', rfl⟩ := r'
      exact call_range_2 (range_it I1 q1 q2 q3 q4 q)

/-! ### for -/
/-- W: the invariant by the turn and a measure; N: what the body is to reach -/
def tFor (wi : TI) (g : TG) (tb : TS) : TS := fun D σ H => wi σ H fun J H1 => ∃ W : Nat → Nat → St → Hp → Prop, (∃ m, W 0 m σ H1) ∧ ∀ i m σ H, W i m σ H →
  (J.stop i H ∧ D.nx σ H) ∨ (J.go i H ∧ ∃ N : St → Hp → Prop, (∀ σ' H', N σ' H' → ∃ m', m' < m ∧ W (i + 1) m' σ' H') ∧ ∀ x H', J.yld i H x H' → g x σ H' fun σ2 H2 => tb { D with nx := N, ct := N, bk := D.nx } σ2 H2)
/-- the records at fp as they stand -/
def pinsAt (fp : List Addr) (h : Heap) : List (Addr × Obj) := fp.filterMap fun b => (h.get? b).map fun o => (b, o)
theorem mem_pinsAt {fp : List Addr} {h : Heap} {b : Addr} {o : Obj} (hb : b ∈ fp) (e : h.get? b = some o) : (b, o) ∈ pinsAt fp h := List.mem_filterMap.mpr ⟨b, hb, by rw [e]; rfl⟩
theorem of_pinsAt {fp : List Addr} {h : Heap} {p : Addr × Obj} (hp : p ∈ pinsAt fp h) : p.1 ∈ fp ∧ h.get? p.1 = some p.2 := by
  obtain ⟨b, hb, e⟩ := List.mem_filterMap.mp hp
  cases q : h.get? b with
  | none => rw [q] at e; cases e
  | some o =>
    rw [q] at e
    have e' : (b, o) = p := Option.some.inj e
    subst e'
    exact ⟨hb, q⟩
theorem Inv.pinned {pins : List (Addr × Obj)} {σ : St} {H : Hp} {s : Shared} {fp : List Addr} (I : Inv X pins σ H s) (hf : ∀ b ∈ fp, FpOk X pins H b) (ho : ∀ b ∈ fp, ∃ o, s.heap.get? b = some o ∧ ∀ v, o.data ≠ .cell v) : Inv X (pins ++ pinsAt fp s.heap) σ H s :=
  I.pins_of fun p hp => (List.mem_append.mp hp).elim (fun z => I.pin p (List.mem_append_right _ z)) fun z => by
    obtain ⟨hb, e⟩ := of_pinsAt z
    obtain ⟨f0, f1, f2, _⟩ := hf p.1 hb
    obtain ⟨o, e', d⟩ := ho p.1 hb
    rw [e] at e'; cases e'
    exact ⟨e, f0, f1, f2, d⟩
theorem Inv.unpinned {pins pl : List (Addr × Obj)} {σ : St} {H : Hp} {s : Shared} (I : Inv X (pins ++ pl) σ H s) : Inv X pins σ H s := I.pins_of fun p hp => I.pin p (List.mem_append_right _ (List.mem_append_left _ hp))
theorem ps_for {iter : Expr} {body : List Stmt} {wi : TI} {g : TG} {tb : TS} {pos : Pos} (hp : PassesOwn (model X.prog X.w) X.A X.env X.xe) (hc : X.calm = true) (hi : PI X tg iter wi) (hg : PG X tg g) (hb : PSs X body tb)
    (hs : ∀ x, foldedSetIterable iter X.env x = pure x := by intro _; rfl) : PS X (.For tg iter body [] pos) (tFor wi g tb) := by
  intro pins s σ H D I h
  refine wpAny_For (thn (hi pins s σ H _ I h) fun v s1 h1 => thn h1 fun itv s2 h2 => ?_) hs
  obtain ⟨it, fp, tn, J, H2, e, I2, T, st2, f2, W, ⟨m0, w0⟩, turn⟩ := h2
  subst e
  -- what stays true of the iterator's objects through the loop
  have stat : ∀ {H' : Hp}, (∀ b ∈ fp, H' b = none) → ∀ b ∈ fp, FpOk X pins H' b := fun hn b hb => ⟨hn b hb, (f2 b hb).2⟩
  refine codeAny_forLoop_any (fun n s' => ∃ i σ' H', Inv X pins σ' H' s' ∧ tn i s'.heap ∧ (∀ b ∈ fp, H' b = none) ∧ W i n σ' H') ?_ m0 ⟨0, σ, H2, I2, st2, fun b hb => (f2 b hb).1, w0⟩
  rintro n s3 ⟨i, σ3, H3, I3, st3, fr3, w3⟩
  rcases turn i n σ3 H3 w3 with ⟨stop, qn⟩ | ⟨go, N, hN, step⟩
  · refine wpAny_passesOwn hp (thn (T.done X rfl rfl rfl hc i pins s3 σ3 H3 X.xe I3 (stat fr3) st3 stop) fun r s4 ⟨hr, I4⟩ => ?_)
    subst hr
    exact wpAny_execs_nil ⟨σ3, H3, I4, qn⟩
  · refine wpAny_passesOwn hp (thn (T.item X rfl rfl rfl hc i pins s3 σ3 H3 X.xe I3 (stat fr3) st3 go) fun r s4 ⟨u, hr, h4⟩ => ?_)
    subst hr
    refine wpAny_passesOwn hp (thn h4 fun _ s5 ⟨x, H5, I5, r5, y5, st5, fr5⟩ => ?_)
    have I5' := I5.pinned (stat fr5) (T.obj _ _ st5)
    refine wpAny_passesOwn hp (thn (hg _ s5 σ3 H5 x u _ I5' r5 (step x H5 y5)) fun _ s6 ⟨σ6, H6, I6, q6⟩ => ?_)
    refine wpAny_passesOwn hp (thn (hb _ s6 σ6 H6 _ I6 q6) fun f s7 q7 => ?_)
    have again : ∀ {σ7 : St} {H7 : Hp}, Inv X (pins ++ pinsAt fp s5.heap) σ7 H7 s7 → N σ7 H7 → ∃ m, m < n ∧ ∃ i σ' H', Inv X pins σ' H' s7 ∧ tn i s7.heap ∧ (∀ b ∈ fp, H' b = none) ∧ W i m σ' H' := fun {σ7 H7} I7 n7 => by
      obtain ⟨m', hm, w7⟩ := hN σ7 H7 n7
      refine ⟨m', hm, i + 1, σ7, H7, I7.unpinned, T.keep _ _ _ st5 fun b hb o e => (I7.pin (b, o) (List.mem_append_right _ (List.mem_append_right _ (mem_pinsAt hb e)))).1, fun b hb => ?_, w7⟩
      obtain ⟨o, e, d⟩ := T.obj _ _ st5 b hb
      exact (I7.pin (b, o) (List.mem_append_right _ (List.mem_append_right _ (mem_pinsAt hb e)))).2.1
    cases f with
    | next => obtain ⟨σ7, H7, I7, n7⟩ := q7; exact again I7 n7
    | cont => obtain ⟨σ7, H7, I7, n7⟩ := q7; exact again I7 n7
    | brk => obtain ⟨σ7, H7, I7, q7⟩ := q7; exact ⟨σ7, H7, I7.unpinned, q7⟩
    | ret v => obtain ⟨x7, σ7, H7, I7, r7, q7⟩ := q7; exact ⟨x7, σ7, H7, I7.unpinned, r7, q7⟩
end

theorem for_range {lo : Int} {n : Nat} {g : TG} {tb : TS} {D : Ends} {σ : St} {H : Hp} (Pv : Nat → St → Hp → Prop) (h0 : Pv 0 σ H)
    (hs : ∀ i σ H, i < n → Pv i σ H → g (.int (lo + i)) σ H fun σ2 H2 => tb { D with nx := Pv (i + 1), ct := Pv (i + 1), bk := D.nx } σ2 H2) (hd : ∀ σ H, Pv n σ H → D.nx σ H) :
    ∃ W : Nat → Nat → St → Hp → Prop, (∃ m, W 0 m σ H) ∧ ∀ i m σ H, W i m σ H →
      ((Itr lo n).stop i H ∧ D.nx σ H) ∨ ((Itr lo n).go i H ∧ ∃ N : St → Hp → Prop, (∀ σ' H', N σ' H' → ∃ m', m' < m ∧ W (i + 1) m' σ' H') ∧ ∀ x H', (Itr lo n).yld i H x H' → g x σ H' fun σ2 H2 => tb { D with nx := N, ct := N, bk := D.nx } σ2 H2) := by
  refine ⟨fun i m σ H => m = n - i ∧ i ≤ n ∧ Pv i σ H, ⟨n, by simp, Nat.zero_le _, h0⟩, ?_⟩
  rintro i m σ H ⟨rfl, hi, p⟩
  by_cases hlt : i < n
  · refine .inr ⟨hlt, Pv (i + 1), fun σ' H' p' => ⟨n - (i + 1), by omega, rfl, hlt, p'⟩, fun x H' y => ?_⟩
    obtain ⟨e, y⟩ := y
    subst e y
    exact hs i σ _ hlt p
  · have e : i = n := by omega
    subst e
    exact .inl ⟨Nat.le_refl _, hd σ H p⟩
end L2

namespace L2
open PySem PySem.Spec PyProof.Rows

abbrev R2 := V → V → Hp → VK → Prop
/-- a two-place operation on values: f is binaryOp op, inplaceOp op or compareOp op -/
def OpR (X : Cx) (f : Value → Value → Sem Value) (r : R2) : Prop :=
  ∀ (pins : List (Addr × Obj)) (s : Shared) (σ : St) (H : Hp) (x y : V) (v u : Value) (Q : VK), Inv X pins σ H s → RelV x v → RelV y u → r x y H Q →
    wpAny (model X.prog X.w) X.A (f v u) (EP X pins σ Q) X.xe s
/-- a one-place operation -/
def UnR (X : Cx) (f : Value → Sem Value) (r : V → Hp → VK → Prop) : Prop :=
  ∀ (pins : List (Addr × Obj)) (s : Shared) (σ : St) (H : Hp) (x : V) (v : Value) (Q : VK), Inv X pins σ H s → RelV x v → r x H Q →
    wpAny (model X.prog X.w) X.A (f v) (EP X pins σ Q) X.xe s
/-- a call of a value that is known (a builtin, a type) with values -/
def CallR (X : Cx) (f : Value) (r : List V → Hp → VK → Prop) : Prop :=
  ∀ (pins : List (Addr × Obj)) (s : Shared) (σ : St) (H : Hp) (xs : List V) (us : List Value) (Q : VK), Inv X pins σ H s → Vals xs us → r xs H Q →
    wpAny (model X.prog X.w) X.A (call f us) (EP X pins σ Q) X.xe s
/-- a value's truth -/
def TruR (X : Cx) (r : V → Hp → (Bool → Hp → Prop) → Prop) : Prop :=
  ∀ (pins : List (Addr × Obj)) (s : Shared) (σ : St) (H : Hp) (x : V) (v : Value) (Q : Bool → Hp → Prop), Inv X pins σ H s → RelV x v → r x H Q →
    wpAny (model X.prog X.w) X.A (truthy v) (TP X pins σ Q) X.xe s

def tOp (r : R2) (ta tb : TE) : TE := fun σ H Q => ta σ H fun x H1 => tb σ H1 fun y H2 => r x y H2 Q
def tUn (r : V → Hp → VK → Prop) (ta : TE) : TE := fun σ H Q => ta σ H fun x H1 => r x H1 Q
/-- ints in, under C, and a value out -/
def rI (C : Int → Int → Prop) (g : Int → Int → V) : R2 := fun x y H Q => ∃ i j, x = .int i ∧ y = .int j ∧ C i j ∧ Q (g i j) H
def rI0 (g : Int → Int → V) : R2 := fun x y H Q => ∃ i j, x = .int i ∧ y = .int j ∧ Q (g i j) H
def rU (g : Int → V) : V → Hp → VK → Prop := fun x H Q => ∃ i, x = .int i ∧ Q (g i) H

section
variable {X : Cx} {a b c : Expr} {ta tb tc : TE} {pos : Pos}

theorem binT (ha : PE X a ta) (hb : PE X b tb) {pins : List (Addr × Obj)} {s : Shared} {σ : St} {H : Hp} {R : V → V → Hp → Prop} (I : Inv X pins σ H s)
    (h : ta σ H fun x H1 => tb σ H1 fun y H2 => R x y H2) {Q : Value → Shared → Prop} {f : Value → Value → Sem Value}
    (hf : ∀ v u s2 x y H2, Inv X pins σ H2 s2 → RelV x v → RelV y u → R x y H2 → wpAny (model X.prog X.w) X.A (f v u) Q X.xe s2) :
    wpAny (model X.prog X.w) X.A (eval a X.env) (fun v s₁ => wpAny (model X.prog X.w) X.A (eval b X.env) (fun u s₂ => wpAny (model X.prog X.w) X.A (f v u) Q X.xe s₂) X.xe s₁) X.xe s := by
  refine thn (ha pins s σ H _ I h) fun v s1 ⟨x, H1, I1, r1, q1⟩ => ?_
  refine thn (hb pins s1 σ H1 _ I1 q1) fun u s2 ⟨y, H2, I2, r2, q2⟩ => ?_
  exact hf v u s2 x y H2 I2 r1 r2 q2

theorem pe_op {op : Operator} {r : R2} (ho : OpR X (binaryOp op) r) (ha : PE X a ta) (hb : PE X b tb) : PE X (.BinOp a op b pos) (tOp r ta tb) := by
  intro pins s σ H Q I h
  exact wpAny_BinOp (binT ha hb I h fun v u s2 x y H2 I2 rx ry q => ho pins s2 σ H2 x y v u Q I2 rx ry q)
theorem pe_un {op : UnaryOp} {r : V → Hp → VK → Prop} (ho : UnR X (unaryOp op) r) (ha : PE X a ta) : PE X (.UnaryOp op a pos) (tUn r ta) := by
  intro pins s σ H Q I h
  exact UnaryOp_ (thn (ha pins s σ H _ I h) fun v s1 ⟨x, H1, I1, r1, q1⟩ => ho pins s1 σ H1 x v Q I1 r1 q1)
/-! ### ints -/
theorem opI {f : Value → Value → Sem Value} {C : Int → Int → Prop} {g : Int → Int → Int}
    (rule : ∀ (i j : Int) (t u : Tok) (s : Shared) (Q : Value → Shared → Prop) (E : Value → Shared → Prop), C i j → Q (.int (g i j) s.toks) { s with toks := s.toks + 1 } → wpAny (model X.prog X.w) X.A (f (.int i t) (.int j u)) Q E s) :
    OpR X f (rI C fun i j => .int (g i j)) := by
  intro pins s σ H x y v u Q I rx ry h
  obtain ⟨i, j, rfl, rfl, hc, q⟩ := h
  obtain ⟨t, rfl⟩ := rx
  obtain ⟨t', rfl⟩ := ry
  exact rule i j t t' s _ _ hc ⟨.int (g i j), H, I.tok _, ⟨_, rfl⟩, q⟩
theorem opI0 {f : Value → Value → Sem Value} {g : Int → Int → Int}
    (rule : ∀ (i j : Int) (t u : Tok) (s : Shared) (Q : Value → Shared → Prop) (E : Value → Shared → Prop), Q (.int (g i j) s.toks) { s with toks := s.toks + 1 } → wpAny (model X.prog X.w) X.A (f (.int i t) (.int j u)) Q E s) :
    OpR X f (rI0 fun i j => .int (g i j)) := by
  intro pins s σ H x y v u Q I rx ry h
  obtain ⟨i, j, rfl, rfl, q⟩ := h
  obtain ⟨t, rfl⟩ := rx
  obtain ⟨t', rfl⟩ := ry
  exact rule i j t t' s _ _ ⟨.int (g i j), H, I.tok _, ⟨_, rfl⟩, q⟩
theorem opB0 {f : Value → Value → Sem Value} {g : Int → Int → Bool}
    (rule : ∀ (i j : Int) (t u : Tok) (s : Shared) (Q : Value → Shared → Prop) (E : Value → Shared → Prop), Q (.bool (g i j)) s → wpAny (model X.prog X.w) X.A (f (.int i t) (.int j u)) Q E s) :
    OpR X f (rI0 fun i j => .bl (g i j)) := by
  intro pins s σ H x y v u Q I rx ry h
  obtain ⟨i, j, rfl, rfl, q⟩ := h
  obtain ⟨t, rfl⟩ := rx
  obtain ⟨t', rfl⟩ := ry
  exact rule i j t t' s _ _ ⟨.bl (g i j), H, I, rfl, q⟩

def CDiv (i j : Int) : Prop := 0 < j ∧ j < 1073741824
def CDivN (i j : Int) : Prop := j ≠ 0 ∧ j.natAbs < 1073741824
def CPow (i j : Int) : Prop := 0 ≤ j ∧ j ≤ 1000000 ∧ i.natAbs < 2 ^ 64
def CMul (i j : Int) : Prop := (-(2 ^ 64) < i ∧ i < 2 ^ 64) ∨ (-(2 ^ 64) < j ∧ j < 2 ^ 64)
theorem CMul.ok {i j : Int} (h : CMul i j) : IntMulOk i j := by
  rcases h with ⟨h1, h2⟩ | ⟨h1, h2⟩
  · exact .of_left (intBits_le_64 h1 h2)
  · exact .of_right (intBits_le_64 h1 h2)
theorem op_add : OpR X (binaryOp .Add) (rI0 fun i j => .int (i + j)) := opI0 fun _ _ _ _ _ _ _ q => add_int q
theorem op_sub : OpR X (binaryOp .Sub) (rI0 fun i j => .int (i - j)) := opI0 fun _ _ _ _ _ _ _ q => sub_int q
theorem op_mul : OpR X (binaryOp .Mult) (rI CMul fun i j => .int (i * j)) := opI fun _ _ _ _ _ _ _ hc q => mul_int q hc.ok
/-- // by a positive divisor -/
theorem op_fdiv : OpR X (binaryOp .FloorDiv) (rI CDiv fun i j => .int (i / j)) := opI fun i j _ _ _ _ _ hc q => by
  have h1 : (0 : Int) < j := hc.1
  have h2 : j < 1073741824 := hc.2
  exact floordiv_int (by omega) (by rw [Int.fdiv_eq_ediv_of_nonneg i (by omega)]; exact q) (.inl (PyProof.noPylong_small (by omega)))
/-- % by a positive divisor of any size -/
theorem op_mod : OpR X (binaryOp .Mod) (rI (fun _ j => 0 < j) fun i j => .int (i % j)) := opI fun i j _ _ _ _ _ hc q => by
  have h1 : (0 : Int) < j := hc
  exact mod_int' (by omega) (by rw [Int.fmod_eq_emod_of_nonneg i (by omega)]; exact q)
theorem op_pow : OpR X (binaryOp .Pow) (rI CPow fun i j => .int (i ^ j.toNat)) := opI fun _ _ _ _ _ _ _ hc q => pow_int_small hc.1 hc.2.1 hc.2.2 q
theorem unI {f : Value → Sem Value} {g : Int → Int}
    (rule : ∀ (i : Int) (t : Tok) (s : Shared) (Q : Value → Shared → Prop) (E : Value → Shared → Prop), Q (.int (g i) s.toks) { s with toks := s.toks + 1 } → wpAny (model X.prog X.w) X.A (f (.int i t)) Q E s) :
    UnR X f (rU fun i => .int (g i)) := by
  intro pins s σ H x v Q I rx h
  obtain ⟨i, rfl, q⟩ := h
  obtain ⟨t, rfl⟩ := rx
  exact rule i t s _ _ ⟨.int (g i), H, I.tok _, ⟨_, rfl⟩, q⟩
theorem un_neg : UnR X (unaryOp .USub) (rU fun i => .int (-i)) := unI fun _ _ _ _ _ q => neg_int q
end

/-! ### comparisons -/
/-- the scalars that == tells apart as data does -/
def scal : V → V → Bool
  | .non, .non => true | .non, .int _ => true | .int _, .non => true | .non, .bl _ => true | .bl _, .non => true | .non, .str _ => true | .str _, .non => true
  | .int _, .int _ => true | .bl _, .bl _ => true | .str _, .str _ => true | .byt _, .byt _ => true
  | .int _, .str _ => true | .str _, .int _ => true | .bl _, .str _ => true | .str _, .bl _ => true
  | _, _ => false
def rEq : R2 := fun x y H Q => scal x y = true ∧ Q (.bl (decide (x = y))) H
def rNe : R2 := fun x y H Q => scal x y = true ∧ Q (.bl (!decide (x = y))) H

theorem dec_int {i j : Int} : decide (V.int i = V.int j) = (i == j) := by
  rw [Bool.eq_iff_iff]
  simp
theorem dec_bl {i j : Bool} : decide (V.bl i = V.bl j) = (i == j) := by
  rw [Bool.eq_iff_iff]
  simp
theorem dec_str {i j : Str} : decide (V.str i = V.str j) = (i == j) := by
  rw [Bool.eq_iff_iff]
  simp
theorem dec_byt {i j : Array UInt8} : decide (V.byt i = V.byt j) = (i.toList == j.toList) := by
  rw [Bool.eq_iff_iff]
  cases i
  cases j
  simp

section
variable {X : Cx} {a b c : Expr} {ta tb tc : TE} {pos : Pos}
theorem fin_bl {pins : List (Addr × Obj)} {σ : St} {H : Hp} {s : Shared} {Q : VK} {k k' : Bool} (I : Inv X pins σ H s) (q : Q (.bl k) H) (e : k = k') : EP X pins σ Q (.bool k') s := by
  subst e
  exact ⟨.bl k, H, I, rfl, q⟩
theorem op_eq : OpR X (compareOp .Eq) rEq := by
  intro pins s σ H x y v u Q I rx ry h
  obtain ⟨hs, q⟩ := h
  cases x with
  | non =>
    cases rx
    cases y with
    | non => cases ry; exact PySem.EqNone.eq_none_none (fin_bl I q (by simp))
    | bl j => cases ry; exact PySem.EqNone.eq_none_bool (fin_bl I q (by simp))
    | int j => obtain ⟨t', rfl⟩ := ry; exact PySem.EqNone.eq_none_int (fin_bl I q (by simp))
    | str j => obtain ⟨t', rfl⟩ := ry; exact PySem.EqNone.eq_none_str (fin_bl I q (by simp))
    | _ => exact absurd (show false = true from hs) Bool.false_ne_true
  | bl i =>
    cases rx
    cases y with
    | non => cases ry; exact PySem.EqNone.eq_bool_none (fin_bl I q (by simp))
    | bl j => cases ry; exact eq_bool (fin_bl I q dec_bl)
    | str j => obtain ⟨t', rfl⟩ := ry; exact PySem.EqMixed.eq_bool_str (fin_bl I q (by simp))
    | _ => exact absurd (show false = true from hs) Bool.false_ne_true
  | int i =>
    obtain ⟨t, rfl⟩ := rx
    cases y with
    | non => cases ry; exact PySem.EqNone.eq_int_none (fin_bl I q (by simp))
    | int j => obtain ⟨t', rfl⟩ := ry; exact eq_int (fin_bl I q dec_int)
    | str j => obtain ⟨t', rfl⟩ := ry; exact PySem.EqMixed.eq_int_str (fin_bl I q (by simp))
    | _ => exact absurd (show false = true from hs) Bool.false_ne_true
  | str i =>
    obtain ⟨t, rfl⟩ := rx
    cases y with
    | non => cases ry; exact PySem.EqNone.eq_str_none (fin_bl I q (by simp))
    | bl j => cases ry; exact PySem.EqMixed.eq_str_bool (fin_bl I q (by simp))
    | int j => obtain ⟨t', rfl⟩ := ry; exact PySem.EqMixed.eq_str_int (fin_bl I q (by simp))
    | str j => obtain ⟨t', rfl⟩ := ry; exact eq_str (fin_bl I q dec_str)
    | _ => exact absurd (show false = true from hs) Bool.false_ne_true
  | byt i =>
    obtain ⟨t, rfl⟩ := rx
    cases y with
    | byt j => obtain ⟨t', rfl⟩ := ry; exact PySem.W.eq_bytes (fin_bl I q dec_byt)
    | _ => exact absurd (show false = true from hs) Bool.false_ne_true
  | _ => cases y <;> exact absurd (show false = true from hs) Bool.false_ne_true
theorem op_ne : OpR X (compareOp .NotEq) rNe := by
  intro pins s σ H x y v u Q I rx ry h
  obtain ⟨hs, q⟩ := h
  cases x with
  | non =>
    cases rx
    cases y with
    | non => cases ry; exact PySem.EqNone.ne_none_none (fin_bl I q (by simp))
    | bl j => cases ry; exact PySem.EqNone.ne_none_bool (fin_bl I q (by simp))
    | int j => obtain ⟨t', rfl⟩ := ry; exact PySem.EqNone.ne_none_int (fin_bl I q (by simp))
    | str j => obtain ⟨t', rfl⟩ := ry; exact PySem.EqNone.ne_none_str (fin_bl I q (by simp))
    | _ => exact absurd (show false = true from hs) Bool.false_ne_true
  | bl i =>
    cases rx
    cases y with
    | non => cases ry; exact PySem.EqNone.ne_bool_none (fin_bl I q (by simp))
    | bl j => cases ry; exact ne_bool (fin_bl I q (congrArg not dec_bl))
    | str j => obtain ⟨t', rfl⟩ := ry; exact PySem.EqMixed.ne_bool_str (fin_bl I q (by simp))
    | _ => exact absurd (show false = true from hs) Bool.false_ne_true
  | int i =>
    obtain ⟨t, rfl⟩ := rx
    cases y with
    | non => cases ry; exact PySem.EqNone.ne_int_none (fin_bl I q (by simp))
    | int j => obtain ⟨t', rfl⟩ := ry; exact ne_int (fin_bl I q (congrArg not dec_int))
    | str j => obtain ⟨t', rfl⟩ := ry; exact PySem.EqMixed.ne_int_str (fin_bl I q (by simp))
    | _ => exact absurd (show false = true from hs) Bool.false_ne_true
  | str i =>
    obtain ⟨t, rfl⟩ := rx
    cases y with
    | non => cases ry; exact PySem.EqNone.ne_str_none (fin_bl I q (by simp))
    | bl j => cases ry; exact PySem.EqMixed.ne_str_bool (fin_bl I q (by simp))
    | int j => obtain ⟨t', rfl⟩ := ry; exact PySem.EqMixed.ne_str_int (fin_bl I q (by simp))
    | str j => obtain ⟨t', rfl⟩ := ry; exact ne_str (fin_bl I q (congrArg not dec_str))
    | _ => exact absurd (show false = true from hs) Bool.false_ne_true
  | byt i =>
    obtain ⟨t, rfl⟩ := rx
    cases y with
    | byt j => obtain ⟨t', rfl⟩ := ry; exact PySem.W.ne_bytes (fin_bl I q (congrArg not dec_byt))
    | _ => exact absurd (show false = true from hs) Bool.false_ne_true
  | _ => cases y <;> exact absurd (show false = true from hs) Bool.false_ne_true

theorem op_lt : OpR X (compareOp .Lt) (rI0 fun i j => .bl (decide (i < j))) := opB0 fun _ _ _ _ _ _ _ q => lt_int q
theorem op_gt : OpR X (compareOp .Gt) (rI0 fun i j => .bl (decide (j < i))) := opB0 fun _ _ _ _ _ _ _ q => gt_int q
theorem op_ge : OpR X (compareOp .GtE) (rI0 fun i j => .bl (decide (j ≤ i))) := opB0 fun _ _ _ _ _ _ _ q => ge_int q
/-- is, is not of two objects that are tracked lists or instances -/
def isObj : HO → Bool
  | .lst _ => true
  | .ins _ _ _ => true
  | _ => false
theorem nomark (b : Expr) {op : CmpOp} (h : op ≠ .In := by decide) (h2 : op ≠ .NotIn := by decide) : behindInMarks op b = false := by
  have e1 : (op == CmpOp.In) = false := by cases op <;> first | rfl | exact absurd rfl h
  have e2 : (op == CmpOp.NotIn) = false := by cases op <;> first | rfl | exact absurd rfl h2
  cases b <;> simp [behindInMarks, e1, e2]
/-- a reading of a value as a test -/
def tTest (t : TE) : TT := fun σ H Q => t σ H fun x H' => ∃ k, x = .bl k ∧ Q k H'
theorem pt_cmpR {op : CmpOp} {r : R2} (ho : OpR X (compareOp op) r) (ha : PE X a ta) (hb : PE X b tb) (hm : behindInMarks op b = false) : PT X (.Compare a [op] [b] pos) (tTest (tOp r ta tb)) := by
  intro pins s σ H Q I h
  refine wpAny_isTrue_Compare1 (thn (ha pins s σ H _ I h) fun v s1 ⟨x, H1, I1, r1, q1⟩ => thn (hb pins s1 σ H1 _ I1 q1) fun u s2 ⟨y, H2, I2, r2, q2⟩ =>
    thn (ho pins s2 σ H2 x y v u _ I2 r1 r2 q2) fun c s3 ⟨z, H3, I3, r3, k, e, q3⟩ => ?_) hm
  subst e
  cases r3
  exact wpAny_truthy_bool ⟨H3, I3, q3⟩
/-- a op1 b op2 c -/
def tChain (r r' : R2) (ta tb tc : TE) : TE := fun σ H Q => ta σ H fun x H1 => tb σ H1 fun y H2 => r x y H2 fun z H3 => ∃ k, z = .bl k ∧
  (if k = true then tc σ H3 fun w' H4 => r' y w' H4 Q else Q (.bl false) H3)
/-! ### truth -/
/-- a value's truth by the abstract heap -/
def TruV (K : PySem.W.Frag) (x : V) (H : Hp) (k : Bool) : Prop :=
  match x with
  | .non => k = false
  | .bl b => k = b
  | .int i => k = (i != 0)
  | .str y => y.length ≤ sizeLine ∧ k = ((y.length : Int) != 0)
  | .byt y => y.size ≤ sizeLine ∧ k = ((y.size : Int) != 0)
  | .ref p => (∃ xs, SqL K H p xs ∧ k = !xs.isEmpty) ∨ (∃ xs, SqT K H p xs ∧ k = !xs.isEmpty) ∨ ∃ kvs, H p = some (.dK kvs) ∧ k = !kvs.isEmpty
  | _ => False
theorem line63 : (sizeLine : Nat) < 2 ^ 63 := by rw [sizeLine_eq]; decide
def PlainIxT (b : Expr) : Prop := ∀ o i, subscripted b false o i = operate [o, i] (getItem o i)
/-! ### scalar builtins, by CallR -/
theorem vals1 {x : V} {us : List Value} (r : Vals [x] us) : ∃ u, us = [u] ∧ RelV x u := by
  cases r with
  | cons r1 r2 => cases r2; exact ⟨_, rfl, r1⟩
theorem call_abs : CallR X (.builtin "abs") (fun xs H Q => ∃ i, xs = [.int i] ∧ Q (.int (if i < 0 then -i else i)) H) := by
  intro pins s σ H xs us Q I r h
  obtain ⟨i, rfl, q⟩ := h
  obtain ⟨u, rfl, t, rfl⟩ := vals1 r
  exact call_abs_int fun u tk => ⟨.int (if i < 0 then -i else i), H, I.tok _, ⟨_, rfl⟩, q⟩
/-- len of a str, a bytes, a list, a tuple -/
def LenV (K : PySem.W.Frag) (x : V) (H : Hp) (n : Nat) : Prop :=
  match x with
  | .str y => y.length ≤ sizeLine ∧ n = y.length
  | .byt y => y.size ≤ sizeLine ∧ n = y.size
  | .ref p => (∃ xs, SqL K H p xs ∧ n = xs.length) ∨ ∃ xs, SqT K H p xs ∧ n = xs.length
  | _ => False
end
end L2

namespace L2
open PySem PySem.Spec PyProof.Rows

/-! ### an instance, its attributes a map -/
structure ObjM (h : Heap) (x dx C : Addr) (mA : Str → Option Value) : Prop where
  obj : h.get? x = some (PySem.W.instObj C dx)
  ns : h.Ns1 dx mA
  ne : dx ≠ x

section
variable {prog : Program} {w : World} {A : Around} {E : Value → Shared → Prop} {s : Shared} {K : PySem.W.Frag} {x dx C f : Addr} {mA : Str → Option Value} {name : Str} {v : Value}

end

/-! ### the attributes as a list of pairs -/
def putF (f : Str) (v : V) : List (Str × V) → List (Str × V)
  | [] => [(f, v)]
  | (g, x) :: r => if g = f then (g, v) :: r else (g, x) :: putF f v r
section
variable {P : Program} {w : World} {H H' : Hp} {h h' : Heap} {a C dx : Addr} {fs fs' : List (Str × V)}
end

/-! ### what of the text a class must have -/
structure Cls (K : PySem.W.Frag) (C : Addr) : Prop where
  pg : PySem.W.plainGet K C Str.empty = true
  hd : PySem.W.hasDictIn K C = true
  po : PySem.W.plainOver K C = true
  sa : PySem.W.findIn K (.ref C) "__setattr__" = some (some (.builtin "object.__setattr__"))
/-- no class of it has the name -/
def NoAttr (K : PySem.W.Frag) (C : Addr) (f : Str) : Prop := PySem.W.findIn K (.ref C) f = some none
/-- a constant of the class -/
structure Con (K : PySem.W.Frag) (C : Addr) (f : Str) (v : V) (u : Value) : Prop where
  at_ : PySem.W.findIn K (.ref C) f = some (some u)
  rel : RelV v u
  get : PySem.W.specialIn K u "__get__" = some none
  cp : PySem.W.copiedNames.contains f = false
/-- a method: a plain def of the class or of one above it -/
structure Meth (K : PySem.W.Frag) (C : Addr) (m : Str) (f : Addr) : Prop where
  at_ : PySem.W.findIn K (.ref C) m = some (some (.ref f))
  fn : PySem.W.isFn K (.ref f) = true
  kp : PySem.W.keepIn K (.ref f) = true

section
variable {X : Cx} {pins : List (Addr × Obj)} {σ : St} {H : Hp} {s : Shared} {a C dx : Addr} {fs : List (Str × V)} {f : Str} {v : V} {A : Around} {E : Value → Shared → Prop}

end

/-! ### readings and rules -/
/-- e.f, an attribute of the instance -/
def tFld (K : PySem.W.Frag) (ta : TE) (f : Str) : TE := fun σ H Q => ta σ H fun x H1 => ∃ a C dx fs v, x = .ref a ∧ H1 a = some (.ins C dx fs) ∧ Cls K C ∧ NoAttr K C f ∧ fs.lookup f = some v ∧ Q v H1
/-- e.f, a constant of the class -/
def tCon (K : PySem.W.Frag) (ta : TE) (f : Str) : TE := fun σ H Q => ta σ H fun x H1 => ∃ a C dx fs v u, x = .ref a ∧ H1 a = some (.ins C dx fs) ∧ Cls K C ∧ Con K C f v u ∧ fs.lookup f = none ∧ Q v H1
/-- e.f = value -/
def sFld (K : PySem.W.Frag) (ta tv : TE) (f : Str) : TS := fun D σ H => tv σ H fun y H1 => ta σ H1 fun x H2 => ∃ a C dx fs, x = .ref a ∧ H2 a = some (.ins C dx fs) ∧ Cls K C ∧ NoAttr K C f ∧ fs.length < 1000 ∧
  D.nx σ (upd H2 a (.ins C dx (putF f y fs)))
/-- an augmented operator on two values -/
def InOp (X : Cx) (op : Operator) (rd : V → V → Hp → VK → Prop) : Prop :=
  ∀ (pins : List (Addr × Obj)) (s : Shared) (σ : St) (H : Hp) (x y : V) (u v : Value) (Q : VK), Inv X pins σ H s → RelV x u → RelV y v → rd x y H Q → wpAny (model X.prog X.w) X.A (inplaceOp op u v) (EP X pins σ Q) X.xe s
/-- e.f op= value -/
def sFldAug (K : PySem.W.Frag) (ta tv : TE) (rd : V → V → Hp → VK → Prop) (f : Str) : TS := fun D σ H => ta σ H fun x H1 => ∃ a C dx fs v, x = .ref a ∧ H1 a = some (.ins C dx fs) ∧ Cls K C ∧ NoAttr K C f ∧ fs.lookup f = some v ∧
  tv σ H1 fun y H2 => rd v y H2 fun z H3 => ∃ dx' fs', H3 a = some (.ins C dx' fs') ∧ fs'.length < 1000 ∧ D.nx σ (upd H3 a (.ins C dx' (putF f z fs')))

section
variable {X : Cx} {o e value : Expr} {f : Str} {pos pos' tpos : Pos} {ta tv : TE}
def rAdd : V → V → Hp → VK → Prop := fun x y H Q => ∃ i j, x = .int i ∧ y = .int j ∧ Q (.int (i + j)) H
def rSub : V → V → Hp → VK → Prop := fun x y H Q => ∃ i j, x = .int i ∧ y = .int j ∧ Q (.int (i - j)) H
end

/-! ### isinstance -/
section
variable {X : Cx} {pins : List (Addr × Obj)} {σ : St} {H : Hp} {s : Shared} {A : Around} {E : Value → Shared → Prop} {Q : Value → Shared → Prop} {c : Value} {b : Bool}
/-- the type of a value, as the fragment's deciders take it; for an instance its class -/
inductive TyOf (K : PySem.W.Frag) (H : Hp) : V → Value → Prop where
  | non : TyOf K H .non (.type "NoneType")
  | bl (x : Bool) : TyOf K H (.bl x) (.type "bool")
  | int (i : Int) : TyOf K H (.int i) (.type "int")
  | str (x : Str) : TyOf K H (.str x) (.type "str")
  | flt (x : UInt64) : TyOf K H (.flt x) (.type "float")
  | lst {a : Addr} {xs : List V} (e : H a = some (.lst xs)) : TyOf K H (.ref a) (.type "list")
  | frz {a : Addr} {o : Obj} {xs : List V} (e : H a = some (.frz o (.lst xs))) : TyOf K H (.ref a) (.type "list")
  | tup {a : Addr} {xs : List V} (e : H a = some (.tup xs)) : TyOf K H (.ref a) (.type "tuple")
  | dK {a : Addr} {kvs : List (Key × V)} (e : H a = some (.dK kvs)) : TyOf K H (.ref a) (.type "dict")
  | dT {a : Addr} {kvs : List (List Key × V)} (e : H a = some (.dT kvs)) : TyOf K H (.ref a) (.type "dict")
  | ins {a C dx : Addr} {fs : List (Str × V)} (e : H a = some (.ins C dx fs)) (cl : Cls K C) (ha : PySem.W.findIn K (.ref C) "__class__" = some (some (.builtin "object.__class__")))
      (hn : PySem.W.specialIn K (.builtin "object.__class__") "__get__" = some (some (.builtin "getset_descriptor.__get__"))) (htk : PySem.W.takesIn K (.builtin "object.__class__") = some true)
      (hm : PySem.W.mroIn K C (.type "object") = some true) : TyOf K H (.ref a) (.ref C)
end
end L2

namespace L2
open PySem PySem.Spec PyProof.Rows

/-! ### room -/
structure Room (k : Nat) (A : Around) : Prop where
  hd : A.handled = none
  dp : A.depth + 3 * k + 5 < recursionLimit
  un : A.units + 16 * k + 200 < cLine
  gd : A.guards = some []
theorem Room.mono {j k : Nat} {A : Around} (r : Room k A) (h : j ≤ k) : Room j A := ⟨r.hd, by have := r.dp; omega, by have := r.un; omega, r.gd⟩
theorem Room.deeper {k : Nat} {A : Around} (r : Room (k + 1) A) (env : Env) : Room k (A.deeper env) :=
  ⟨r.hd, by have := r.dp; show A.depth + 1 + 3 * k + 5 < _; omega, by have := r.un; show A.units + 3 + 16 * k + 200 < _; omega, r.gd⟩
theorem Room.depth {k : Nat} {A : Around} (r : Room k A) : A.depth < recursionLimit := by have := r.dp; omega
theorem Room.units {k : Nat} {A : Around} (r : Room k A) : A.units + 64 < cLine := by have := r.un; omega
/-! ### argument lists and displays -/
def tNil : TA := fun _ H Q => Q [] H
def tCons (ta : TE) (tr : TA) : TA := fun σ H Q => ta σ H fun x H1 => tr σ H1 fun xs H2 => Q (x :: xs) H2
section
variable {X : Cx} {e : Expr} {es : List Expr} {te : TE} {t : TA} {pos : Pos}
theorem pa_nil : PA X [] tNil := fun _ _ _ _ H Q I h => Calls.spliced_nil ⟨[], H, I, .nil, h⟩
theorem pa_cons (ha : PE X e te) (hr : PA X es t) (hs : starEach (e :: es) X.env = (false, eval e X.env) :: starEach es X.env := by rfl) : PA X (e :: es) (tCons te t) := by
  intro pos pins s σ H Q I h
  rw [hs]
  show wpAny _ _ (spliced ((false, eval e X.env) :: backTo pos (starEach es X.env))) _ _ s
  refine Calls.spliced_cons (thn (ha pins s σ H _ I h) fun u s1 ⟨x, H1, I1, r1, q1⟩ => ?_)
  exact thn (hr pos pins s1 σ H1 _ I1 q1) fun us s2 ⟨xs, H2, I2, r2, q2⟩ => ⟨x :: xs, H2, I2, .cons r1 r2, q2⟩

/-- a tuple, a list of written items -/
def tTup (t : TA) : TE := fun σ H Q => t σ H fun xs H1 => xs.length ≤ sizeLine ∧ ∀ p, H1 p = none → Q (.ref p) (upd H1 p (.tup xs))
def tLst (t : TA) : TE := fun σ H Q => t σ H fun xs H1 => xs.length ≤ sizeLine ∧ ∀ p, H1 p = none → Q (.ref p) (upd H1 p (.lst xs))
theorem pe_tup {x1} (h : PA X es t) : PE X (.Tuple es x1 pos) (tTup t) := by
  intro pins s σ H Q I hq
  refine wpAny_Tuple_spliced (thn (h pos pins s σ H _ I hq) fun us s1 ⟨xs, H1, I1, r, z, q⟩ => ⟨by rw [← r.length]; exact z, ?_⟩)
  have hf : H1 s1.heap.objs.size = none := I1.hok.fresh (Nat.le_refl _)
  refine ⟨.ref s1.heap.objs.size, upd H1 s1.heap.objs.size (.tup xs), I1.laid (t' := s1.toks) (fun b u e => Heap.get?_push_of_some _ e) (Nat.le_refl _) ?_, rfl, q _ hf⟩
  exact ⟨z, us, r, ⟨_, Heap.get?_push_size _ rfl, rfl, _, rfl⟩⟩
theorem pe_lst (h : PA X es t) : PE X (.List es pos) (tLst t) := by
  intro pins s σ H Q I hq
  refine wpAny_List_spliced (thn (h pos pins s σ H _ I hq) fun us s1 ⟨xs, H1, I1, r, z, q⟩ => ⟨by rw [← r.length]; exact z, ?_⟩)
  have hf : H1 s1.heap.objs.size = none := I1.hok.fresh (Nat.le_refl _)
  refine ⟨.ref s1.heap.objs.size, upd H1 s1.heap.objs.size (.lst xs), I1.laid (t' := s1.toks) (fun b u e => Heap.get?_push_of_some _ e) (Nat.le_refl _) ?_, rfl, q _ hf⟩
  exact ⟨z, us, 0, r, Heap.get?_push_size _ rfl⟩
end

/-! ### what a def promises -/
/-- a def's promise: the bound arguments in the parameters' order, the heap, the wanted end, the wanted exception -/
abbrev Sp := List V → Hp → VK → XK → Prop
/-- how an exception lies behind a call (file 08 gives it): the callers' frames, abstract heap and state ahead of the call, the wish, the exception, the state -/
abbrev CXT := List Env → Hp → Shared → XK → Value → Shared → Prop

/-- the state at a call -/
structure Env0 (P : Program) (w : World) (K : PySem.W.Frag) (mg : Str → Option Value) (base : Heap) (A : Around) (outer : List Env) (s : Shared) (H : Hp) : Prop where
  frames : A.frames = some outer
  mod : Mod K mg base
  bs : ∀ b o, base.get? b = some o → s.heap.get? b = some o ∧ H b = none
  bsz : base.objs.size ≤ s.heap.objs.size
  funs : s.heap.FunFrames base outer
  frf : ∀ b ∈ frs outer, H b = none
  hok : HOk P w H s.heap
  bare : AllBare s.gens
/-- a call's end -/
def CE (outer : List Env) (P : Program) (w : World) (H : Hp) (s : Shared) (Q : VK) (u : Value) (s' : Shared) : Prop :=
  ∃ v H', s'.os = s.os ∧ AllBare s'.gens ∧ Un (frs outer) [] H H' s.heap s'.heap ∧ HOk P w H' s'.heap ∧ RelV v u ∧ Q v H'
def CR (CX : CXT) (outer : List Env) (P : Program) (w : World) (H : Hp) (s : Shared) (Q : VK) (E : XK) (r : Result) (s' : Shared) : Prop :=
  match r with
  | .ok (.ret u) => CE outer P w H s Q u s'
  | .ok _ => False
  | .error e => CX outer H s E e s'
structure FnOk (P : Program) (w : World) (K : PySem.W.Frag) (mg : Str → Option Value) (base : Heap) (CX : CXT) (k : Nat) (f : Addr) (fd : FuncData) (ps : List Str) (sp : Sp) : Prop where
  len : ∀ vs H Q E, sp vs H Q E → vs.length = ps.length
  run : ∀ (A : Around) (outer : List Env) (s : Shared) (H : Hp) (args : Args) (us : List Value) (vs : List V) (Q : VK) (E : XK), Room k A → Env0 P w K mg base A outer s H → BindsTo s fd args (ps.zip us) → Vals vs us → sp vs H Q E →
    codeAny (model P w) A (.call (.ref f) args) (CR CX outer P w H s Q E) s
section
variable {X : Cx} {pins : List (Addr × Obj)} {σ : St} {H : Hp} {s s' : Shared}
/-- from a body: what a callee wants -/
theorem Inv.env0 (I : Inv X pins σ H s) : Env0 X.prog X.w X.K X.mg X.base X.A X.stack s H :=
  ⟨I.ok.frames, I.ok.mod, I.bs, Nat.le_trans I.ok.bsz I.sz, I.stack, I.stkFree, I.hok, I.bare⟩
/-- behind a call -/
theorem Inv.after {Q : VK} {u : Value} (I : Inv X pins σ H s) (h : CE X.stack X.prog X.w H s Q u s') : EP X pins σ Q u s' := by
  obtain ⟨v, H', os, bare, un, hok, r, q⟩ := h
  obtain ⟨hh, g, d, t, os'⟩ := s'
  obtain rfl : os' = s.os := os
  exact ⟨v, H', I.call (h' := hh) (g' := g) (d' := d) (t' := t) (ch := []) un hok bare (fun b z => absurd z (by simp)), r, q⟩
end

/-! ### calls -/
/-- f(..): the written arguments, then the defaults dvs; E: what is wanted of an exception -/
def tCall (sp : Sp) (dvs : List V) (E : XK) (t : TA) : TE := fun σ H Q => t σ H fun vs H1 => sp (vs ++ dvs) H1 Q E
/-- o.m(..) of an instance of the class at C -/
def tMeth (C : Addr) (m : Str) (sp : Sp) (dvs : List V) (E : XK) (ta : TE) (t : TA) : TE := fun σ H Q => ta σ H fun x H1 => ∃ a dx fs, x = .ref a ∧ H1 a = some (.ins C dx fs) ∧ fs.lookup m = none ∧
  t σ H1 fun vs H2 => sp (x :: (vs ++ dvs)) H2 Q E
/-- C(..): a new instance and its dict, then __init__ -/
def tMake (C : Addr) (sp : Sp) (dvs : List V) (E : XK) (t : TA) : TE := fun σ H Q => t σ H fun vs H1 => ∀ x dx, H1 x = none → H1 dx = none → dx ≠ x →
  sp (.ref x :: (vs ++ dvs)) (upd (upd H1 dx (.own x)) x (.ins C dx [])) (fun v H2 => v = .non ∧ Q (.ref x) H2) E

/-- how the parameters are bound: us the positional arguments, kw the keywords' values by name, ds the defaults that fill up -/
def Binds (K : PySem.W.Frag) (fd : FuncData) (ps : List Str) (ds : List Value) : Prop :=
  ∀ (s : Shared) (us : List Value), K.In s.heap → (us ++ ds).length = ps.length → BindsTo s fd ⟨us, []⟩ (ps.zip (us ++ ds))
/-- every parameter is given -/
theorem Binds.all {K : PySem.W.Frag} {fd : FuncData} {ps : List Str} (h : ∀ us : List Value, us.length = ps.length → bindArgs fd ⟨us, []⟩ = pure (ps.zip us)) : Binds K fd ps [] := fun s us _ hl => by
  rw [List.append_nil] at hl ⊢
  exact .of_eq (h us hl)

/-- an exception of a callee reaches what this body wants of exceptions -/
def Passes (CX : CXT) (X : Cx) (E : XK) : Prop := ∀ (pins : List (Addr × Obj)) (σ : St) (H : Hp) (s : Shared) (e : Value) (s' : Shared), Inv X pins σ H s → CX X.stack H s E e s' → X.xe e s'

section
variable {X : Cx} {CX : CXT} {k : Nat} {f C : Addr} {fd : FuncData} {ps : List Str} {sp : Sp} {dvs : List V} {ds : List Value} {E : XK} {x m : Str} {p pos apos : Pos} {e o : Expr} {es : List Expr} {ta : TE} {t : TA}

/-- the callee runs -/
theorem run_fn {pins : List (Addr × Obj)} {σ : St} {H : Hp} {s : Shared} {Q : VK} {us : List Value} {vs : List V} (F : FnOk X.prog X.w X.K X.mg X.base CX k f fd ps sp) (hr : Room k X.A) (hb : Binds X.K fd ps ds) (hd : Vals dvs ds) (hx : Passes CX X E)
    (I : Inv X pins σ H s) (r : Vals vs us) (h : sp (vs ++ dvs) H Q E) : wpAny (model X.prog X.w) X.A (call (.ref f) us) (EP X pins σ Q) X.xe s := by
  have r2 : Vals (vs ++ dvs) (us ++ ds) := r.append hd
  have hl : (us ++ ds).length = ps.length := by rw [← r2.length]; exact F.len _ _ _ _ h
  refine wpAny_call (codeAny_mono (F.run X.A X.stack s H ⟨us, []⟩ (us ++ ds) (vs ++ dvs) Q E hr I.env0 (hb s us I.kIn hl) r2 h) fun r s' hq => ?_)
  cases r with
  | error e => exact hx pins σ H s e s' I hq
  | ok fl =>
    cases fl with
    | ret u => exact I.after hq
    | next => exact False.elim hq
    | brk => exact False.elim hq
    | cont => exact False.elim hq

theorem pe_call (F : FnOk X.prog X.w X.K X.mg X.base CX k f fd ps sp) (hr : Room k X.A) (hg : Gl X x) (hm : X.mg x = some (.ref f)) (hk : PySem.W.keepIn X.K (.ref f) = true) (hb : Binds X.K fd ps ds) (hd : Vals dvs ds) (hx : Passes CX X E)
    (ha : PA X (e :: es) t) (hdb : (x == ("__debug__" : Str)) = false := by decide) (he : starEach (e :: es) X.env = (false, eval e X.env) :: starEach es X.env := by rfl) (hpl : (backTo pos (starEach es X.env)).any (·.1) = false := by rfl) :
    PE X (.Call (.Name x p) (e :: es) [] pos) (tCall sp dvs E t) := by
  intro pins s σ H Q I h
  refine wpAny_Call_Name_kw (ld_glob I hg hm ?_ hdb)
  refine PySem.W.callWith_K (h₀ := X.base) I.ok.mod.kin hk (thn (ha pos pins s σ H _ I h) fun us s1 ⟨vs, H1, I1, r, q⟩ => ⟨I1.kIn, ?_⟩) he hpl
  exact run_fn F hr hb hd hx I1 r q
/-- what a class must have to be made -/
structure Mk (K : PySem.W.Frag) (C f : Addr) : Prop where
  makes : PySem.W.makesIn K C = true
  init : PySem.W.findIn K (.ref C) "__init__" = some (some (.ref f))
  fn : PySem.W.isFn K (.ref f) = true
  kp : PySem.W.keepIn K (.ref C) = true

end

/-! ### keywords -/
/-- the values of the keywords, from the left -/
def PK (X : Cx) (kws : List Keyword) (t : TA) : Prop :=
  ∀ (pos : Pos) (pins : List (Addr × Obj)) (s : Shared) (σ : St) (H : Hp) (Q : List V → Hp → Prop), Inv X pins σ H s → t σ H Q → wpAny (model X.prog X.w) X.A (evalAll ((backToKw pos (keywordEach kws X.env)).map (·.2))) (AP X pins σ Q) X.xe s
section
variable {X : Cx} {CX : CXT} {k : Nat} {f C : Addr} {fd : FuncData} {ps ks : List Str} {sp : Sp} {E : XK} {x m : Str} {p pos apos kpos : Pos} {e o : Expr} {es : List Expr} {kws : List Keyword} {te ta : TE} {t tk : TA} {nm : Option Str}
/-- how a call with keywords binds: g puts the positional values us and the keywords' values ws (names ks) in the parameters' order, defaults among them -/
structure KBinds (K : PySem.W.Frag) (fd : FuncData) (ps ks : List Str) (g : List Value → List Value → List Value) (gV : List V → List V → List V) : Prop where
  to : ∀ (s : Shared) (us ws : List Value), K.In s.heap → (g us ws).length = ps.length → BindsTo s fd ⟨us, ks.zip ws⟩ (ps.zip (g us ws))
  rel : ∀ {vs : List V} {us : List Value} {zs : List V} {ws : List Value}, Vals vs us → Vals zs ws → Vals (gV vs zs) (g us ws)
def tCallK (sp : Sp) (gV : List V → List V → List V) (E : XK) (t tk : TA) : TE := fun σ H Q => t σ H fun vs H1 => tk σ H1 fun zs H2 => sp (gV vs zs) H2 Q E
variable {g : List Value → List Value → List Value} {gV : List V → List V → List V}
end

/-! ### a def's body keeps its promise -/
/-- names: the parameters first -/
structure FnScope (N P : List Str) (sc : Scope) : Prop where
  kind : sc.kind = .function
  co : sc.isCoroutine = false
  gen : sc.isGenerator = false
  nd : N.Nodup
  pre : N.take P.length = P
  par : ∀ x ∈ P, sc.names.lookup x = some .local ∨ sc.names.lookup x = some .cell
  nofree : ∀ y ∈ sc.names, y.2 ≠ .free

theorem bindL_out {kindOf : Str → Option NameKind} {x : Str} : ∀ {binds : List (Str × Value)} {m : Str → Option Value}, (∀ v, (x, v) ∉ binds) → bindL kindOf binds m x = m x
  | [], _, _ => rfl
  | (n, v) :: r, m, h => by
    unfold bindL
    rw [bindL_out fun w hw => h w (List.mem_cons_of_mem _ hw)]
    split
    · have : x ≠ n := by rintro rfl; exact h v List.mem_cons_self
      simp [this]
    · rfl
theorem bindC_out {kindOf : Str → Option NameKind} {x : Str} : ∀ {binds : List (Str × Value)} {m : Str → Option Value}, (∀ v, (x, v) ∉ binds) → bindC kindOf binds m x = m x
  | [], _, _ => rfl
  | (n, v) :: r, m, h => by
    unfold bindC
    rw [bindC_out fun w hw => h w (List.mem_cons_of_mem _ hw)]
    split
    · rfl
    · have : x ≠ n := by rintro rfl; exact h v List.mem_cons_self
      simp [this]
theorem bindL_get {kindOf : Str → Option NameKind} {x : Str} {v : Value} : ∀ {P : List Str} {vs : List Value} {i : Nat} {m : Str → Option Value}, P.Nodup → P[i]? = some x → vs[i]? = some v → kindOf x = some .local →
    bindL kindOf (P.zip vs) m x = some v
  | [], _, _, _, _, h, _, _ => by simp at h
  | _ :: _, [], _, _, _, _, h, _ => by simp at h
  | p :: P, w :: vs, 0, m, nd, h1, h2, hk => by
    simp at h1 h2; subst h1; subst h2
    show bindL kindOf ((p, w) :: P.zip vs) m p = _
    unfold bindL
    rw [bindL_out fun v hv => (List.nodup_cons.mp nd).1 (List.of_mem_zip hv).1, if_pos hk]
    simp
  | p :: P, w :: vs, i + 1, m, nd, h1, h2, hk => by
    show bindL kindOf ((p, w) :: P.zip vs) m x = _
    unfold bindL
    exact bindL_get (i := i) (List.nodup_cons.mp nd).2 (by simpa using h1) (by simpa using h2) hk
theorem bindC_get {kindOf : Str → Option NameKind} {x : Str} {v : Value} : ∀ {P : List Str} {vs : List Value} {i : Nat} {m : Str → Option Value}, P.Nodup → P[i]? = some x → vs[i]? = some v → kindOf x ≠ some .local →
    bindC kindOf (P.zip vs) m x = some v
  | [], _, _, _, _, h, _, _ => by simp at h
  | _ :: _, [], _, _, _, _, h, _ => by simp at h
  | p :: P, w :: vs, 0, m, nd, h1, h2, hk => by
    simp at h1 h2; subst h1; subst h2
    show bindC kindOf ((p, w) :: P.zip vs) m p = _
    unfold bindC
    rw [bindC_out fun v hv => (List.nodup_cons.mp nd).1 (List.of_mem_zip hv).1, if_neg hk]
    simp
  | p :: P, w :: vs, i + 1, m, nd, h1, h2, hk => by
    show bindC kindOf ((p, w) :: P.zip vs) m x = _
    unfold bindC
    exact bindC_get (i := i) (List.nodup_cons.mp nd).2 (by simpa using h1) (by simpa using h2) hk

/-- the names' values at the entry -/
def start (N : List Str) (vs : List V) : St := vs.map some ++ List.replicate (N.length - vs.length) none

/-- the context of a def's body, at its entry; an exception leaves the frame, then lies as CX says -/
def cxOf (CX : CXT) (P : Program) (w : World) (K : PySem.W.Frag) (mg : Str → Option Value) (base : Heap) (N : List Str) (qual : Str) (scope : Scope) (f : Addr) (cd : Value) (A : Around) (outer : List Env) (s : Shared) (H : Hp) (E : XK) : Cx where
  prog := P
  w := w
  K := K
  mg := mg
  base := base
  A := A.deeper (envOfC qual scope s.heap.objs.size f cd)
  N := N
  s₀ := s
  H₀ := H
  env := envOfC qual scope s.heap.objs.size f cd
  outer := outer
  stack := envOfC qual scope s.heap.objs.size f cd :: outer
  ex := []
  calm := true
  fn := fun _ => true
  pn := []
  xe := fun e s' => wpAny (model P w) (A.deeper (envOfC qual scope s.heap.objs.size f cd)) (leaving (envOfC qual scope s.heap.objs.size f cd) e) (fun _ s'' => CX outer H s E e s'') (fun e' s'' => CX outer H s E e' s'') s'

theorem cell_has {sc : Scope} {n : Nat} {x : Str} (h : sc.names.lookup x = some .cell) : ∃ c, (cellsFrom n sc.names []).lookup x = some c := by
  have q := PySem.W.cellsFrom_some sc.names n [] (.inl h)
  exact Option.isSome_iff_exists.mp q

theorem inv_start {CX : CXT} {P : Program} {w : World} {K : PySem.W.Frag} {mg : Str → Option Value} {base : Heap} {N ps : List Str} {qual : Str} {scope : Scope} {f : Addr} {cd : Value} {A : Around} {outer : List Env} {s s1 : Shared} {H : Hp} {E : XK} {us : List Value} {vs : List V}
    (S : FnScope N ps scope) (hd : A.handled = none) (e0 : Env0 P w K mg base A outer s H) (hl : vs.length = ps.length) (r : Vals vs us)
    (x : InCallC s s.heap.objs.size (bindL (envOfC qual scope s.heap.objs.size f cd).kindOf (ps.zip us) fun _ => none) (cellsFrom (s.heap.objs.size + 1) scope.names []) (bindC (envOfC qual scope s.heap.objs.size f cd).kindOf (ps.zip us) fun _ => none) s1) :
    Inv (cxOf CX P w K mg base N qual scope f cd A outer s H E) [] (start N vs) H s1 := by
  have hpl : ps.length ≤ N.length := by have := congrArg List.length S.pre; rw [List.length_take] at this; omega
  obtain ⟨h1, tk, rfl, hk⟩ := x.done
  have noA : ∀ b : Addr, b ∉ (cxOf CX P w K mg base N qual scope f cd A outer s H E).ex := fun b z => absurd (show b ∈ ([] : List Addr) from z) (by simp)
  refine ⟨⟨e0.mod, S.kind, rfl, rfl, Nat.le_refl _, fun y z c h1 h2 => ?_, fun y hy => ?_, fun y c _ h => ?_, fun _ => hd, Around.frames_deeper e0.frames, .inr ⟨rfl, rfl⟩, fun b z => absurd z (noA b), e0.bs, e0.bsz, fun b _ _ => noA b, fun b z => absurd z (noA b), e0.funs, e0.frf⟩,
    rfl, e0.bare, Un.kept hk, ⟨_, x.toInCall.ns, fun i y v h1 h2 h3 => ?_⟩, fun y c h => ⟨_, x.cell y c h⟩, e0.hok.fresh (Nat.le_refl _), fun y c h => ?_, fun p hp => absurd (show p ∈ ([] : List (Addr × Obj)) from hp) (by simp), e0.hok.kept hk, ?_⟩
  · exact name_of_addr x.apart (PySem.mem_of_lookup h1) (PySem.mem_of_lookup h2)
  · have hy : scope.names.lookup y = some .cell ∨ scope.names.lookup y = some .free := hy
    rcases hy with hy | hy
    · exact cell_has hy
    · exact absurd rfl (S.nofree _ (PySem.mem_of_lookup hy))
  · exact Nat.le_of_lt (x.above y c (PySem.mem_of_lookup h))
  · have hi : i < vs.length := by
      unfold start at h2
      by_cases hi : i < vs.length
      · exact hi
      · rw [List.getElem?_append_right (by simpa using hi)] at h2
        rw [List.getElem?_replicate] at h2
        split at h2 <;> cases h2
    have ha : vs[i]? = some v := by
      unfold start at h2
      rw [List.getElem?_append_left (by simpa using hi), List.getElem?_map] at h2
      cases e : vs[i]? with
      | none => rw [e] at h2; cases h2
      | some a => rw [e] at h2; cases h2; rfl
    obtain ⟨u, hu, rv⟩ := r.get ha
    have hp : ps[i]? = some y := by
      rw [← S.pre, List.getElem?_take_of_lt (by omega)]; exact h1
    have ndP : ps.Nodup := by rw [← S.pre]; exact S.nd.sublist (List.take_sublist _ _)
    refine ⟨u, rv, ?_⟩
    rcases S.par y (List.mem_of_getElem? hp) with k | k
    · exact .inl ⟨k, bindL_get ndP hp hu k⟩
    · obtain ⟨c, e⟩ := cell_has (n := s.heap.objs.size + 1) k
      refine .inr ⟨.inl k, c, e, ?_⟩
      have q := x.cell y c e
      rw [bindC_get ndP hp hu (by show scope.names.lookup y ≠ _; rw [k]; decide)] at q
      exact q
  · exact e0.hok.fresh (Nat.le_of_lt (x.above y c (PySem.mem_of_lookup h)))
  · unfold start
    show _ = N.length
    rw [List.length_append, List.length_map, List.length_replicate]
    omega

/-- THE RULE: a def (or a method) of the text, by its body. The body's reading t is chosen for each entry; it is run at the parameters' values -/
theorem fn_of {CX : CXT} {P : Program} {w : World} {K : PySem.W.Frag} {mg : Str → Option Value} {base : Heap} {k : Nat} {f : Addr} {name qual : Str} {params : Arguments} {body : List Stmt} {scope : Scope} {dV kV doc pm cdv ct oc : Value} {an od : Option Addr}
    {osl : Array (Option Value)} {N ps : List Str} {sp : Sp} (lk : K.lookup f = some ⟨oc, od, .func (PySem.W.fnOf name qual params body scope dV kV doc pm an cdv ct), osl⟩) (hcd : PySem.W.codeIn K cdv qual = true) (S : FnScope N ps scope)
    (len : ∀ vs H Q E, sp vs H Q E → vs.length = ps.length)
    (hbody : ∀ (A : Around) (outer : List Env) (s : Shared) (H : Hp) (vs : List V) (Q : VK) (E : XK), Room k (A.deeper (envOfC qual scope s.heap.objs.size f cdv)) → sp vs H Q E →
      ∃ t, PSs (cxOf CX P w K mg base N qual scope f cdv A outer s H E) body t ∧ t { nx := fun _ H' => Q .non H', rt := Q } (start N vs) H) :
    FnOk P w K mg base CX (k + 1) f (PySem.W.fnOf name qual params body scope dV kV doc pm an cdv ct) ps sp := by
  refine ⟨len, fun A outer s H args us vs Q E hr e0 hb r hsp => ?_⟩
  have hl := len _ _ _ _ hsp
  have KX : K.In s.heap := e0.mod.kin.keeps fun b o e => (e0.bs b o e).1
  have lim : s.heap.NoLimit := e0.mod.nolimit.keeps fun b o e => (e0.bs b o e).1
  have hkind : ∀ y ∈ ps.zip us, scope.names.lookup y.1 = some .local ∨ (scope.names.lookup y.1 = some .cell ∧ ((cellsFrom (s.heap.objs.size + 1) scope.names []).lookup y.1).isSome = true) := fun ⟨n, v⟩ hy => by
    rcases S.par n (List.of_mem_zip hy).1 with q | q
    · exact .inl q
    · exact .inr ⟨q, PySem.W.cellsFrom_some _ _ _ (.inl q)⟩
  refine codeAny_call_function hr.depth (KX _ _ lk) rfl S.co S.gen rfl (PySem.W.codeRec_of KX hcd) (hb _ _ _ _ ?_)
  refine wpAny_newFunctionEnv_cells S.kind hkind fun env he s1 x => ?_
  subst he
  refine ⟨lim.keeps x.toInCall.keep, codeAny_func ?_⟩
  obtain ⟨t, ht, hq⟩ := hbody A outer s H vs Q E (hr.deeper _) hsp
  have I : Inv (cxOf CX P w K mg base N qual scope f cdv A outer s H E) [] (start N vs) H s1 := inv_start S hr.hd e0 hl r x
  refine wpAny_mono (ht [] s1 (start N vs) H _ I hq) (fun fl s' hs => ?_) fun e s' hs => hs
  have fin : ∀ {σ' : St} {H' : Hp} {v : V} {u : Value}, Inv (cxOf CX P w K mg base N qual scope f cdv A outer s H E) [] σ' H' s' → RelV v u → Q v H' → CE outer P w H s Q u s' :=
    fun {σ' H' v u} J rv q => ⟨v, H', J.os, J.bare, J.base, J.hok, rv, q⟩
  cases fl with
  | ret u =>
    obtain ⟨v, σ', H', J, rv, q⟩ := hs
    exact fin J rv q
  | next =>
    obtain ⟨σ', H', J, q⟩ := hs
    exact fin (v := V.non) (u := Value.none) J rfl q
  | brk =>
    obtain ⟨_, _, _, q⟩ := hs
    exact False.elim q
  | cont =>
    obtain ⟨_, _, _, q⟩ := hs
    exact False.elim q
end L2

namespace L2
open PySem PySem.Spec PyProof.Rows
section
variable {X : Cx} {x : Str} {p pos : Pos} {e : Expr} {es : List Expr} {t : TA} {id T : String} {r : List V → Hp → VK → Prop}

def tCB (r : List V → Hp → VK → Prop) (t : TA) : TE := fun σ H Q => t σ H fun vs H1 => r vs H1 Q
/-- f(e, ..), f a built-in function -/
theorem pe_callB (hc : CallR X (.builtin id) r) (hg : Gl X x) (hm : X.mg x = none) (hv : bootBuiltins x = some (.builtin id)) (ha : PA X (e :: es) t) (hn : x ≠ "__name__" := by decide) (hdb : (x == ("__debug__" : Str)) = false := by decide)
    (he : starEach (e :: es) X.env = (false, eval e X.env) :: starEach es X.env := by rfl) (hpl : (backTo pos (starEach es X.env)).any (·.1) = false := by rfl) : PE X (.Call (.Name x p) (e :: es) [] pos) (tCB r t) := by
  intro pins s σ H Q I h
  refine wpAny_Call_Name_kw (ld_blt I hg hm hv ?_ hn hdb)
  exact PyProof.Rows.callWith_builtin1 (thn (ha pos pins s σ H _ I h) fun us s1 ⟨vs, H1, I1, r1, q1⟩ => hc pins s1 σ H1 vs us Q I1 r1 q1) he hpl
/-- T(e, ..), T a built-in type -/
theorem pe_callTy (hc : CallR X (.type T) r) (hg : Gl X x) (hm : X.mg x = none) (hv : bootBuiltins x = some (.type T)) (ha : PA X (e :: es) t) (hn : x ≠ "__name__" := by decide) (hdb : (x == ("__debug__" : Str)) = false := by decide)
    (he : starEach (e :: es) X.env = (false, eval e X.env) :: starEach es X.env := by rfl) (hpl : (backTo pos (starEach es X.env)).any (·.1) = false := by rfl) : PE X (.Call (.Name x p) (e :: es) [] pos) (tCB r t) := by
  intro pins s σ H Q I h
  refine wpAny_Call_Name_kw (ld_blt I hg hm hv ?_ hn hdb)
  exact PyProof.Rows.callWith_type1 (thn (ha pos pins s σ H _ I h) fun us s1 ⟨vs, H1, I1, r1, q1⟩ => hc pins s1 σ H1 vs us Q I1 r1 q1) he hpl
end
end L2

namespace HT
open PySem PyProof.Rows

/-- t < u of tuples of ints -/
def lexLt : List Int → List Int → Bool
  | [], [] => false
  | [], _ :: _ => true
  | _ :: _, [] => false
  | x :: xs, y :: ys => if x = y then lexLt xs ys else decide (x < y)
section
open PySem.SeqAt
open PySem.AutoSeq1 (wpAny_loadPart')
open PySem.MeetsSeq PySem.MeetsSeq2 PySem.MeetsSeq3

end

section
variable {prog : Program} {w : World} {A : Around} {E : Value → Shared → Prop} {s : Shared}

/-! ### t[a:b], not the whole -/
/-- a slice's bound as a place among n (d where it is left out) -/
def sIx (n d : Nat) : Option Int → Nat
  | none => d
  | some v => if v < 0 then (v + (n : Int)).toNat else min v.toNat n
theorem sIx_nat (n d k : Nat) : sIx n d (some (k : Int)) = min k n := by
  show (if (k : Int) < 0 then ((k : Int) + (n : Int)).toNat else min (k : Int).toNat n) = min k n
  rw [if_neg (by omega), Int.toNat_natCast]
end
end HT

namespace L2
open PySem PySem.Spec PyProof.Rows

/-! ### the parts of a slice -/
abbrev TO := St → Hp → (Option Int → Hp → Prop) → Prop
/-- a slice's part (left out, or an int) -/
def PO (X : Cx) (e : Option Expr) (t : TO) : Prop :=
  ∀ (pins : List (Addr × Obj)) (s : Shared) (σ : St) (H : Hp) (Q : Option Int → Hp → Prop), Inv X pins σ H s → t σ H Q →
    wpAny (model X.prog X.w) X.A (evalPart e X.env) (fun u s' => ∃ o H', Inv X pins σ H' s' ∧ IsPart u o ∧ Q o H') X.xe s
def tNoPart : TO := fun _ H Q => Q none H
def tPart (t : TE) : TO := fun σ H Q => t σ H fun x H1 => ∃ i, x = .int i ∧ Q (some i) H1

section
variable {X : Cx} {e : Expr} {te : TE} {lo hi : Option Expr} {tl th : TO} {pos p2 : Pos}

theorem po_none : PO X none tNoPart := by
  intro pins s σ H Q I h
  rw [evalPart_none]
  exact wpAny_pure ⟨none, H, I, .none, h⟩
theorem po_some (h : PE X e te) : PO X (some e) (tPart te) := by
  intro pins s σ H Q I hw
  rw [evalPart_some]
  refine thn (h pins s σ H _ I hw) fun u s1 ⟨x, H1, I1, r1, q1⟩ => ?_
  obtain ⟨i, rfl, q⟩ := q1
  obtain ⟨t, rfl⟩ := r1
  exact ⟨some i, H1, I1, .int i t, q⟩

/-- what a slice of a value is, by values: the slice object stands at sl -/
def SlR (X : Cx) (r : V → Option Int → Option Int → Hp → VK → Prop) : Prop :=
  ∀ (pins : List (Addr × Obj)) (s : Shared) (σ : St) (H : Hp) (x : V) (v vl vu : Value) (lo hi : Option Int) (sl : Addr) (Q : VK), Inv X pins σ H s → RelV x v → s.heap.IsSliceOf sl vl vu .none → IsPart vl lo → IsPart vu hi → r x lo hi H Q →
    ∃ T id, typeLookup (.type T) "__getitem__" = pure (some (.builtin id)) ∧ s.TypeIs v T ∧ wpAny (model X.prog X.w) X.A (getItem v (.ref sl)) (EP X pins σ Q) X.xe s
def tSl (r : V → Option Int → Option Int → Hp → VK → Prop) (te : TE) (tl th : TO) : TE := fun σ H Q => te σ H fun x H1 => tl σ H1 fun l H2 => th σ H2 fun u H3 => r x l u H3 Q
/-- a[lo:hi], any a -/
theorem pe_slice {r : V → Option Int → Option Int → Hp → VK → Prop} (hr : SlR X r) (he : PE X e te) (hl : PO X lo tl) (hu : PO X hi th) : PE X (.Subscript e (.Slice lo hi none p2) pos) (tSl r te tl th) := by
  intro pins s σ H Q I h
  refine Subscript_ (thn (he pins s σ H _ I h) fun v s1 ⟨x, H1, I1, r1, q1⟩ => ?_)
  refine wpAny_Slice (thn (hl pins s1 σ H1 _ I1 q1) fun vl s2 ⟨l, H2, I2, pl, q2⟩ => thn (hu pins s2 σ H2 _ I2 q2) fun vu s3 ⟨u, H3, I3, pu, q3⟩ => ?_)
  rw [evalPart_none]
  refine wpAny_pure ?_
  have I4 : Inv X pins σ H3 { s3 with heap := s3.heap.push { cls := .type "slice", data := .fields #[vl, vu, .none] } } := I3.kept (t' := s3.toks) fun b ob q => Heap.get?_push_of_some _ q
  obtain ⟨T, id, hT, ht, hg⟩ := hr pins { s3 with heap := s3.heap.push { cls := .type "slice", data := .fields #[vl, vu, .none] } } σ H3 x v vl vu l u s3.heap.objs.size Q I4 r1 (Heap.IsSliceOf.new ..) pl pu q3
  show wpAny (model X.prog X.w) X.A (subscriptTail e (.Slice lo hi none p2) v (.ref s3.heap.objs.size)) (EP X pins σ Q) X.xe { s3 with heap := s3.heap.push { cls := .type "slice", data := .fields #[vl, vu, .none] } }
  exact tail_any (ops := [.ref s3.heap.objs.size, v]) ht hT hg (by with_unfolding_all rfl)

/-- the items of xs[lo:hi] -/
def cutV (xs : List V) (lo hi : Option Int) : List V := (xs.drop (HT.sIx xs.length 0 lo)).take (HT.sIx xs.length xs.length hi - HT.sIx xs.length 0 lo)
theorem cutV_length (xs : List V) (lo hi : Option Int) : (cutV xs lo hi).length ≤ xs.length := by
  unfold cutV
  rw [List.length_take, List.length_drop]
  omega
/-- t[lo:hi], not the whole of it (the whole would be t itself) -/
def rSlT (K : PySem.W.Frag) : V → Option Int → Option Int → Hp → VK → Prop := fun x lo hi H Q => ∃ a xs, x = .ref a ∧ SqT K H a xs ∧
  ¬ (HT.sIx xs.length 0 lo = 0 ∧ HT.sIx xs.length xs.length hi = xs.length) ∧ ∀ p, H p = none → Q (.ref p) (upd H p (.tup (cutV xs lo hi)))
/-! ### t < u, t + u -/
def rLtT (K : PySem.W.Frag) : R2 := fun x y H Q => ∃ a b ns ms, x = .ref a ∧ y = .ref b ∧ SqT K H a (ns.map V.int) ∧ SqT K H b (ms.map V.int) ∧ Q (.bl (HT.lexLt ns ms)) H
/-- t + u, t not empty: u empty gives t itself -/
def rCatT (K : PySem.W.Frag) : R2 := fun x y H Q => ∃ a b xs ys, x = .ref a ∧ y = .ref b ∧ SqT K H a xs ∧ SqT K H b ys ∧ xs ≠ [] ∧ xs.length + ys.length ≤ sizeLine ∧
  (ys = [] → Q (.ref a) H) ∧ (ys ≠ [] → ∀ p, H p = none → Q (.ref p) (upd H p (.tup (xs ++ ys))))
end
end L2

namespace L2
open PySem PySem.Spec PyProof.Rows

/-! ### places -/
/-- the place that an index of any sign means -/
def ixN (n : Nat) (i : Int) : Option Nat := if 0 ≤ i then (if i < n then some i.toNat else none) else if -(n : Int) ≤ i then some (i + n).toNat else none
def atI {α : Type} (xs : List α) (i : Int) : Option α := (ixN xs.length i).bind fun j => xs[j]?
theorem ixN_seq {n : Nat} {i : Int} {j : Nat} (h : ixN n i = some j) : seqIndex? i n = some j ∧ j < n ∧ -(n : Int) ≤ i ∧ i < n := by
  unfold ixN at h
  by_cases h0 : 0 ≤ i
  · rw [if_pos h0] at h
    by_cases h1 : i < n
    · rw [if_pos h1] at h
      have e : i.toNat = j := Option.some.inj h
      exact ⟨by rw [seqIndex_of h0 h1, e], by omega, by omega, h1⟩
    · rw [if_neg h1] at h; cases h
  · rw [if_neg h0] at h
    by_cases h1 : -(n : Int) ≤ i
    · rw [if_pos h1] at h
      have e : (i + n).toNat = j := Option.some.inj h
      exact ⟨by rw [seqIndex_neg (by omega) h1, e], by omega, h1, by omega⟩
    · rw [if_neg h1] at h; cases h
theorem atI_get {α : Type} {xs : List α} {i : Int} {v : α} (h : atI xs i = some v) : ∃ j, seqIndex? i xs.length = some j ∧ xs[j]? = some v ∧ j < xs.length ∧ -(xs.length : Int) ≤ i ∧ i < xs.length := by
  unfold atI at h
  cases e : ixN xs.length i with
  | none => rw [e] at h; cases h
  | some j =>
    rw [e] at h
    obtain ⟨h1, h2, h3, h4⟩ := ixN_seq e
    exact ⟨j, h1, h, h2, h3, h4⟩
theorem atI_nat {α : Type} {xs : List α} {j : Nat} {v : α} (h : xs[j]? = some v) : atI xs (j : Int) = some v := by
  have hj : j < xs.length := (List.getElem?_eq_some_iff.mp h).1
  have e : ixN xs.length (j : Int) = some j := by
    unfold ixN
    rw [if_pos (by omega), if_pos (by omega)]; simp
  unfold atI; rw [e]; exact h
theorem atI_last {α : Type} (xs : List α) (v : α) : atI (xs ++ [v]) (-1) = some v := by
  have hl : (xs ++ [v]).length = xs.length + 1 := by simp
  have e : ixN (xs ++ [v]).length (-1) = some xs.length := by
    unfold ixN
    rw [hl, if_neg (by decide), if_pos (by omega)]
    congr 1
    omega
  unfold atI
  rw [e]
  show (xs ++ [v])[xs.length]? = some v
  simp

/-! ### what may be subscripted -/
/-- what stands as an index of a plain subscript -/
def PlainIx (b : Expr) : Prop := ∀ o i, subscripted b false o i = operate [o, i] (getItem o i)
/-- a subscript by values -/
def IxR (X : Cx) (r : R2) : Prop :=
  ∀ (value slice : Expr) (pins : List (Addr × Obj)) (s : Shared) (σ : St) (H : Hp) (x y : V) (v u : Value) (Q : VK), Inv X pins σ H s → RelV x v → RelV y u → r x y H Q →
    subscripted slice false v u = operate [v, u] (getItem v u) → wpAny (model X.prog X.w) X.A (subscriptTail value slice v u) (EP X pins σ Q) X.xe s
/-- a call of a builtin's method by values: the receiver, the arguments -/
def MtR (X : Cx) (id : String) (r : V → List V → Hp → VK → Prop) : Prop :=
  ∀ (pins : List (Addr × Obj)) (s : Shared) (σ : St) (H : Hp) (x : V) (xs : List V) (v : Value) (us : List Value) (Q : VK), Inv X pins σ H s → RelV x v → Vals xs us → r x xs H Q →
    wpAny (model X.prog X.w) X.A (call (.builtin id) (v :: us)) (EP X pins σ Q) X.xe s
section
variable {X : Cx} {a b : Expr} {ta tb : TE} {pos : Pos}
/-- a[b] -/
theorem pe_ix {r : R2} (hr : IxR X r) (ha : PE X a ta) (hb : PE X b tb) (hs : PlainIx b) : PE X (.Subscript a b pos) (tOp r ta tb) := by
  intro pins s σ H Q I h
  exact Subscript_ (binT ha hb I h fun v u s2 x y H2 I2 rx ry q => hr a b pins s2 σ H2 x y v u Q I2 rx ry q (hs _ _))

def rIxL (K : PySem.W.Frag) : R2 := fun x y H Q => ∃ p xs i v, x = .ref p ∧ y = .int i ∧ SqL K H p xs ∧ atI xs i = some v ∧ Q v H
def rIxT (K : PySem.W.Frag) : R2 := fun x y H Q => ∃ p xs i v, x = .ref p ∧ y = .int i ∧ SqT K H p xs ∧ atI xs i = some v ∧ Q v H
def rIxS : R2 := fun x y H Q => ∃ z i c, x = .str z ∧ y = .int i ∧ z.length ≤ sizeLine ∧ atI z.cps.toList i = some c ∧ Q (.str ⟨#[c]⟩) H
theorem ix_list : IxR X (rIxL X.K) := by
  intro value slice pins s σ H x y v u Q I rx ry h hs
  obtain ⟨p, xs, i, z, rfl, rfl, hq, he, q⟩ := h
  cases rx
  obtain ⟨t, rfl⟩ := ry
  obtain ⟨its, r, pl, hz⟩ := I.list hq
  obtain ⟨j, h1, h2, h3, h4, h5⟩ := atI_get he
  obtain ⟨w, ew, rw'⟩ := r.get h2
  have hl := r.length
  have hn := line63
  have fin : EP X pins σ Q w s := ⟨z, H, I, rw', q⟩
  by_cases h0 : 0 ≤ i
  · have hj : i.toNat = j := by
      rw [seqIndex_of h0 h5] at h1
      exact Option.some.inj h1
    exact item_listR pl.isList h0 (by omega) (by rw [hj]; simpa using ew) fin hs
  · have hj : (i + (its.toArray.size : Int)).toNat = j := by
      rw [seqIndex_neg (by omega) h4] at h1
      rw [List.size_toArray, ← hl]
      exact Option.some.inj h1
    exact subscriptTail_builtinR (x := w) pl.isList.typeIs slot_list_getitem.lookup
      (wpAny_getItem_list_neg (Q := fun r s' => r = w ∧ EP X pins σ Q r s') pl.isList (by omega) (by rw [List.size_toArray] <;> omega) (by omega) (by rw [hj]; simpa using ew) ⟨rfl, fin⟩) hs
theorem ix_tup : IxR X (rIxT X.K) := by
  intro value slice pins s σ H x y v u Q I rx ry h hs
  obtain ⟨p, xs, i, z, rfl, rfl, hq, he, q⟩ := h
  cases rx
  obtain ⟨t, rfl⟩ := ry
  obtain ⟨its, r, pl, hz⟩ := I.tuple hq
  obtain ⟨j, h1, h2, h3, h4, h5⟩ := atI_get he
  obtain ⟨w, ew, rw'⟩ := r.get h2
  have hl := r.length
  have hn := line63
  have fin : EP X pins σ Q w s := ⟨z, H, I, rw', q⟩
  exact subscriptTail_builtinR (x := w) pl.typeIs slot_tuple_getitem.lookup
    (getItem_tuple (j := j) (Q := fun r s' => r = w ∧ EP X pins σ Q r s') pl (by omega) (by omega) (by rw [List.size_toArray, ← hl]; exact h1) (by simpa using ew) ⟨rfl, fin⟩) hs
/-- list, tuple or str -/
def rIx (K : PySem.W.Frag) : R2 := fun x y H Q => rIxL K x y H Q ∨ rIxT K x y H Q ∨ rIxS x y H Q
/-! ### xs[i] = v, any sign -/
/-- the list's object behind a store -/
theorem mapSeq_set (its : List Value) (n j : Nat) (u : Value) : Obj.mapSeq (·.setIfInBounds j u) { cls := .type "list", data := .seq its.toArray n } = { cls := .type "list", data := .seq (its.set j u).toArray n } := by
  simp [Obj.mapSeq]
theorem Inv.lst {pins : List (Addr × Obj)} {σ : St} {H : Hp} {s : Shared} {p : Addr} {xs : List V} (I : Inv X pins σ H s) (h : H p = some (.lst xs)) :
    ∃ (its : List Value) (n : Nat), Vals xs its ∧ s.heap.get? p = some { cls := .type "list", data := .seq its.toArray n } ∧ xs.length ≤ sizeLine := by
  obtain ⟨z, its, n, r, e⟩ := I.hok p _ h
  exact ⟨its, n, r, e, z⟩
/-- the list at p is written by an update of its object -/
theorem Inv.lstUpd {pins : List (Addr × Obj)} {σ : St} {H : Hp} {s : Shared} {p : Addr} {xs ys : List V} {its its' : List Value} {n n' : Nat} {f : Obj → Obj} (I : Inv X pins σ H s) (h : H p = some (.lst xs))
    (ho : s.heap.get? p = some { cls := .type "list", data := .seq its.toArray n }) (hf : f { cls := .type "list", data := .seq its.toArray n } = { cls := .type "list", data := .seq its'.toArray n' }) (r : Vals ys its') (hz : ys.length ≤ sizeLine) (t : Nat) :
    Inv X pins σ (upd H p (.lst ys)) { s with heap := s.heap.update p f, toks := t } := by
  have e : (s.heap.update p f).get? p = some { cls := .type "list", data := .seq its'.toArray n' } := by
    rw [Heap.get?_update_self f ho (by rw [hf] <;> rfl), hf]
  refine I.write (x := p) (e := p) (by rw [h]; trivial) (.inl rfl) (fun b u hb q => (Heap.get?_update_other _ _ (Ne.symm hb)).trans q) ⟨_, e⟩ ?_
  exact ⟨hz, its', n', r, e⟩
def rSetL : V → V → V → Hp → (Hp → Prop) → Prop := fun o i v H Q => ∃ p xs k j, o = .ref p ∧ i = .int k ∧ H p = some (.lst xs) ∧ ixN xs.length k = some j ∧ Q (upd H p (.lst (xs.set j v)))
theorem set_list : PSet X rSetL := by
  intro pins s σ H o i v ov iv u Q I ro ri rv h
  obtain ⟨p, xs, k, j, rfl, rfl, hp, hj, q⟩ := h
  cases ro
  obtain ⟨t, rfl⟩ := ri
  obtain ⟨its, n, r, ho, hz⟩ := I.lst hp
  obtain ⟨h1, h2, h3, h4⟩ := ixN_seq hj
  have hl := r.length
  have hn := line63
  have I' : Inv X pins σ (upd H p (.lst (xs.set j v))) { s with heap := s.heap.update p (Obj.mapSeq (·.setIfInBounds j u)) } :=
    I.lstUpd hp ho (mapSeq_set its n j u) (r.set rv j) (by rw [List.length_set]; exact hz) s.toks
  by_cases h0 : 0 ≤ k
  · have hk : k.toNat = j := by
      rw [seqIndex_of h0 h4] at h1
      exact Option.some.inj h1
    exact PySem.W.ki_setAt ho h0 (by omega) (by rw [List.size_toArray, ← hl]; exact h4) (by rw [hk]; exact ⟨_, I', q⟩)
  · have hk : (k + (its.toArray.size : Int)).toNat = j := by
      rw [seqIndex_neg (by omega) h3] at h1
      rw [List.size_toArray, ← hl]
      exact Option.some.inj h1
    exact PySem.W.ki_setBack ho (by omega) (by rw [List.size_toArray, ← hl]; exact h3) (by omega) (by rw [hk]; exact ⟨_, I', q⟩)

/-! ### slices -/
theorem slice_bounds (lo hi : Option Int) (n : Nat) : (sliceBounds lo hi none n).1 = ((HT.sIx n 0 lo : Nat) : Int) ∧ (sliceBounds lo hi none n).2.1 = ((HT.sIx n n hi : Nat) : Int) ∧ (sliceBounds lo hi none n).2.2 = 1 := by
  refine ⟨?_, ?_, rfl⟩
  · cases lo with
    | none => simp [sliceBounds, HT.sIx]
    | some i =>
      simp only [sliceBounds, HT.sIx, Option.getD_none, show (1 : Int) > 0 by decide, if_true]
      by_cases h : i < 0
      · simp only [h, if_true] <;> omega
      · simp only [h, if_false] <;> omega
  · cases hi with
    | none => simp [sliceBounds, HT.sIx]
    | some i =>
      simp only [sliceBounds, HT.sIx, Option.getD_none, show (1 : Int) > 0 by decide, if_true]
      by_cases h : i < 0
      · simp only [h, if_true] <;> omega
      · simp only [h, if_false] <;> omega
theorem slicePick_cut (its : List Value) (lo hi : Option Int) : slicePick its.toArray lo hi none = ((its.drop (HT.sIx its.length 0 lo)).take (HT.sIx its.length its.length hi - HT.sIx its.length 0 lo)).toArray := by
  obtain ⟨h1, h2, h3⟩ := slice_bounds lo hi its.toArray.size
  unfold slicePick
  rw [h1, h2, h3]
  simp only [sliceRange_one, pick_run, List.size_toArray] <;> rfl
/-- xs[lo:hi] of a list: a new list -/
def rSlL (K : PySem.W.Frag) : V → Option Int → Option Int → Hp → VK → Prop := fun x lo hi H Q => ∃ a xs, x = .ref a ∧ SqL K H a xs ∧ ∀ p, H p = none → Q (.ref p) (upd H p (.lst (cutV xs lo hi)))
theorem sl_list : SlR X (rSlL X.K) := by
  intro pins s σ H x v vl vu lo hi sl Q I rx hs pl pu h
  obtain ⟨a, xs, rfl, hx, q⟩ := h
  cases rx
  obtain ⟨its, r, ht, hz⟩ := I.list hx
  have hlen := r.length
  refine ⟨"list", _, slot_list_getitem.lookup, ht.isList.typeIs, ?_⟩
  refine wpAny_getItem_list_slice ht.isList hs pl pu .none (by simp) ?_ (by rw [List.size_toArray] <;> omega)
  rw [slicePick_cut, ← hlen]
  refine ⟨.ref s.heap.objs.size, _, I.laid (t' := s.toks) (o := .lst (cutV xs lo hi)) (fun b ob q => Heap.get?_push_of_some _ q) (Nat.le_refl _) ?_, rfl, q _ (I.hok.fresh (Nat.le_refl _))⟩
  exact ⟨Nat.le_trans (cutV_length xs lo hi) hz, _, 0, (r.drop (HT.sIx xs.length 0 lo)).take (HT.sIx xs.length xs.length hi - HT.sIx xs.length 0 lo), Heap.get?_push_size _ rfl⟩

/-! ### in, not in: flat items -/
def flatV : V → Bool
  | .non => true
  | .bl _ => true
  | .int _ => true
  | .str _ => true
  | _ => false
/-- == of flat values -/
def eqV : V → V → Bool
  | .non, .non => true
  | .bl a, .bl b => a == b
  | .bl a, .int b => (if a then 1 else 0) == b
  | .int a, .bl b => a == (if b then 1 else 0)
  | .int a, .int b => a == b
  | .str a, .str b => a == b
  | _, _ => false
theorem eqAt_V {A : Around} {s : Shared} {y x : V} {u v : Value} (ry : RelV y u) (rx : RelV x v) (fy : flatV y = true) (fx : flatV x = true) : SeqAt.EqAt A s u v (eqV y x) := by
  cases y with
  | non =>
    cases ry
    cases x with
    | non => cases rx; exact SeqAt.EqAt.same _
    | bl b => cases rx; exact SeqAt.EqAt.none_bool b
    | int b => obtain ⟨t, rfl⟩ := rx; exact SeqAt.EqAt.none_int b t
    | str b => obtain ⟨t, rfl⟩ := rx; exact SeqAt.EqAt.none_str b t
    | _ => exact absurd (show false = true from fx) Bool.false_ne_true
  | bl a =>
    cases ry
    cases x with
    | non => cases rx; exact SeqAt.EqAt.bool_none a
    | bl b => cases rx; exact SeqAt.EqAt.bool_bool a b
    | int b => obtain ⟨t, rfl⟩ := rx; exact SeqAt.EqAt.bool_int a b t
    | str b => obtain ⟨t, rfl⟩ := rx; exact SeqAt.EqAt.bool_str a b t
    | _ => exact absurd (show false = true from fx) Bool.false_ne_true
  | int a =>
    obtain ⟨t', rfl⟩ := ry
    cases x with
    | non => cases rx; exact SeqAt.EqAt.int_none a t'
    | bl b => cases rx; exact SeqAt.EqAt.int_bool a t' b
    | int b => obtain ⟨t, rfl⟩ := rx; exact SeqAt.EqAt.int_int a t' b t
    | str b => obtain ⟨t, rfl⟩ := rx; exact SeqAt.EqAt.int_str a t' b t
    | _ => exact absurd (show false = true from fx) Bool.false_ne_true
  | str a =>
    obtain ⟨t', rfl⟩ := ry
    cases x with
    | non => cases rx; exact SeqAt.EqAt.str_none a t'
    | bl b => cases rx; exact SeqAt.EqAt.str_bool a t' b
    | int b => obtain ⟨t, rfl⟩ := rx; exact SeqAt.EqAt.str_int a t' b t
    | str b => obtain ⟨t, rfl⟩ := rx; exact SeqAt.EqAt.str_str a t' b t
    | _ => exact absurd (show false = true from fx) Bool.false_ne_true
  | _ => exact absurd (show false = true from fy) Bool.false_ne_true
/-- the items' answers, read off the values (a value's own answer does not lean on its token) -/
def eqU (x : V) (u : Value) : Bool := match u with
  | .none => eqV .non x
  | .bool b => eqV (.bl b) x
  | .int i _ => eqV (.int i) x
  | .str z _ => eqV (.str z) x
  | _ => false
theorem eqU_of {x y : V} {u : Value} (r : RelV y u) (f : flatV y = true) : eqU x u = eqV y x := by
  cases y with
  | non => cases r; rfl
  | bl b => cases r; rfl
  | int i => obtain ⟨t, rfl⟩ := r; rfl
  | str z => obtain ⟨t, rfl⟩ := r; rfl
  | _ => exact absurd (show false = true from f) Bool.false_ne_true
theorem mem_eqAt {A : Around} {s : Shared} {x : V} {v : Value} (rx : RelV x v) (fx : flatV x = true) : ∀ {xs : List V} {us : List Value}, Vals xs us → xs.all flatV = true → ∀ u ∈ us, SeqAt.EqAt A s u v (eqU x u)
  | _, _, .nil, _ => fun u hu => by cases hu
  | y :: xs, u :: us, .cons r t, f => fun u' hu => by
    rw [List.all_cons, Bool.and_eq_true] at f
    rcases List.mem_cons.mp hu with rfl | hu
    · rw [eqU_of r f.1]; exact eqAt_V r rx f.1 fx
    · exact mem_eqAt rx fx t f.2 u' hu
def inV (x : V) (xs : List V) : Bool := xs.any fun y => eqV y x
/-- x in a list or tuple of flat items -/
def rIn (K : PySem.W.Frag) (neg : Bool) : R2 := fun x y H Q => ∃ p xs, y = .ref p ∧ (SqL K H p xs ∨ SqT K H p xs) ∧ flatV x = true ∧ xs.all flatV = true ∧ Q (.bl (if neg then !inV x xs else inV x xs)) H
/-! ### len, list(x), tuple(x) of any list or tuple that is read -/
theorem call_len_seq : CallR X (.builtin "len") (fun xs H Q => ∃ p ys, xs = [.ref p] ∧ (SqL X.K H p ys ∨ SqT X.K H p ys) ∧ Q (.int ys.length) H) := by
  intro pins s σ H xs us Q I r h
  obtain ⟨p, ys, rfl, hq, q⟩ := h
  obtain ⟨u, rfl, rx⟩ := vals1 r
  cases rx
  have hn := line63
  rcases hq with hq | hq
  · obtain ⟨its, r', pl, hz⟩ := I.list hq
    have hlen := r'.length
    exact Calls.call_len_list pl.isList (by simp only [List.size_toArray] <;> omega) ⟨.int ys.length, H, I.tok _, ⟨s.toks + 1, by rw [List.size_toArray, hlen]⟩, q⟩
  · obtain ⟨its, r', pl, hz⟩ := I.tuple hq
    have hlen := r'.length
    exact len_tuple pl (by simp only [List.size_toArray] <;> omega) ⟨.int ys.length, H, I.tok _, ⟨s.toks + 1, by rw [List.size_toArray, hlen]⟩, q⟩
theorem call_list_of : CallR X (.type "list") (fun xs H Q => ∃ p ys, xs = [.ref p] ∧ (SqL X.K H p ys ∨ SqT X.K H p ys) ∧ ∀ l, H l = none → Q (.ref l) (upd H l (.lst ys))) := by
  intro pins s σ H xs us Q I r h
  obtain ⟨p, ys, rfl, hq, q⟩ := h
  obtain ⟨u, rfl, rx⟩ := vals1 r
  cases rx
  have fin : ∀ (its : List Value), Vals ys its → ys.length ≤ sizeLine → ∀ (h' : Heap) (c' : Nat), (∀ b o', s.heap.get? b = some o' → h'.get? b = some o') →
      h'.get? s.heap.objs.size = some { cls := .type "list", dict := none, data := .seq its.toArray c', slots := #[] } → EP X pins σ Q (.ref s.heap.objs.size) { s with heap := h' } := fun its r' hz h' c' kp e =>
    ⟨.ref s.heap.objs.size, _, I.laid (t' := s.toks) kp (Nat.le_refl _) (show ObjOk X.prog X.w _ h' _ (.lst ys) from ⟨hz, its, c', r', e⟩), rfl, q _ (I.hok.fresh (Nat.le_refl _))⟩
  rcases hq with hq | hq
  · obtain ⟨its, r', pl, hz⟩ := I.list hq
    have hlen := r'.length
    obtain ⟨o, ho, hc, n, hd⟩ := pl.isList
    exact call_list_seq p (.inl rfl) ho hc hd (fun h' c' kp e => fin its r' hz h' c' kp e) (by simp only [List.size_toArray] <;> omega)
  · obtain ⟨its, r', pl, hz⟩ := I.tuple hq
    have hlen := r'.length
    obtain ⟨o, ho, hc, n, hd⟩ := pl
    exact call_list_seq p (.inr rfl) ho hc hd (fun h' c' kp e => fin its r' hz h' c' kp e) (by simp only [List.size_toArray] <;> omega)
theorem call_tuple_of : CallR X (.type "tuple") (fun xs H Q => ∃ p ys, xs = [.ref p] ∧ ((SqL X.K H p ys ∧ ∀ l, H l = none → Q (.ref l) (upd H l (.tup ys))) ∨ (SqT X.K H p ys ∧ Q (.ref p) H))) := by
  intro pins s σ H xs us Q I r h
  obtain ⟨p, ys, rfl, h⟩ := h
  obtain ⟨u, rfl, rx⟩ := vals1 r
  cases rx
  rcases h with ⟨hq, q⟩ | ⟨hq, q⟩
  · obtain ⟨its, r', pl, hz⟩ := I.list hq
    have hlen := r'.length
    refine call_tuple_list pl.isList (fun h' kp => ?_) (by simp only [List.size_toArray] <;> omega)
    have I1 : Inv X pins σ H { s with heap := h' } := I.kept (t' := s.toks) kp
    have I2 : Inv X pins σ (upd H h'.objs.size (.tup ys)) { s with heap := h'.push { cls := .type "tuple", data := .seq its.toArray } } :=
      I1.laid (t' := s.toks) (fun b o e => Heap.get?_push_of_some _ e) (Nat.le_refl _) (show ObjOk X.prog X.w _ _ _ (.tup ys) from ⟨hz, its, r', IsTup.new _ _⟩)
    exact ⟨.ref h'.objs.size, _, I2, rfl, q _ (I1.hok.fresh (Nat.le_refl _))⟩
  · obtain ⟨its, r', pl, hz⟩ := I.tuple hq
    exact call_tuple_same pl ⟨.ref p, H, I, rfl, q⟩

/-! ### the call of a builtin's method: o.m(..) -/
/-- the value is of that builtin type -/
def tyV (K : PySem.W.Frag) (T : String) (x : V) (H : Hp) : Prop := match x with
  | .str _ => T = "str"
  | .int _ => T = "int"
  | .ref p => (T = "list" ∧ ∃ xs, SqL K H p xs) ∨ (T = "tuple" ∧ ∃ o, K.lookup p = some o ∧ o.cls = .type "tuple" ∧ o.dict = none) ∨
      (T = "dict" ∧ ((∃ kvs, H p = some (.dK kvs)) ∨ ∃ kvs, H p = some (.dT kvs))) ∨ (T = "set" ∧ ∃ S n, H p = some (.set S n))
  | _ => False
theorem tyV_is {pins : List (Addr × Obj)} {σ : St} {H : Hp} {s : Shared} {T : String} {x : V} {v : Value} (I : Inv X pins σ H s) (r : RelV x v) (ty : tyV X.K T x H) :
    s.TypeIs v T ∧ ∀ a, v = .ref a → ∃ ob, s.heap.get? a = some ob ∧ ob.dict = none := by
  cases x with
  | str z =>
    obtain ⟨t, rfl⟩ := r
    cases (show T = "str" from ty)
    exact ⟨typeIs_str s z t, fun _ e => nomatch e⟩
  | int i =>
    obtain ⟨t, rfl⟩ := r
    cases (show T = "int" from ty)
    exact ⟨typeIs_int s i t, fun _ e => nomatch e⟩
  | ref p =>
    cases r
    rcases ty with ⟨rfl, xs, hq⟩ | ⟨rfl, o, hk, hc, hd⟩ | ⟨rfl, hk⟩ | ⟨rfl, S, n, hk⟩
    · obtain ⟨its, _, pl, _⟩ := I.list hq
      refine ⟨pl.isList.typeIs, fun a e => ?_⟩
      cases e
      obtain ⟨o, n, e, c, hd, _⟩ := pl
      exact ⟨o, e, hd⟩
    · refine ⟨⟨o, I.kIn p o hk, hc⟩, fun a e => ?_⟩
      cases e
      exact ⟨o, I.kIn _ o hk, hd⟩
    · have z : ∃ o, s.heap.get? p = some o ∧ o.ExactDict := by
        rcases hk with ⟨kvs, hk⟩ | ⟨kvs, hk⟩
        · obtain ⟨_, _, _, _, o, _, _, e, ex, _⟩ := I.hok p _ hk
          exact ⟨o, e, ex⟩
        · obtain ⟨_, _, _, _, o, _, _, e, ex, _⟩ := I.hok p _ hk
          exact ⟨o, e, ex⟩
      obtain ⟨o, e, ex⟩ := z
      refine ⟨⟨o, e, ex.1⟩, fun a e2 => ?_⟩
      cases e2
      exact ⟨o, e, ex.2.1⟩
    · obtain ⟨o, _, _, _, e, ex, _⟩ := I.hok p _ hk
      refine ⟨⟨o, e, ex.1⟩, fun a e2 => ?_⟩
      cases e2
      exact ⟨o, e, ex.2.1⟩
  | _ => exact False.elim ty
def tBM0 (K : PySem.W.Frag) (T : String) (r : V → List V → Hp → VK → Prop) (to : TE) : TE := fun σ H Q => to σ H fun x H1 => tyV K T x H1 ∧ r x [] H1 Q
def tBM (K : PySem.W.Frag) (T : String) (r : V → List V → Hp → VK → Prop) (to : TE) (t : TA) : TE := fun σ H Q => to σ H fun x H1 => tyV K T x H1 ∧ t σ H1 fun xs H2 => r x xs H2 Q
variable {o e : Expr} {es : List Expr} {to : TE} {t : TA} {name : Str} {apos cpos : Pos} {T id : String} {r : V → List V → Hp → VK → Prop}
theorem pe_bm (pa : PlainAttrs T) (slot : Slot T name id) (hty : typeOf (.builtin id) = pure (.type "method_descriptor")) (hm : MtR X id r) (ho : PE X o to) (ha : PA X (e :: es) t)
    (hbase : attributeBase o name X.env (eval o X.env) = eval o X.env := by rfl)
    (hfew : ((backTo cpos (starEach (e :: es) X.env)).all (fun x => !x.1) && (backToKw cpos (keywordEach [] X.env)).all (fun x => x.1.isSome)
      && decide ((e :: es).length + ([] : List Keyword).length + (if ([] : List Keyword).isEmpty then 0 else 1) < 30)) = true := by rfl)
    (hline : (apos.endLine == cpos.line) = true := by rfl) (hs : starEach (e :: es) X.env = (false, eval e X.env) :: starEach es X.env := by rfl) (hplain : (backTo cpos (starEach es X.env)).any (·.1) = false := by rfl) :
    PE X (.Call (.Attribute o name apos) (e :: es) [] cpos) (tBM X.K T r to t) := by
  intro pins s σ H Q I h
  refine wpAny_Call_method_late hbase hfew hline rfl (thn (ho pins s σ H _ I h) fun v s1 ⟨x, H1, I1, r1, ty, q1⟩ => ?_)
  obtain ⟨h1, h2⟩ := tyV_is I1 r1 ty
  refine ⟨T, id, pa, slot, hty, h1, h2, ?_⟩
  have hA := ha cpos pins s1 σ H1 _ I1 q1
  rw [hs] at hA ⊢
  refine Calls.callWith_builtin (by show (false || (backTo cpos (starEach es X.env)).any (·.1)) = false; rw [hplain] <;> rfl) (Calls.evalArgs_plain ?_)
  exact thn hA fun us s2 ⟨vs, H2, I2, r2, q2⟩ => hm pins s2 σ H2 x vs v us Q I2 r1 r2 q2
/- xs.append(e), list.index on a module's tuple .. are MtR facts of 06m -/
end
end L2

namespace L2
open PySem PySem.Spec PyProof.Rows

def MtM (X : Cx) (id : String) (r : V → List V → Hp → VK → Prop) : Prop :=
  ∀ (pins : List (Addr × Obj)) (s : Shared) (σ : St) (H : Hp) (x : V) (xs : List V) (v : Value) (us : List Value) (Q : VK), Inv X pins σ H s → RelV x v → Vals xs us → r x xs H Q →
    wpAny (model X.prog X.w) X.A (call (.builtin id) (v :: us)) (EP X pins σ Q) X.xe s

/-! ### lists of values -/
theorem Vals.one : ∀ {x : V} {us : List Value}, Vals [x] us → ∃ u, us = [u] ∧ RelV x u
  | _, _, .cons r .nil => ⟨_, rfl, r⟩
theorem Vals.eraseIdx : ∀ {xs : List V} {us : List Value} (i : Nat), Vals xs us → Vals (xs.eraseIdx i) (us.eraseIdx i)
  | _, _, _, .nil => .nil
  | _, _, 0, .cons _ t => t
  | _, _, i + 1, .cons r t => .cons r (Vals.eraseIdx i t)
theorem len_erase {α : Type} : ∀ (l : List α) (i : Nat), (l.eraseIdx i).length ≤ l.length
  | [], _ => Nat.le_refl _
  | _ :: _, 0 => Nat.le_succ _
  | _ :: r, i + 1 => Nat.succ_le_succ (len_erase r i)
section
variable {X : Cx} {pins : List (Addr × Obj)} {σ : St} {H : Hp} {s : Shared} {l b : Addr} {xs ys zs : List V}

/-! ### the two steps: a tracked list is rewritten, a new list is laid -/
theorem Inv.lset {its its' : List Value} {n : Nat} {f : Array Value → Array Value} {t' : Nat} (I : Inv X pins σ H s) (hH : H l = some (.lst xs))
    (e : s.heap.get? l = some { cls := .type "list", data := .seq its.toArray n }) (hf : f its.toArray = its'.toArray) (hv : Vals ys its') (hz : ys.length ≤ sizeLine) :
    Inv X pins σ (upd H l (.lst ys)) { s with heap := s.heap.update l (Obj.mapSeq f), toks := t' } := by
  have q := PySem.IsL.update e f
  rw [hf] at q
  refine I.write (x := l) (e := l) (by rw [hH]; exact trivial) (.inl rfl) (fun b' u hb hu => (Heap.get?_update_other s.heap (Obj.mapSeq f) (Ne.symm hb)).trans hu) ⟨_, q⟩ ?_
  exact ⟨hz, its', _, hv, q⟩
theorem Inv.lnew {its : List Value} {t' : Nat} (I : Inv X pins σ H s) (hv : Vals ys its) (hz : ys.length ≤ sizeLine) :
    Inv X pins σ (upd H s.heap.objs.size (.lst ys)) { s with heap := s.heap.push { cls := .type "list", data := .seq its.toArray }, toks := t' } :=
  I.laid (fun _ _ q => Heap.get?_push_of_some _ q) (Nat.le_refl _) ⟨hz, its, 0, hv, Heap.get?_push_size _ rfl⟩
theorem Inv.fresh (I : Inv X pins σ H s) : H s.heap.objs.size = none := I.hok.fresh (Nat.le_refl _)
theorem Inv.lstM (I : Inv X pins σ H s) (hH : H l = some (.lst xs)) : xs.length ≤ sizeLine ∧ ∃ (its : List Value) (n : Nat), Vals xs its ∧ xs.length = its.length ∧ s.heap.get? l = some { cls := .type "list", data := .seq its.toArray n } := by
  obtain ⟨z, its, n, r, e⟩ := I.hok l _ hH
  exact ⟨z, its, n, r, r.length, e⟩

end

section
variable {X : Cx}

/-! ### methods -/
def rAppend : V → List V → Hp → VK → Prop := fun x vs H Q => ∃ l xs y, x = .ref l ∧ vs = [y] ∧ H l = some (.lst xs) ∧ xs.length < sizeLine ∧ Q .non (upd H l (.lst (xs ++ [y])))
theorem mt_append : MtM X "list.append" rAppend := by
  intro pins s σ H x vs v us Q I rx rv h
  obtain ⟨l, xs, y, rfl, rfl, hH, hz, q⟩ := h
  cases rx
  obtain ⟨u, rfl, ru⟩ := rv.one
  obtain ⟨z, its, n, r, hl, e⟩ := I.lstM hH
  refine call_meets F.slot_list_append ⟨_, e, rfl⟩ F.entry_list_append (F.args_list_append_2 _ _) (PySem.list_append l its.toArray n u (by rw [List.size_toArray]; omega)) ⟨e, ?_⟩
  refine ⟨.non, _, I.lset (its' := its ++ [u]) hH e (by simp) (r.append (.cons ru .nil)) ?_, rfl, q⟩
  rw [List.length_append, List.length_singleton]
  omega

def rExtend : V → List V → Hp → VK → Prop := fun x vs H Q => ∃ l b xs zs, x = .ref l ∧ vs = [.ref b] ∧ H l = some (.lst xs) ∧ H b = some (.lst zs) ∧ xs.length + zs.length ≤ sizeLine ∧ Q .non (upd H l (.lst (xs ++ zs)))
def rPop : V → List V → Hp → VK → Prop := fun x vs H Q => ∃ l xs y, x = .ref l ∧ vs = [] ∧ H l = some (.lst xs) ∧ xs[xs.length - 1]? = some y ∧ Q y (upd H l (.lst xs.dropLast))
def rPopAt : V → List V → Hp → VK → Prop := fun x vs H Q => ∃ l xs i k y, x = .ref l ∧ vs = [.int i] ∧ H l = some (.lst xs) ∧ -(2 ^ 63) ≤ i ∧ i < 2 ^ 63 ∧ seqIndex? i xs.length = some k ∧ xs[k]? = some y ∧ Q y (upd H l (.lst (xs.eraseIdx k)))
theorem mt_popAt : MtM X "list.pop" rPopAt := by
  intro pins s σ H x vs v us Q I rx rv h
  obtain ⟨l, xs, i, k, y, rfl, rfl, hH, h1, h2, hk, hy, q⟩ := h
  cases rx
  obtain ⟨u, rfl, ru⟩ := rv.one
  obtain ⟨t, rfl⟩ := ru
  obtain ⟨z, its, n, r, hl, e⟩ := I.lstM hH
  obtain ⟨w, hw, rw'⟩ := r.get hy
  refine call_meets F.slot_list_pop ⟨_, e, rfl⟩ F.entry_list_pop (F.args_list_pop_2 _ _)
    (MeetsSeq.list_pop_at l its.toArray n i t k w (fitsIndex_both h1 h2) (by rw [List.size_toArray, ← hl]; exact hk) (by rw [← Array.getElem?_toList]; exact hw) (by rw [List.size_toArray]; omega)) ⟨e, ?_⟩
  refine ⟨y, _, I.lset (its' := its.eraseIdx k) hH e ?_ (r.eraseIdx k) ?_, rw', q⟩
  · show its.toArray.eraseIdxIfInBounds k = (its.eraseIdx k).toArray
    rw [List.eraseIdxIfInBounds_toArray]
  · have := len_erase xs k
    omega

def rReverse : V → List V → Hp → VK → Prop := fun x vs H Q => ∃ l xs, x = .ref l ∧ vs = [] ∧ H l = some (.lst xs) ∧ Q .non (upd H l (.lst xs.reverse))
def rClear : V → List V → Hp → VK → Prop := fun x vs H Q => ∃ l xs, x = .ref l ∧ vs = [] ∧ H l = some (.lst xs) ∧ Q .non (upd H l (.lst []))
/-! ### list + list, list += list, list * int -/
def rCat : R2 := fun x y H Q => ∃ l b xs zs, x = .ref l ∧ y = .ref b ∧ H l = some (.lst xs) ∧ H b = some (.lst zs) ∧ xs.length + zs.length ≤ sizeLine ∧ ∀ p, H p = none → Q (.ref p) (upd H p (.lst (xs ++ zs)))
theorem op_cat : OpR X (binaryOp .Add) rCat := by
  intro pins s σ H x y v u Q I rx ry h
  obtain ⟨l, b, xs, zs, rfl, rfl, hH, hB, hz, q⟩ := h
  cases rx
  cases ry
  obtain ⟨z, its, n, r, hl, e⟩ := I.lstM hH
  obtain ⟨z2, its2, n2, r2, hl2, e2⟩ := I.lstM hB
  refine PySem.P.add_list e e2 ?_ (by rw [List.size_toArray, List.size_toArray]; omega)
  have ea : its.toArray ++ its2.toArray = (its ++ its2).toArray := by simp
  rw [ea]
  exact ⟨.ref _, _, I.lnew (t' := s.toks) (r.append r2) (by rw [List.length_append]; omega), rfl, q _ I.fresh⟩
/-- a list times an int (a negative one is nothing) -/
def rRep : R2 := fun x y H Q => ∃ l k xs, x = .ref l ∧ y = .int k ∧ H l = some (.lst xs) ∧ -(2 ^ 63) ≤ k ∧ k < 2 ^ 63 ∧ xs.length * k.toNat ≤ sizeLine ∧
  ∀ p, H p = none → Q (.ref p) (upd H p (.lst (List.replicate k.toNat xs).flatten))
end

/-! ### xs[a:b] = ys -/
section
variable {prog : Program} {w : World} {A : Around} {E : Value → Shared → Prop} {s : Shared}
end

section
variable {X : Cx}
end
end L2

namespace Att
open PySem PySem.W PySem.Calls PyProof.Rows

/-! ### the script -/
theorem ints_of_wellAll {P : Params} {h : Heap} : ∀ (ns : List Int) (vs : List Value), WellAll P h vs (ns.map WData.int) → IntsAre vs ns := by
  intro ns
  induction ns with
  | nil =>
    intro vs w
    rw [List.map_nil] at w
    cases w
    exact .nil
  | cons n ns ih =>
    intro vs w
    rw [List.map_cons] at w
    cases w with
    | cons a b =>
      cases a
      exact .cons _ _ (ih _ b)

theorem script_of {l : OpenLaw} {n : Nat} (hn : l.most = some n) {P : Params} {h : Heap} {args : List WData} {vals : List Value}
    (hpre : l.row.toRowW.claim.pre args = true) (hwl : WellAll P h vals args) :
    ∃ a vs ns, vals = [Value.ref a] ∧ args = [WData.list (ns.map WData.int)] ∧ h.get? a = some { cls := .type "list", data := .seq vs.toArray } ∧ IntsAre vs ns ∧ ns.length ≤ n := by
  have hsh : WShape.hasAll [] args [.list .int] = true := (pre_splitW hpre).1
  have hc : l.pre.holds [] { args := args } = true := (pre_splitW hpre).2
  obtain ⟨d, r, rfl, h1, h2⟩ := hasAllW_cons hsh
  obtain rfl := hasAllW_nil h2
  obtain ⟨xs, rfl, h3⟩ := hasW_list h1
  obtain ⟨ns, rfl⟩ := items_int h3
  have hlen : ns.length ≤ n := by
    unfold OpenLaw.pre at hc
    have h4 : (WTm.not (.lt (.lit (.int (n : Int))) (.len (.arg 0)))).holds [] { args := [.list (ns.map .int)] } = true := by
      have h4 := (holds_andW hc).1
      rw [hn] at h4
      exact h4
    have h5 := condW_of h4 (w_not (w_lt w_lit (w_len_list (w_arg rfl))))
    rw [List.length_map] at h5
    refine Nat.le_of_not_lt fun q => ?_
    have q' : (n : Int) < ((ns.length : Nat) : Int) := by omega
    first
      | (rw [decide_eq_true q'] at h5; exact absurd h5 (by decide))
      | (simp at h5; omega)
  cases hwl with
  | cons w1 w2 =>
    cases w2
    cases w1 with
    | list ho hall => exact ⟨_, _, ns, rfl, rfl, ho, ints_of_wellAll ns _ hall, hlen⟩

theorem post_true (l : OpenLaw) (args : List WData) : l.row.toRowW.claim.post args (.bool true) args = true :=
  postW_of (r := l.row.toRowW) (X := (true == true))
    (show WShape.has [] (.bool true) .bool = true by first | rfl | decide | simp [WShape.has, WShape.arms, WShape.armsAll])
    (show (WTm.eq .res (.lit (.bool true))).value [] { args := args, res := some (.bool true), after := args } = some (.bool (true == true)) from w_eq_bool (w_res rfl) w_lit) rfl

/-- the same from a codeAny of the CALL (for a layer whose function contracts speak of calls) -/
theorem attach_call {l : OpenLaw} {n : Nat} {q : Program} {loose : List Str} {XP : (Str → Option Value) → Heap → Prop} {YP : World → Heap → Prop} {d : DefRec}
    (hn : l.most = some n) (hdf : d.params.defaults = [])
    (call : ∀ (w : World) (s₀ s₁ : Shared) (mg mb : Str → Option Value) (fa : Addr) (o : Obj) (pm cd doc : Value) (a : Addr) (vs : List Value) (ns : List Int),
      Ground q loose [] XP w s₀ mg mb s₁.heap → YP w s₁.heap →
      s₁.heap.get? fa = some o → o.data = .func (docDef d.name d.params d.body d.scope pm cd doc) → s₁.heap.CodeRec cd d.name → mg d.name = some (.ref fa) →
      s₁.heap.get? a = some { cls := .type "list", data := .seq vs.toArray } → IntsAre vs ns → ns.length ≤ n → s₁.gens = #[] →
      codeAny (model l.prog w) callerA (.call (.ref fa) ⟨[.ref a], []⟩) (fun r s' => r = .ok (.ret (.bool true)) ∧ OldK s₁.heap s'.heap ∧ s'.os = s₁.os ∧ AllBare s'.gens) s₁) :
    WalkO q loose XP YP l.row.toRowW d [] (fun f vs => PySem.call f vs) := by
  intro w s₀ s₁ mg mb G Y fa o pm cd doc dV kV ho hd hcd hD hmg hg args vals as hpre hlay hrd hwl hlo
  obtain rfl : dV = .none := Dflts.none hD hdf
  obtain rfl : kV = .none := Dflts.noKw hD
  obtain ⟨a, vs, ns, rfl, rfl, hobj, hints, hlen⟩ := script_of hn hpre hwl
  refine enter_call (codeAny_mono (call w s₀ s₁ mg mb fa o pm cd doc a vs ns G Y ho (fd_plain hd) hcd hmg hobj hints hlen hg) fun r s' hq => ?_)
  obtain ⟨rfl, h2, h3, h4⟩ := hq
  exact ⟨.inl ⟨.bool true, .bool true, [], rfl, fun _ => rfl, .bool true, post_true l _, fun _ => ⟨List.Pairwise.nil, fun _ hm => (nomatch hm)⟩⟩, h2, h3, h4⟩

/-! ### rules over ANY heap (no ledger) from facts about the written part K: the library's own take a ledger (News) for what they write -/
section
variable {prog : Program} {w : World} {A : Around} {E : Value → Shared → Prop} {s : Shared} {K : Frag}

/-! the whole heap as the ledger: makes every rule that writes through a ledger a rule over any heap -/
def noObjs (h : Heap) : Heap := { h with objs := #[] }
def ledger (h : Heap) (L d : Addr) : List (Addr × Obj) := (List.range h.objs.size).filterMap fun a => if a = L ∨ a = d then none else (h.get? a).map fun o => (a, o)
end
end Att

namespace L2
open PySem PySem.Spec PyProof.Rows

theorem vals_ints : ∀ {vs : List Value} {ns : List Int}, IntsAre vs ns → Vals (ns.map V.int) vs
  | _, _, .nil => .nil
  | _, _, .cons n t h => .cons ⟨t, rfl⟩ (vals_ints h)

/-- nothing is tracked but the script, known to the object (or it is an object of the module) -/
def Only (H : Hp) : Prop := ∀ b, H b = none ∨ ∃ o xs, H b = some (.frz o (.lst xs))

/-- THE HEAD: the law's promise, at the heap behind the top. F, the promise of the law's def, may use that base is part of the heap (so K.In base, base.Ns mainGlobals mg stand in Mod) -/
theorem law_call {P : Program} {w : World} {K : PySem.W.Frag} {mg mb : Str → Option Value} {CX : CXT} {k : Nat} {fa a : Addr} {fd : FuncData} {x : Str} {sp : Sp} {s₁ : Shared} {vs : List Value} {ns : List Int}
    (KX : K.In s₁.heap) (hns : s₁.heap.Ns mainGlobals mg) (hb : s₁.heap.Ns builtinsNs mb) (hbb : ∀ x : Str, x ≠ "__name__" → mb x = bootBuiltins x) (hlim : s₁.heap.NoLimit) (hg : s₁.gens = #[])
    (ha : s₁.heap.get? a = some { cls := .type "list", data := .seq vs.toArray }) (hi : IntsAre vs ns) (hl : ns.length ≤ sizeLine) (hr : Room k callerA)
    (F : ∀ base : Heap, K.In base → base.Ns mainGlobals mg → FnOk P w K mg base CX k fa fd [x] sp) (hbind : ∀ (s : Shared) (u : Value), BindsTo s fd ⟨[u], []⟩ [(x, u)])
    (hsp : ∀ H : Hp, Only H → SqL K H a (ns.map V.int) → sp [.ref a] H (fun v _ => v = .bl true) fun _ _ _ => False)
    (hCX : ∀ H e s', CX [] H s₁ (fun _ _ _ => False) e s' → False) :
    codeAny (model P w) callerA (.call (.ref fa) ⟨[.ref a], []⟩) (fun r s' => r = .ok (.ret (.bool true)) ∧ OldK s₁.heap s'.heap ∧ s'.os = s₁.os ∧ AllBare s'.gens) s₁ := by
  have rv := vals_ints hi
  have lenV := hi.length
  -- from an abstract heap in which nothing but the script may be tracked
  have core : ∀ H : Hp, Only H → SqL K H a (ns.map V.int) → HOk P w H s₁.heap → (∀ b, H b ≠ none → b = a) → (H a ≠ none → K.lookup a = none) →
      codeAny (model P w) callerA (.call (.ref fa) ⟨[.ref a], []⟩) (fun r s' => r = .ok (.ret (.bool true)) ∧ OldK s₁.heap s'.heap ∧ s'.os = s₁.os ∧ AllBare s'.gens) s₁ := by
    intro H hO hS hok hA hK
    have base_of : ∀ {b : Addr} {o : Obj}, s₁.heap.get? b = some o → H b = none → (hidT s₁.heap H).get? b = some o := fun e n => hidT_get e n
    have noA : ∀ {b : Addr} {o : Obj} {es : Array DictEntry} {ep : Nat}, s₁.heap.get? b = some o → o.data = .dict es ep → H b = none := fun {b o es ep} e d => by
      cases q : H b with
      | none => rfl
      | some u =>
        have e' : b = a := hA b (by rw [q]; simp)
        subst e'
        rw [ha] at e; cases e
        have d' : Data.seq vs.toArray _ = Data.dict es ep := d
        cases d'
    have nsK : ∀ {b : Addr} {m : Str → Option Value}, s₁.heap.Ns b m → (hidT s₁.heap H).Ns b m := fun {b m} ⟨o, es, ep, e, d, r⟩ => ⟨o, es, ep, base_of e (noA e d), d, r⟩
    have hKb : K.In (hidT s₁.heap H) := fun b o e => base_of (KX b o e) (by
      cases q : H b with
      | none => rfl
      | some u =>
        have e' : b = a := hA b (by rw [q]; simp)
        subst e'
        rw [hK (by rw [q]; simp)] at e; cases e)
    have hM : Mod K mg (hidT s₁.heap H) := ⟨hKb, nsK hns, ⟨mb, nsK hb, hbb⟩, let ⟨mc, h1, h2⟩ := hlim; ⟨mc, nsK h1, h2⟩⟩
    have e0 : Env0 P w K mg (hidT s₁.heap H) callerA [] s₁ H := ⟨rfl, hM, fun b o e => of_hidT e, Nat.le_of_eq (hidT_size _ _), trivial, fun b hb => absurd (show b ∈ ([] : List Addr) from hb) (by simp), hok, .of_eq hg⟩
    refine codeAny_mono ((F _ hKb (nsK hns)).run callerA [] s₁ H ⟨[.ref a], []⟩ [.ref a] [.ref a] _ _ hr e0 (hbind s₁ (.ref a)) (.cons rfl .nil) (hsp H hO hS)) fun r s' h => ?_
    cases r with
    | error e => exact (hCX H e s' h).elim
    | ok fl =>
      cases fl with
      | next => exact False.elim h
      | brk => exact False.elim h
      | cont => exact False.elim h
      | ret u =>
        obtain ⟨v, H', os, bare, un, hok', r', q⟩ := h
        have q' : v = .bl true := q
        subst q'
        obtain rfl : u = Value.bool true := r'
        refine ⟨rfl, OldK.of_keep fun b o e => ?_, os, bare⟩
        cases q : H b with
        | none => exact un.keep b o e q (by intro z; exact absurd (show b ∈ ([] : List Addr) from z) (by simp)) (by simp)
        | some u =>
          rcases hO b with z | ⟨ob, xs, z⟩
          · rw [q] at z; cases z
          · have z2 := un.frzs b ob _ z
            obtain ⟨e1, _⟩ := hok b _ z
            obtain ⟨e2, _⟩ := hok' b _ z2
            rw [e] at e1; cases e1
            exact e2
  cases hk : K.lookup a with
  | some o =>
    -- the script is one of the module's own objects
    have e := KX a o hk
    rw [ha] at e
    cases e
    refine core (fun _ => none) (fun _ => .inl rfl) (.inr ⟨_, vs.toArray, _, hk, rfl, rfl, rfl, by rw [List.size_toArray, lenV]; exact hl, by simpa using rv⟩) (fun b u z => by have z' : (none : Option HO) = some u := z; cases z') (fun b z => absurd rfl z) fun z => absurd rfl z
  | none =>
    refine core (fun b => if b = a then some (.frz { cls := .type "list", data := .seq vs.toArray } (.lst (ns.map V.int))) else none) (fun b => ?_) (.inl (.inr ⟨{ cls := .type "list", data := .seq vs.toArray }, if_pos rfl⟩)) (fun b u z => ?_) (fun b z => ?_) fun _ => hk
    · by_cases hb : b = a
      · exact .inr ⟨_, _, if_pos hb⟩
      · exact .inl (if_neg hb)
    · by_cases hb : b = a
      · have z' := (if_pos hb).symm.trans z
        cases z'
        subst hb
        exact ⟨ha, by rw [List.length_map]; exact hl, vs, _, rv, ha⟩
      · have z' := (if_neg hb).symm.trans z
        cases z'
    · by_cases hb : b = a
      · exact hb
      · exact absurd (if_neg hb) z
end L2

namespace L2
open PySem PySem.Spec PyProof.Rows

abbrev KOf {K : PySem.W.Frag} {h : Heap} (_ : K.In h) : PySem.W.Frag := K

/-- the goal that k_head leaves (case hc), from the law's promise. F gives the function object fd (K's own) once, then the promise over every base -/
theorem walk_of {l : PySem.W.OpenLaw} {n k : Nat} {q : Program} {loose : List Str} {XP : (Str → Option Value) → Heap → Prop} {YP : World → Heap → Prop} {d : DefRec} {K : Params → PySem.W.Frag} {CX : World → CXT} {sp : World → Sp} {x : Str}
    (hn : l.most = some n) (hn2 : n ≤ sizeLine) (hdf : d.params.defaults = []) (hr : Room k callerA)
    (hY : ∀ (w : World) (h : Heap), YP w h → (K w.params).In h)
    (F : ∀ (w : World) (mg : Str → Option Value) (fa : Addr) (h : Heap), (K w.params).In h → h.Ns mainGlobals mg → mg d.name = some (.ref fa) →
      ∃ fd : FuncData, (∀ (s : Shared) (u : Value), BindsTo s fd ⟨[u], []⟩ [(x, u)]) ∧
        ∀ base : Heap, (K w.params).In base → base.Ns mainGlobals mg → FnOk l.prog w (K w.params) mg base (CX w) k fa fd [x] (sp w))
    (hsp : ∀ (w : World) (H : Hp) (a : Addr) (ns : List Int), ns.length ≤ n → Only H → SqL (K w.params) H a (ns.map V.int) → sp w [.ref a] H (fun v _ => v = .bl true) fun _ _ _ => False)
    (hCX : ∀ (w : World) (H : Hp) (s : Shared) (e : Value) (s' : Shared), CX w [] H s (fun _ _ _ => False) e s' → False) :
    PySem.W.WalkO q loose XP YP l.row.toRowW d [] (fun f vs => PySem.call f vs) := by
  refine Att.attach_call hn hdf fun w s₀ s₁ mg mb fa o pm cd doc a vs ns G Y ho hd hcd hmg hobj hints hlen hg => ?_
  have KX := hY w _ Y
  obtain ⟨fd, hb, hF⟩ := F w mg fa _ KX G.T.g hmg
  exact law_call KX G.T.g G.T.b G.T.builtins G.T.nolimit hg hobj hints (Nat.le_trans hlen hn2) hr hF hb (fun H hO hS => hsp w H a ns hlen hO hS) fun H e s' => hCX w H s₁ e s'
end L2

/- THE LAST THEOREM (shape; LID, My.* are yours):
   My.Adr: a structure of the addresses that your layer names (classes, functions); My.Txt K t: a structure (Prop) of the equations over K;
   My.txt_mk : {K} {implicit addresses ..} (e1 : nsIn K mainGlobals "law" = some (some (.ref f))) (e2 : K.lookup f = some ⟨oc, od, .func (fnOf "law" "law" params body scope dV kV doc pm an cdv ct), sl⟩) (e3 : codeIn K cdv "law" = true) .. : ∃ t, My.Txt K t

set_option maxRecDepth 100000 in
set_option maxHeartbeats 0 in
theorem PySem.Challenge.cw_LID_holds : PySem.Challenge.rw_LID.Holds := by
  w_on; o_law; k_head; (case hw => w_witness2)
  k_fill
  refine L2.walk_of (l := PySem.Challenge.rw_LID) (n := 63) (k := 40) (x := "script") (CX := fun w => ..) (sp := fun _ => My.sp_law) rfl (by decide) rfl ⟨rfl, by decide, by decide⟩ (fun w h Y => PySem.W.kIn_of Y) ?F ?S ?C
  case F =>
    intro w mg fa h KX G hmg
    have T : ∃ t, My.Txt (L2.KOf KX) t := by
      dsimp only [L2.KOf]                          -- K must stand as «<heap const> w.params» for k_is
      refine' My.txt_mk ?e1 ?e2 ?e3 ..
      (case e1 => PySem.W.k_is)                    -- in the order: a name -> its address -> its object -> its parts
      (case e2 => PySem.W.k_is)
      ..
    obtain ⟨t, T⟩ := T
    have e0 := hmg.symm.trans (PySem.W.mg_of KX G T.law)
    cases e0                                       -- fa is the law's own address
    exact ⟨_, fun s u => .of_eq rfl, fun base kb nb => My.law_fn T kb nb⟩     -- if «.of_eq rfl» comes too early: refine' ⟨_, ?b, fun base kb nb => My.law_fn T kb nb⟩; exact fun s u => .of_eq rfl
  case S => exact fun w H a ns hl hO hS => ..
  case C => exact ..
(the tactic k_is has no namespace: write k_is) -/

/-! SHORT WORDS over the layer: a def of the text, its body, what a loop and a test want. -/
namespace L2
open PySem PySem.Spec PyProof.Rows

/-! ### the text by places -/
/-- the j-th statement of a class's body -/
def inClass (s : Stmt) (j : Nat) : Stmt := match s with
  | .ClassDef _ _ _ body _ _ _ _ _ _ _ => body.getD j (.Pass ⟨0, 0, 0, 0⟩)
  | _ => .Pass ⟨0, 0, 0, 0⟩
def defArgs (s : Stmt) : Arguments := match s with
  | .FunctionDef _ a _ _ _ _ _ _ _ _ => a
  | _ => { posonlyargs := [], args := [], vararg := none, kwonlyargs := [], kw_defaults := [], kwarg := none, defaults := [] }
def defBody (s : Stmt) : List Stmt := match s with
  | .FunctionDef _ _ b _ _ _ _ _ _ _ => b
  | _ => []
def defScope (s : Stmt) : Scope := match s with
  | .FunctionDef _ _ _ _ _ _ sc _ _ _ => sc
  | _ => { kind := .function, names := [], isGenerator := false, isCoroutine := false }

/-! ### no exception leaves a def -/
abbrev CX0 : CXT := fun _ _ _ _ _ _ => False
abbrev E0 : XK := fun _ _ _ => False
theorem pass0 {X : Cx} : Passes CX0 X E0 := fun _ _ _ _ _ _ _ h => h.elim

/-! ### a def (or method) of the text as it stands behind the top -/
structure Fun (K : PySem.W.Frag) (x qual : Str) (st : Stmt) (f : Addr) (fd : FuncData) : Prop where
  ex : ∃ (oc : Value) (od : Option Addr) (kV doc pm : Value) (an : Option Addr) (cdv ct : Value) (osl : Array (Option Value)),
    fd = PySem.W.fnOf x qual (defArgs st) (defBody st) (defScope st) .none kV doc pm an cdv ct ∧ K.lookup f = some ⟨oc, od, .func fd, osl⟩ ∧ PySem.W.codeIn K cdv qual = true
  kp : PySem.W.keepIn K (.ref f) = true
section
variable {P : Program} {w : World} {K : PySem.W.Frag} {mg : Str → Option Value} {base : Heap}
/-- THE RULE for a def: its body as a term of rules, and the reading of that term -/
theorem Fun.ok {x qual : Str} {st : Stmt} {f : Addr} {fd : FuncData} {N ps : List Str} {k : Nat} {sp : Sp} (F : Fun K x qual st f fd) (S : FnScope N ps (defScope st)) (len : ∀ vs H Q E, sp vs H Q E → vs.length = ps.length)
    (hbody : ∀ (cdv : Value) (A : Around) (outer : List Env) (s : Shared) (H : Hp) (vs : List V) (Q : VK) (E : XK), Room k (A.deeper (envOfC qual (defScope st) s.heap.objs.size f cdv)) → sp vs H Q E →
      ∃ t, PSs (cxOf CX0 P w K mg base N qual (defScope st) f cdv A outer s H E).nox (defBody st) t ∧ t { nx := fun _ H' => Q .non H', rt := Q } (start N vs) H) : FnOk P w K mg base CX0 (k + 1) f fd ps sp := by
  obtain ⟨oc, od, kV, doc, pm, an, cdv, ct, osl, rfl, lk, hcd⟩ := F.ex
  refine fn_of lk hcd S len fun A outer s H vs Q E hr hsp => ?_
  obtain ⟨t, h, q⟩ := hbody cdv A outer s H vs Q E hr hsp
  exact ⟨t, h.nox, q⟩
/-- how its arguments bind (no defaults): h is «fun _ _ _ _ _ _ us hl => match us, hl with | [_, _], _ => rfl», one _ a parameter -/
theorem Fun.binds {x qual : Str} {st : Stmt} {f : Addr} {fd : FuncData} {ps : List Str} (F : Fun K x qual st f fd)
    (h : ∀ (kV doc pm : Value) (an : Option Addr) (cdv ct : Value) (us : List Value), us.length = ps.length → bindArgs (PySem.W.fnOf x qual (defArgs st) (defBody st) (defScope st) .none kV doc pm an cdv ct) ⟨us, []⟩ = pure (ps.zip us)) : Binds K fd ps [] := by
  obtain ⟨oc, od, kV, doc, pm, an, cdv, ct, osl, rfl, lk, hcd⟩ := F.ex
  exact .all (h kV doc pm an cdv ct)
theorem fun_mk {x qual : Str} {st : Stmt} {f : Addr} {oc : Value} {od an : Option Addr} {osl : Array (Option Value)} {kV doc pm cdv ct : Value} (l : K.lookup f = some ⟨oc, od, .func (PySem.W.fnOf x qual (defArgs st) (defBody st) (defScope st) .none kV doc pm an cdv ct), osl⟩)
    (c : PySem.W.codeIn K cdv qual = true) (k : PySem.W.keepIn K (.ref f) = true) : Fun K x qual st f (PySem.W.fnOf x qual (defArgs st) (defBody st) (defScope st) .none kV doc pm an cdv ct) := ⟨⟨oc, od, kV, doc, pm, an, cdv, ct, osl, rfl, l, c⟩, k⟩
end
/-! ### expressions in short: the name that stands in the i-th slot -/
section
variable {X : Cx}
end

theorem ite2 {c A B : Prop} [Decidable c] (h1 : c → A) (h2 : ¬ c → B) : if c then A else B := by
  by_cases h : c
  · rw [if_pos h]
    exact h1 h
  · rw [if_neg h]
    exact h2 h
/-! ### heaps -/
/-- all that was tracked is as it was -/
def Same (H H' : Hp) : Prop := ∀ b o, H b = some o → H' b = some o
theorem Same.refl (H : Hp) : Same H H := fun _ _ h => h
theorem Same.trans {H H1 H2 : Hp} (a : Same H H1) (b : Same H1 H2) : Same H H2 := fun c o h => b c o (a c o h)
theorem Same.free {H H' : Hp} (e : Same H H') {l : Addr} (h : H' l = Option.none) : H l = Option.none := by
  cases q : H l with
  | none => rfl
  | some o =>
    rw [e l o q] at h
    cases h
theorem Same.seq {K : PySem.W.Frag} {H H' : Hp} {a : Addr} {xs : List V} (e : Same H H') (h : SqL K H a xs) : SqL K H' a xs := by
  rcases h with (h | ⟨o, h⟩) | h
  · exact .inl (.inl (e _ _ h))
  · exact .inl (.inr ⟨o, e _ _ h⟩)
  · exact .inr h

end L2

namespace L2
open PySem PySem.Spec PyProof.Rows
/-! ### lists of pairs as tables -/
section
variable {κ : Type} [DecidableEq κ]
def valV (kvs : List (κ × V)) (k : κ) : Option V := (kvs.find? fun kv => decide (kv.1 = k)).map (·.2)
/-- in its place, or at the end -/
def putK (kvs : List (κ × V)) (k : κ) (v : V) : List (κ × V) :=
  if (kvs.any fun kv => decide (kv.1 = k)) = true then kvs.map (fun kv => if kv.1 = k then (kv.1, v) else kv) else kvs ++ [(k, v)]
def dropK (kvs : List (κ × V)) (k : κ) : List (κ × V) := kvs.filter fun kv => decide (kv.1 ≠ k)

end


/-- raw entries of a dict with tuple keys -/
abbrev KT (H : Hp) : List (List Key × V) → List (List Key × Addr × Value) → Prop := Paired fun p q => p.1 = q.1 ∧ H q.2.1 = some (.tup (p.1.map kV)) ∧ RelV p.2 q.2.2
section
variable {P : Program} {w : World} {H : Hp} {h : Heap} {a : Addr}
end

/-- what the dict at a holds at the key y -/
def DGet (H : Hp) (a : Addr) (y : V) (r : Option V) : Prop :=
  (∃ kvs k, Rd H a (.dK kvs) ∧ y = kV k ∧ r = valV kvs k) ∨ ∃ kvs k b, Rd H a (.dT kvs) ∧ y = .ref b ∧ H b = some (.tup (k.map kV)) ∧ r = valV kvs k
/-- the heap behind a[y] = v -/
def DPut (H : Hp) (a : Addr) (y v : V) (H' : Hp) : Prop :=
  (∃ kvs k, H a = some (.dK kvs) ∧ y = kV k ∧ kvs.length < sizeLine ∧ H' = upd H a (.dK (putK kvs k v))) ∨
  ∃ kvs k b, H a = some (.dT kvs) ∧ y = .ref b ∧ H b = some (.tup (k.map kV)) ∧ kvs.length < sizeLine ∧ H' = upd H a (.dT (putK kvs k v))
section
variable {X : Cx} {pins : List (Addr × Obj)} {σ : St} {H : Hp} {s : Shared} {a : Addr} {y v : V} {u r : Value} {o : Option V} {A : Around} {E : Value → Shared → Prop}

end

section
variable {X : Cx} {pins : List (Addr × Obj)} {σ : St} {H : Hp} {s : Shared} {a : Addr} {kvs : List (Key × V)} {k : Key} {u : Value} {A : Around} {E : Value → Shared → Prop}
end


/-! ### readings and rules -/
/-- the element of a subscription, not a slice -/
def NoSl (i : Expr) : Prop := ∀ ov iv, subscripted i false ov iv = operate [ov, iv] (getItem ov iv)
/-- d[y] -/
def tDGet (td ty : TE) : TE := fun σ H Q => td σ H fun x H1 => ty σ H1 fun y H2 => ∃ a v, x = .ref a ∧ DGet H2 a y (some v) ∧ Q v H2
/-- y in d, y not in d -/
def tDIn (ty td : TE) : TE := fun σ H Q => ty σ H fun y H1 => td σ H1 fun x H2 => ∃ a o, x = .ref a ∧ DGet H2 a y o ∧ Q (.bl o.isSome) H2
def tDNotIn (ty td : TE) : TE := fun σ H Q => ty σ H fun y H1 => td σ H1 fun x H2 => ∃ a o, x = .ref a ∧ DGet H2 a y o ∧ Q (.bl (!o.isSome)) H2
/-- d[y] = v -/
def sDPut (td ty tv : TE) : TS := fun D σ H => tv σ H fun v H1 => td σ H1 fun x H2 => ty σ H2 fun y H3 => ∃ a H4, x = .ref a ∧ DPut H3 a y v H4 ∧ D.nx σ H4
/-- d[y] op= v -/
def sDAug (td ty tv : TE) (rd : V → V → Hp → VK → Prop) : TS := fun D σ H => td σ H fun x H1 => ty σ H1 fun y H2 => ∃ a v, x = .ref a ∧ DGet H2 a y (some v) ∧
  tv σ H2 fun y2 H3 => rd v y2 H3 fun z H4 => ∃ H5, DPut H4 a y z H5 ∧ D.nx σ H5
/-- del d[y] -/
def sDDel (td ty : TE) : TS := fun D σ H => td σ H fun x H1 => ty σ H1 fun y H2 => ∃ a kvs k, x = .ref a ∧ H2 a = some (.dK kvs) ∧ y = kV k ∧ (valV kvs k).isSome = true ∧ D.nx σ (upd H2 a (.dK (dropK kvs k)))

section
variable {X : Cx} {o i e value : Expr} {pos pos' tpos : Pos} {td ty tv : TE}
end


/-- {}, to be a dict of the kind that is wanted -/
def tDNewK : TE := fun _ H Q => ∀ p, H p = none → Q (.ref p) (upd H p (.dK []))
def tDNewT : TE := fun _ H Q => ∀ p, H p = none → Q (.ref p) (upd H p (.dT []))
section
variable {X : Cx} {pos : Pos}
end

/-- the pairs of a display, from the left -/
def tPairs : List (TE × TE) → St → Hp → (List (V × V) → Hp → Prop) → Prop
  | [], _, H, Q => Q [] H
  | (tk, tv) :: r, σ, H, Q => tk σ H fun x H1 => tv σ H1 fun y H2 => tPairs r σ H2 fun ps H3 => Q ((x, y) :: ps) H3
abbrev VV : List (V × V) → List (Value × Value) → Prop := Paired fun p q => RelV p.1 q.1 ∧ RelV p.2 q.2
def PPs (X : Cx) (pos : Pos) (keys : List (Option Expr)) (values : List Expr) (trs : List (TE × TE)) : Prop :=
  ∀ (pins : List (Addr × Obj)) (s : Shared) (σ : St) (H : Hp) (Q : List (V × V) → Hp → Prop), Inv X pins σ H s → tPairs trs σ H Q →
    wpAny (model X.prog X.w) X.A (evalPairs (pairTrees keys values X.env pos)) (fun vs s' => ∃ ps H', Inv X pins σ H' s' ∧ VV ps vs ∧ Q ps H') X.xe s
def mergeK (kvs more : List (Key × V)) : List (Key × V) := more.foldl (fun acc kv => putK acc kv.1 kv.2) kvs
/-- {k: v, ..} with keys ints and texts; the new dict stands empty while the pairs are made -/
def tDisp (trs : List (TE × TE)) : TE := fun σ H Q => ∀ p, H p = none → tPairs trs σ (upd H p (.dK [])) fun ps H2 => H2 p = some (.dK []) ∧ ∃ kvs : List (Key × V), ps = kvs.map (fun kv => (kV kv.1, kv.2)) ∧ kvs.length ≤ 15 ∧ Q (.ref p) (upd H2 p (.dK (mergeK [] kvs)))
/-! ### methods -/
/-- a method call o.m(e) of a built-in, with one argument: what must be seen of the text -/
structure M1 (X : Cx) (o : Expr) (m : Str) (apos : Pos) (e : Expr) (cpos : Pos) : Prop where
  base : attributeBase o m X.env (eval o X.env) = eval o X.env
  few : ((backTo cpos (starEach [e] X.env)).all (fun x => !x.1) && (backToKw cpos (keywordEach [] X.env)).all (fun x => x.1.isSome)
    && decide (([e] : List Expr).length + ([] : List Keyword).length + (if ([] : List Keyword).isEmpty then 0 else 1) < 30)) = true
  line : (apos.endLine == cpos.line) = true
  trees : backTo cpos (starEach [e] X.env) = [(false, eval e X.env)]
structure M2 (X : Cx) (o : Expr) (m : Str) (apos : Pos) (e f : Expr) (cpos : Pos) : Prop where
  base : attributeBase o m X.env (eval o X.env) = eval o X.env
  few : ((backTo cpos (starEach [e, f] X.env)).all (fun x => !x.1) && (backToKw cpos (keywordEach [] X.env)).all (fun x => x.1.isSome)
    && decide (([e, f] : List Expr).length + ([] : List Keyword).length + (if ([] : List Keyword).isEmpty then 0 else 1) < 30)) = true
  line : (apos.endLine == cpos.line) = true
  trees : backTo cpos (starEach [e, f] X.env) = [(false, eval e X.env), (false, eval f X.env)]

/-- a is a dict, whatever its keys -/
def IsD (H : Hp) (a : Addr) : Prop := (∃ kvs, Rd H a (.dK kvs)) ∨ ∃ kvs, Rd H a (.dT kvs)
section
variable {X : Cx} {pins : List (Addr × Obj)} {σ : St} {H : Hp} {s : Shared} {a : Addr} {y d : V} {u r : Value} {o : Option V} {A : Around} {E : Value → Shared → Prop}
end

def tDGet1 (td ty : TE) : TE := fun σ H Q => td σ H fun x H1 => ∃ a, x = .ref a ∧ IsD H1 a ∧ ty σ H1 fun y H2 => ∃ o, DGet H2 a y o ∧ Q (o.getD .non) H2
def tDGet2 (td ty tx : TE) : TE := fun σ H Q => td σ H fun x H1 => ∃ a, x = .ref a ∧ IsD H1 a ∧ ty σ H1 fun y H2 => tx σ H2 fun z H3 => ∃ o, DGet H3 a y o ∧ Q (o.getD z) H3
/-- d.pop(k): there; d.pop(k, x): there or not -/
def tDPop1 (td ty : TE) : TE := fun σ H Q => td σ H fun x H1 => ∃ a, x = .ref a ∧ IsD H1 a ∧ ty σ H1 fun y H2 => ∃ kvs k v, H2 a = some (.dK kvs) ∧ y = kV k ∧ valV kvs k = some v ∧ Q v (upd H2 a (.dK (dropK kvs k)))
def tDPop2 (td ty tx : TE) : TE := fun σ H Q => td σ H fun x H1 => ∃ a, x = .ref a ∧ IsD H1 a ∧ ty σ H1 fun y H2 => tx σ H2 fun z H3 => ∃ kvs k, H3 a = some (.dK kvs) ∧ y = kV k ∧
  (∀ v, valV kvs k = some v → Q v (upd H3 a (.dK (dropK kvs k)))) ∧ (valV kvs k = none → Q z H3)
section
variable {X : Cx} {o e f : Expr} {apos cpos : Pos} {td ty tx : TE}
end

/-! ### dict(d): a copy -/
section
variable {X : Cx} {pins : List (Addr × Obj)} {σ : St} {H : Hp} {s : Shared} {a : Addr} {kvs : List (Key × V)} {A : Around} {E : Value → Shared → Prop}
end


section
variable {X : Cx} {pins : List (Addr × Obj)} {σ : St} {H : Hp} {s : Shared} {a : Addr} {y : V} {u : Value} {A : Around} {E : Value → Shared → Prop}
end
end L2

set_option maxHeartbeats 4000000
namespace L2
open PySem PySem.Spec PyProof.Rows

/-! ### a list comprehension of one clause -/
structure CompScope (N : List Str) (esc : Scope) (own : List Str) (caps : List Nat) (N' : List Str) (sc : Scope) : Prop where
  kind : sc.kind = .function
  ndn : (sc.names.map (·.1)).Nodup
  uniq : ∀ y ∈ sc.names, y.2 = .local → sc.names.lookup y.1 = some .local
  nd : N'.Nodup
  eqN : N' = own ++ caps.map fun j => N.getD j ""
  cap : ∀ j ∈ caps, j < N.length ∧ sc.names.lookup (N.getD j "") = some .free
  fr : ∀ y ∈ sc.names, y.2 = .free → esc.names.lookup y.1 = some .cell ∨ esc.names.lookup y.1 = some .free

def capS (own : List Str) (caps : List Nat) (σ : St) : St := List.replicate own.length none ++ caps.map fun j => (σ[j]?).join

theorem closure_go {env : Env} : ∀ (names : List (Str × NameKind)) (acc : List (Str × Addr)), (∀ y ∈ names, y.2 = .free → ∃ c, env.cells.lookup y.1 = some c) → (∀ y c, acc.lookup y = some c → env.cells.lookup y = some c) →
    ∃ cl, (forIn names acc (fun x r => if (x.2 == NameKind.free) = true then (do let c ← cellOf env x.1; pure (ForInStep.yield ((x.1, c) :: r))) else pure (ForInStep.yield r)) : Sem (List (Str × Addr))) = pure cl ∧
      (∀ y c, cl.lookup y = some c → env.cells.lookup y = some c) ∧ (∀ y, (∃ c, acc.lookup y = some c) → ∃ c, cl.lookup y = some c) ∧ ∀ y ∈ names, y.2 = .free → ∃ c, cl.lookup y.1 = some c
  | [], acc, _, ha => ⟨acc, rfl, ha, fun _ h => h, fun _ h => absurd h (by simp)⟩
  | (n, k) :: r, acc, hn, ha => by
    rw [List.forIn_cons]
    by_cases hk : k = .free
    · subst hk
      obtain ⟨c, hc⟩ := hn (n, .free) List.mem_cons_self rfl
      have ha' : ∀ y d, ((n, c) :: acc).lookup y = some d → env.cells.lookup y = some d := fun y d e => by
        rw [List.lookup_cons] at e
        cases q : y == n with
        | true => rw [q] at e; cases e; rw [beq_iff_eq.mp q]; exact hc
        | false => rw [q] at e; exact ha y d e
      obtain ⟨cl, e, h1, h2, h3⟩ := closure_go r ((n, c) :: acc) (fun y hy => hn y (List.mem_cons_of_mem _ hy)) ha'
      have hh : ∀ y, (∃ d, acc.lookup y = some d) → ∃ d, ((n, c) :: acc).lookup y = some d := fun y ⟨d, hd⟩ => by
        rw [List.lookup_cons]
        cases q : y == n with
        | true => exact ⟨c, rfl⟩
        | false => exact ⟨d, hd⟩
      have hs : ∃ d, ((n, c) :: acc).lookup n = some d := ⟨c, by rw [List.lookup_cons, beq_self_eq_true]⟩
      refine ⟨cl, ?_, h1, fun y hy => h2 y (hh y hy), fun y hy hf => ?_⟩
      · have hcell : cellOf env n = pure c := by simp only [cellOf, hc]
        simp only [beq_self_eq_true, if_true, hcell]
        simp only [pure_bind]
        exact e
      · rcases List.mem_cons.mp hy with rfl | hy
        · exact h2 _ hs
        · exact h3 y hy hf
    · obtain ⟨cl, e, h1, h2, h3⟩ := closure_go r acc (fun y hy => hn y (List.mem_cons_of_mem _ hy)) ha
      refine ⟨cl, ?_, h1, h2, fun y hy hf => ?_⟩
      · have hb : (k == NameKind.free) = false := by simpa using hk
        simp only [hb, Bool.false_eq_true, if_false, pure_bind]
        exact e
      · rcases List.mem_cons.mp hy with rfl | hy
        · exact absurd hf hk
        · exact h3 y hy hf
theorem closure_of {scope : Scope} {env : Env} (h : ∀ y ∈ scope.names, y.2 = .free → ∃ c, env.cells.lookup y.1 = some c) :
    ∃ cl, closureFor scope env = pure cl ∧ (∀ y c, cl.lookup y = some c → env.cells.lookup y = some c) ∧ ∀ y ∈ scope.names, y.2 = .free → ∃ c, cl.lookup y.1 = some c := by
  obtain ⟨cl, e, h1, _, h3⟩ := closure_go (env := env) scope.names [] h (fun y c e => by simp at e)
  refine ⟨cl, ?_, h1, h3⟩
  have q : closureFor scope env = ((forIn scope.names ([] : List (Str × Addr)) (fun x r => if (x.2 == NameKind.free) = true then (do let c ← cellOf env x.1; pure (ForInStep.yield ((x.1, c) :: r))) else pure (ForInStep.yield r)) : Sem (List (Str × Addr))) >>= fun cs => pure cs) := rfl
  rw [q, e]
  rfl

theorem mem_of_lookup' {names : List (Str × NameKind)} {x : Str} {k : NameKind} (h : names.lookup x = some k) : (x, k) ∈ names := PySem.mem_of_lookup h

/-- what relabel does to a kind -/
theorem lookup_relabel {env : Env} {x : Str} : ∀ {names : List (Str × NameKind)} {k : NameKind},
    (names.map fun (n, k) => if (k == NameKind.free && env.scope.kind == .function && env.kindOf n == some .cell) then (n, NameKind.cell) else (n, k)).lookup x = some k →
    names.lookup x = some k ∨ (k = .cell ∧ names.lookup x = some .free)
  | [], _, h => by simp at h
  | (n, k0) :: r, k, h => by
    have ih := @lookup_relabel env x r k
    have h : List.lookup x ((if (k0 == NameKind.free && env.scope.kind == .function && env.kindOf n == some .cell) = true then (n, NameKind.cell) else (n, k0)) :: _) = some k := h
    rw [List.lookup_cons]
    by_cases hc : (k0 == NameKind.free && env.scope.kind == .function && env.kindOf n == some .cell) = true
    · rw [if_pos hc, List.lookup_cons] at h
      have hk0 : k0 = .free := by
        simp only [Bool.and_eq_true, beq_iff_eq] at hc
        exact hc.1.1
      cases q : x == n with
      | true => rw [q] at h; cases h; right; exact ⟨rfl, by rw [hk0]⟩
      | false => rw [q] at h; exact ih h
    · rw [if_neg hc, List.lookup_cons] at h
      cases q : x == n with
      | true => rw [q] at h; cases h; left; rfl
      | false => rw [q] at h; exact ih h

section
variable {X : Cx}
/-- the comprehension's own context: nothing is raised there -/
def cellB (scope : Scope) (x : Str) : Bool := scope.names.any fun y => y.1 == x && (match y.2 with | .cell => true | _ => false)
theorem cellB_mem {scope : Scope} {x : Str} (h : cellB scope x = true) : (x, NameKind.cell) ∈ scope.names := by
  unfold cellB at h
  obtain ⟨⟨n, k⟩, hm, hy⟩ := List.any_eq_true.mp h
  rw [Bool.and_eq_true] at hy
  obtain ⟨h1, h2⟩ := hy
  have e : n = x := by simpa using h1
  subst e
  cases k <;> first | exact hm | cases h2
theorem nd_lookup {x : Str} {k : NameKind} : ∀ {names : List (Str × NameKind)}, (names.map (·.1)).Nodup → (x, k) ∈ names → names.lookup x = some k
  | [], _, h => by cases h
  | (n, k0) :: r, nd, h => by
    rw [List.map_cons, List.nodup_cons] at nd
    rw [List.lookup_cons]
    rcases List.mem_cons.mp h with e | h
    · cases e
      simp
    · have : (x == n) = false := by
        refine Bool.eq_false_iff.mpr fun z => nd.1 ?_
        rw [← beq_iff_eq.mp z]
        exact List.mem_map.mpr ⟨_, h, rfl⟩
      rw [this]
      exact nd_lookup nd.2 h
theorem cells_app : ∀ (names : List (Str × NameKind)) (n : Nat) (acc : List (Str × Addr)), cellsFrom n names acc = cellsFrom n names [] ++ acc
  | [], n, acc => rfl
  | (x, k) :: r, n, acc => by
    unfold cellsFrom
    by_cases hk : (k == NameKind.cell) = true
    · rw [if_pos hk, if_pos hk, cells_app r (n + 1) ((x, n) :: acc), cells_app r (n + 1) [(x, n)], List.append_assoc]
      rfl
    · rw [if_neg hk, if_neg hk, cells_app r n acc]
theorem cells_mem {x : Str} {c : Addr} : ∀ (names : List (Str × NameKind)) (n : Nat) (acc : List (Str × Addr)), (x, c) ∈ cellsFrom n names acc → (x, NameKind.cell) ∈ names ∨ (x, c) ∈ acc
  | [], n, acc, h => .inr h
  | (y, k) :: r, n, acc, h => by
    unfold cellsFrom at h
    by_cases hk : (k == NameKind.cell) = true
    · rw [if_pos hk] at h
      rcases cells_mem r (n + 1) _ h with z | z
      · exact .inl (List.mem_cons_of_mem _ z)
      · rcases List.mem_cons.mp z with e | z
        · cases e
          have : k = .cell := by cases k <;> first | rfl | cases hk
          rw [this]
          exact .inl List.mem_cons_self
        · exact .inr z
    · rw [if_neg hk] at h
      rcases cells_mem r n _ h with z | z
      · exact .inl (List.mem_cons_of_mem _ z)
      · exact .inr z
theorem newEnvX {M : Model} {A : Around} {E : Value → Shared → Prop} {s : Shared} {scope : Scope} {globals : Addr} {cl : List (Str × Addr)} {qual : Str} {around : Env} {Q : Env → Shared → Prop}
    (hQ : Q (newEnv scope s.heap.objs.size globals (cellsFrom (s.heap.objs.size + 1) scope.names cl) qual none .none (some around) builtinsNs) { s with heap := pushCells (s.heap.push { cls := .type "dict", data := .dict #[] }) scope.names }) :
    wpAny M A (newFunctionEnv scope globals cl [] qual none .none (some around)) Q E s := by
  unfold newFunctionEnv
  refine wpAny_bind (wpAny_alloc ?_)
  refine wpAny_bind (wpAny_layCells _ (fun name kind cells => by cases hkc : kind == NameKind.cell <;> simp [hkc]) _ _ _ _ ?_)
  rw [show ({ s with heap := s.heap.push { cls := .type (if (some around).isSome = true then "dict" else "frame"), data := .dict #[] } } : Shared).heap.objs.size = s.heap.objs.size + 1 from Heap.size_push ..]
  exact wpAny_bind (by rw [List.forIn_nil]; exact wpAny_pure (wpAny_pure hQ))
def compCx (X : Cx) (scope : Scope) (cl : List (Str × Addr)) (N' : List Str) (C : Addr) (s : Shared) (H : Hp) (ex : List Addr) : Cx :=
  { X with N := N', s₀ := s, H₀ := H, env := compEnvC scope cl C X.env, outer := X.stack, ex := ex, fn := cellB scope, pn := [], xe := fun _ _ => False }

/-- what is asked of a comprehension behind its iterator: D the list that is filled -/
def CompK (own : List Str) (caps : List Nat) (g : TG) (tc : TT) (te : TE) (σ : St) (Q : VK) (J : It) (H1 : Hp) : Prop := ∀ D, H1 D = none →
  ∃ W : Nat → Nat → St → Hp → Prop, (∃ m, W 0 m (capS own caps σ) (upd H1 D (.lst []))) ∧ ∀ i m σ' H', W i m σ' H' →
    (J.stop i H' ∧ Q (.ref D) H') ∨ (J.go i H' ∧ ∃ N : St → Hp → Prop, (∀ σ2 H2, N σ2 H2 → ∃ m', m' < m ∧ W (i + 1) m' σ2 H2) ∧ ∀ x H2, J.yld i H' x H2 → g x σ' H2 fun σ3 H3 => tc σ3 H3 fun b H4 =>
      if b = true then te σ3 H4 fun v H5 => ∃ xs, H5 D = some (.lst xs) ∧ xs.length < sizeLine ∧ N σ3 (upd H5 D (.lst (xs ++ [v]))) else N σ3 H4)
/-- the reading: tc the test (tTrue without one) -/
def tComp (own : List Str) (caps : List Nat) (wi : TI) (g : TG) (tc : TT) (te : TE) : TE := fun σ H Q => wi σ H fun J H1 => CompK own caps g tc te σ Q J H1
def tTrue : TT := fun _ H Q => Q true H

/-- the tests of a comprehension -/
def PIf (X : Cx) (ifs : List Expr) (t : TT) : Prop :=
  ∀ (pins : List (Addr × Obj)) (s : Shared) (σ : St) (H : Hp) (Q : Bool → Hp → Prop), Inv X pins σ H s → t σ H Q →
    wpAny (model X.prog X.w) X.A (forIn ifs true fun c r => if r = true then do let ok ← isTrue c X.env (eval c X.env); pure (ForInStep.yield ok) else pure (ForInStep.yield r)) (TP X pins σ Q) X.xe s
theorem pif_nil : PIf X [] tTrue := fun _ _ _ H _ I h => wpAny_tests_nil ⟨H, I, h⟩
theorem pif_one {c : Expr} {t : TT} (h : PT X c t) : PIf X [c] t := fun pins s σ H Q I q => wpAny_tests_one (h pins s σ H Q I q)

theorem codeAny_compLoop_gen {prog : Program} {w : World} {A : Around} {R : Result → Shared → Prop} {s : Shared} {elt target iter : Expr} {ifs : List Expr} {scope : Scope} {pos : Pos} {it acc : Value} {env : Env} (I : Nat → Shared → Prop)
    (turn : ∀ n s, I n s → wpAny (model prog w) A (pyNext it) (fun r s₁ => match r with
      | none => R (.ok .next) s₁
      | some v => wpAny (model prog w) A (letOwnedTupleGo target it v) (fun _ s₁' => wpAny (model prog w) A (assign target env v) (fun _ s₂ =>
          wpAny (model prog w) A (forIn ifs true fun c r => if r = true then do let ok ← isTrue c env (eval c env); pure (ForInStep.yield ok) else pure (ForInStep.yield r)) (fun ok s₃ =>
            if ok = true then wpAny (model prog w) A (eval elt env) (fun x s₄ =>
              wpAny (model prog w) A (call (.builtin "list.append") [acc, x]) (fun _ s₅ => ∃ m, m < n ∧ I m s₅) (fun _ _ => False) s₄) (fun _ _ => False) s₃
            else ∃ m, m < n ∧ I m s₃) (fun _ _ => False) s₂) (fun _ _ => False) s₁') (fun _ _ => False) s₁) (fun _ _ => False) s)
    (n : Nat) (h : I n s) :
    codeAny (model prog w) A (.compLoop (.ListComp elt [⟨target, iter, ifs, 0⟩] scope pos) 0 it acc env) R s := by
  refine codeAny_loop rfl I (fun n s hI => ?_) n h
  show wpAny _ A ((compTurn (.ListComp elt [⟨target, iter, ifs, 0⟩] scope pos) 0 it acc env).onRaise (fun x => do noteFrame x env; theTreesLotGoes x)) _ _ s
  refine wpAny_noted ?_
  rw [compTurn_list]
  refine wpAny_bind (wpAny_standAt (wpAny_bind (wpAny_mono (turn n s hI) (fun r s₁ h₁ => ?_) fun _ _ h' => h'.elim)))
  cases r with
  | none => exact wpAny_pure h₁
  | some v =>
    refine wpAny_bind (wpAny_mono h₁ (fun _ s₁' h₁' => ?_) fun _ _ h' => h'.elim)
    refine wpAny_bind (wpAny_mono h₁' (fun _ s₂ h₂ => wpAny_bind (wpAny_mono h₂ (fun ok s₃ h₃ => ?_) fun _ _ h' => h'.elim)) fun _ _ h' => h'.elim)
    cases ok with
    | false => exact wpAny_pure ⟨rfl, h₃⟩
    | true =>
      exact wpAny_bind (wpAny_bind (wpAny_mono h₃ (fun x s₄ h₄ => wpAny_bind (wpAny_mono h₄ (fun _ s₅ h₅ => wpAny_pure (wpAny_pure ⟨rfl, h₅⟩)) fun _ _ h' => h'.elim)) fun _ _ h' => h'.elim))

/-- the block behind the iterator: the new list, the new names, the loop -/
theorem comp_block {own : List Str} {caps : List Nat} {N' : List Str} {esc scope : Scope} {elt iter tg : Expr} {ifs : List Expr} {pos : Pos} {g : TG} {tc : TT} {te : TE} {cl : List (Str × Addr)}
    (hesc : X.env.scope = esc) (S : CompScope X.N esc own caps N' scope) (hc : X.calm = true)
    (hcl1 : ∀ y c, cl.lookup y = some c → X.env.cells.lookup y = some c) (hcl2 : ∀ y ∈ scope.names, y.2 = .free → ∃ c, cl.lookup y.1 = some c)
    (hg : ∀ cl C s H ex, PG (compCx X scope cl N' C s H ex) tg g) (ht : ∀ cl C s H ex, PIf (compCx X scope cl N' C s H ex) ifs tc) (he : ∀ cl C s H ex, PE (compCx X scope cl N' C s H ex) elt te)
    {pins : List (Addr × Obj)} {σ : St} {H2 : Hp} {s2 : Shared} {it : Addr} {fp : List Addr} {tn : Nat → Heap → Prop} {J : It} {Q : VK} {RR : Value → Addr → Result → Shared → Prop} {E : Value → Shared → Prop}
    (I2 : Inv X pins σ H2 s2) (T : Turn X.prog X.w X.K tg J fp it tn) (st2 : tn 0 s2.heap) (f2 : ∀ b ∈ fp, FpOk X pins H2 b)
    (h : CompK own caps g tc te σ Q J H2)
    (hRR : ∀ D C s' m H', s'.heap.Ns C m → C ≠ X.env.locals → (∀ x c, X.env.cells.lookup x = some c → c ≠ C) → X.s₀.heap.objs.size ≤ C → (∀ p ∈ X.pn ++ pins, p.1 ≠ C) → H' C = none → Q (.ref D) H' → (∀ h', Heap.SameBut C s'.heap h' → Inv X pins σ H' { s' with heap := h' }) → RR (.ref D) C (.ok .next) s') :
    wpAny (model X.prog X.w) X.A (newList []) (fun acc s₃ => wpAny (model X.prog X.w) X.A (newFunctionEnv scope X.env.globals cl [] X.env.qual none .none (some X.env)) (fun cenv s₄ =>
      codeAny (model X.prog X.w) X.A (.compStart (.ListComp elt [⟨tg, iter, ifs, 0⟩] scope pos) 0 (.ref it) acc { cenv with scope := relabel scope X.env }) (RR acc cenv.locals) s₄) E s₃) E s2 := by
  refine wpAny_newObj_type (newEnvX ?_)
  dsimp only
  have hD : H2 s2.heap.objs.size = none := I2.hok.fresh (Nat.le_refl _)
  obtain ⟨W, ⟨m0, w0⟩, turn⟩ := h _ hD
  generalize hH3 : s2.heap.push { cls := .type "list", dict := none, data := .seq ([] : List Value).toArray } = g3
  have hC : g3.objs.size = s2.heap.objs.size + 1 := by rw [← hH3, Heap.size_push]
  have old3 : ∀ b o, s2.heap.get? b = some o → g3.get? b = some o := fun b o e => hH3 ▸ Heap.get?_push_of_some _ e
  have I3 : Inv X pins σ (upd H2 s2.heap.objs.size (.lst [])) { s2 with heap := g3, toks := s2.toks } :=
    I2.laid (t' := s2.toks) old3 (Nat.le_refl _) ⟨Nat.zero_le _, [], 0, .nil, hH3 ▸ Heap.get?_push_size _ rfl⟩
  generalize hh1 : pushCells (g3.push { cls := .type "dict", data := .dict #[] }) scope.names = h₁
  have k1 : ∀ b o, g3.get? b = some o → h₁.get? b = some o := fun b o e => hh1 ▸ pushCells_keeps _ _ b o (Heap.get?_push_of_some _ e)
  have hns₁ : h₁.Ns g3.objs.size (fun _ => none) := hh1 ▸ (Heap.Ns.new g3 (.type "dict")).keeps (pushCells_keeps _ _)
  have okA : CellsOk h₁ (g3.objs.size + 1) (cellsFrom (g3.objs.size + 1) scope.names []) := by
    have q := cellsFrom_ok scope.names (g3.push { cls := .type "dict", data := .dict #[] }) (g3.objs.size + 1) [] ⟨fun _ _ hm => (nomatch hm), List.Pairwise.nil⟩ (by rw [Heap.size_push]; exact Nat.le_refl _)
    rw [Heap.size_push, hh1] at q
    exact q
  have hcl' : cellsFrom (g3.objs.size + 1) scope.names cl = cellsFrom (g3.objs.size + 1) scope.names [] ++ cl := cells_app _ _ _
  have hsomeA : ∀ y, scope.names.lookup y = some .cell → ∃ c, (cellsFrom (g3.objs.size + 1) scope.names []).lookup y = some c := fun y hy => Option.isSome_iff_exists.mp (PySem.W.cellsFrom_some scope.names (g3.objs.size + 1) [] (.inl hy))
  generalize hcA : cellsFrom (g3.objs.size + 1) scope.names [] = cA at okA hcl' hsomeA
  have memA : ∀ y c, cA.lookup y = some c → (y, NameKind.cell) ∈ scope.names := fun y c e => by
    have := PySem.mem_of_lookup e
    rw [← hcA] at this
    rcases cells_mem _ _ _ this with z | z
    · exact z
    · cases z
  generalize hcE : cellsFrom (g3.objs.size + 1) scope.names cl = cE at hcl'
  have lkE : ∀ y c, cE.lookup y = some c → cA.lookup y = some c ∨ (cA.lookup y = none ∧ cl.lookup y = some c) := fun y c e => by
    rw [hcl', List.lookup_append] at e
    cases q : cA.lookup y with
    | none => rw [q] at e; exact .inr ⟨rfl, by simpa using e⟩
    | some c' => rw [q] at e; exact .inl (by simpa using e)
  have lkF : ∀ y c, scope.names.lookup y = some .free → cl.lookup y = some c → cE.lookup y = some c := fun y c hy e => by
    rw [hcl', List.lookup_append]
    cases q : cA.lookup y with
    | none => simpa using e
    | some c' =>
      have := nd_lookup S.ndn (memA y c' q)
      rw [hy] at this
      cases this
  have fpn : ∀ b ∈ fp, upd H2 s2.heap.objs.size (.lst []) b = none := fun b hb => by
    obtain ⟨o, ho, _⟩ := T.obj _ _ st2 b hb
    rw [upd_ne (Nat.ne_of_lt (Heap.lt_size ho))]
    exact (f2 b hb).1
  have fplt : ∀ b ∈ fp, b < g3.objs.size := fun b hb => by
    obtain ⟨o, ho, _⟩ := T.obj _ _ st2 b hb
    rw [hC]; exact Nat.lt_succ_of_lt (Heap.lt_size ho)
  -- the inner context
  generalize hX' : compCx X scope cE N' g3.objs.size { s2 with heap := g3, toks := s2.toks } (upd H2 s2.heap.objs.size (.lst [])) fp = X'
  have hfs : X'.fs = frs X.stack := by rw [← hX']; rfl
  have kindL : ∀ y, X'.env.kindOf y = some .cell ∨ X'.env.kindOf y = some .free → ∃ c, cE.lookup y = some c := fun y hy => by
    have hy' : (relabel scope X.env).names.lookup y = some .cell ∨ (relabel scope X.env).names.lookup y = some .free := by rw [← hX'] at hy; exact hy
    have hf : scope.names.lookup y = some .free → ∃ c, cE.lookup y = some c := fun hf => by
      obtain ⟨c, hc'⟩ := hcl2 _ (mem_of_lookup' hf) rfl
      exact ⟨c, lkF y c hf hc'⟩
    have hcc : scope.names.lookup y = some .cell → ∃ c, cE.lookup y = some c := fun hf => by
      obtain ⟨c, hc'⟩ := hsomeA y hf
      exact ⟨c, by rw [hcl', List.lookup_append, hc']; rfl⟩
    rcases hy' with q | q
    · rcases lookup_relabel q with z | z
      · exact hcc z
      · exact hf z.2
    · rcases lookup_relabel q with z | z
      · exact hf z
      · exact absurd z.1 (by decide)
  have cellsX : X'.env.cells = cE := by rw [← hX']; rfl
  have locX : X'.env.locals = g3.objs.size := by rw [← hX']; rfl
  have cne : ∀ x c, cl.lookup x = some c → c ≠ g3.objs.size ∧ c < g3.objs.size := fun x c e => by
    obtain ⟨v, q⟩ := I3.cell x c (hcl1 x c e)
    exact ⟨Nat.ne_of_lt q.lt, q.lt⟩
  have aboveA : ∀ x c, cA.lookup x = some c → g3.objs.size + 1 ≤ c := fun x c e => (okA.empty x c (PySem.mem_of_lookup e)).2
  have injE : ∀ x y c, cE.lookup x = some c → cE.lookup y = some c → x = y := fun x y c a b => by
    rcases lkE x c a with a | ⟨_, a⟩ <;> rcases lkE y c b with b | ⟨_, b⟩
    · exact name_of_addr okA.apart (PySem.mem_of_lookup a) (PySem.mem_of_lookup b)
    · have h1 : g3.objs.size + 1 ≤ c := aboveA x c a
      exact absurd (Nat.lt_of_lt_of_le (cne y c b).2 (Nat.le_of_succ_le h1)) (Nat.lt_irrefl _)
    · have h1 : g3.objs.size + 1 ≤ c := aboveA y c b
      exact absurd (Nat.lt_of_lt_of_le (cne x c a).2 (Nat.le_of_succ_le h1)) (Nat.lt_irrefl _)
    · exact I3.ok.inj x y c (hcl1 x c a) (hcl1 y c b)
  have ok' : X'.Ok := by
    refine hX' ▸ ⟨I3.ok.mod, S.kind, I3.ok.glob, I3.ok.blt, Nat.le_refl _, injE, ?_, ?cab, I3.ok.hd, I3.ok.frames, .inl rfl, ?_, ?_, ?_, ?_, ?_, I3.stack, I3.stkFree⟩
    · intro y hy
      exact kindL y (by rw [← hX']; exact hy)
    · intro x c z e
      have hm := nd_lookup S.ndn (cellB_mem z)
      rcases lkE x c e with e | ⟨n, _⟩
      · exact Nat.le_of_succ_le (aboveA x c e)
      · obtain ⟨c', hc'⟩ := hsomeA x hm
        rw [n] at hc'
        cases hc'
    · intro b hb
      refine ⟨Nat.ne_of_lt (fplt b hb), fun x c e => ?_⟩
      rcases lkE x c e with e | ⟨_, e⟩
      · have h1 : g3.objs.size + 1 ≤ c := aboveA x c e
        exact fun z => absurd (Nat.lt_of_lt_of_le (fplt b hb) (Nat.le_of_succ_le h1)) (by rw [z]; exact Nat.lt_irrefl _)
      · exact (f2 b hb).2.2.2.2.1 x c (hcl1 x c e)
    · exact I3.bs
    · exact Nat.le_trans I3.ok.bsz I3.sz
    · intro b o e hb
      rcases (f2 b hb).2.2.2.1 with z | z
      · exact I3.ok.noex b o e z
      · exact absurd (Nat.lt_of_lt_of_le (Heap.lt_size e) (Nat.le_trans I3.ok.bsz z)) (Nat.lt_irrefl _)
    · intro b hb z
      rcases List.mem_cons.mp (I3.stkSub b z) with e | e
      · exact (f2 b hb).2.1 e
      · exact (f2 b hb).2.2.1 e
  have I4 : Inv X' [] (capS own caps σ) (upd H2 s2.heap.objs.size (.lst [])) { s2 with heap := h₁, toks := s2.toks } := by
    refine ⟨ok', hX' ▸ rfl, I3.bare, ?_, ⟨_, by rw [locX]; exact hns₁, ?_⟩, ?_, ?_, ?_, ?_, ?_, ?_⟩
    · rw [← hX']; exact Un.kept k1
    · intro i x v hN hσ hV
      have hN' : N'[i]? = some x := by rw [← hX'] at hN; exact hN
      unfold capS at hσ
      by_cases hi : i < own.length
      · rw [List.getElem?_append_left (by simpa using hi), List.getElem?_replicate] at hσ
        rw [if_pos hi] at hσ; cases hσ
      · rw [List.getElem?_append_right (by simpa using hi), List.length_replicate, List.getElem?_map] at hσ
        rw [S.eqN, List.getElem?_append_right (by omega), List.getElem?_map] at hN'
        cases hj : caps[i - own.length]? with
        | none => rw [hj] at hσ; cases hσ
        | some j =>
          rw [hj] at hσ hN'
          have hx : X.N.getD j "" = x := Option.some.inj hN'
          obtain ⟨hjl, hjf⟩ := S.cap j (List.mem_of_getElem? hj)
          rw [hx] at hjf
          have hjN : X.N[j]? = some x := by
            rw [List.getElem?_eq_getElem hjl, ← hx, List.getD_eq_getElem?_getD, List.getElem?_eq_getElem hjl]; rfl
          have hv : σ[j]? = some (some v) := by
            have q : (σ[j]?).join = some v := Option.some.inj hσ
            cases q' : σ[j]? with
            | none => rw [q'] at q; cases q
            | some o => rw [q'] at q; rw [show o = some v from q]
          have hkX := S.fr (x, .free) (mem_of_lookup' hjf) rfl
          rw [← hesc] at hkX
          obtain ⟨m, hn, hl⟩ := I3.loc
          have visX : Vis X.env.scope x := hkX.elim (fun z => .inr (.inl z)) fun z => .inr (.inr z)
          obtain ⟨u, ru, look⟩ := hl j x v hjN hv visX
          refine ⟨u, ru, ?_⟩
          obtain ⟨c, hcc⟩ := hcl2 (x, .free) (mem_of_lookup' hjf) rfl
          rcases look with ⟨a, _⟩ | ⟨_, c', hc', hcell⟩
          · rcases hkX with z | z
            · rw [show X.env.kindOf x = X.env.scope.names.lookup x from rfl, z] at a; cases a
            · rw [show X.env.kindOf x = X.env.scope.names.lookup x from rfl, z] at a; cases a
          · have : c' = c := by rw [hcl1 _ _ hcc] at hc'; cases hc'; rfl
            subst this
            refine .inr ⟨?_, c', by rw [cellsX]; exact lkF _ _ hjf hcc, hcell.keeps k1⟩
            rcases hV with q | q | q
            · have q' : (relabel scope X.env).names.lookup x = some .local := by rw [← hX'] at q; exact q
              rcases lookup_relabel q' with z | z
              · rw [hjf] at z; cases z
              · exact absurd z.1 (by decide)
            · exact .inl q
            · exact .inr q
    · intro x c e
      rw [cellsX] at e
      rcases lkE x c e with e | ⟨_, e⟩
      · exact ⟨_, (okA.empty x c (PySem.mem_of_lookup e)).1⟩
      · obtain ⟨v, q⟩ := I3.cell x c (hcl1 x c e)
        exact ⟨v, q.keeps k1⟩
    · rw [locX]; exact I3.hok.fresh (Nat.le_refl _)
    · intro x c e
      rw [cellsX] at e
      rcases lkE x c e with e | ⟨_, e⟩
      · exact I3.hok.fresh (Nat.le_of_succ_le (aboveA x c e))
      · exact I3.freeC x c (hcl1 x c e)
    · intro p hp
      have : p ∈ ([] : List (Addr × Obj)) := by rw [← hX'] at hp; exact hp
      cases this
    · rw [← hX']; exact I3.hok.kept k1
    · rw [← hX']
      show (capS own caps σ).length = N'.length
      unfold capS
      rw [S.eqN, List.length_append, List.length_append, List.length_replicate, List.length_map, List.length_map]
  have pX : X'.prog = X.prog := by rw [← hX']; rfl
  have wX : X'.w = X.w := by rw [← hX']; rfl
  have KX : X'.K = X.K := by rw [← hX']; rfl
  have AX : X'.A = X.A := by rw [← hX']; rfl
  have cX : X'.calm = true := by rw [← hX']; exact hc
  have xX : X'.xe = fun _ _ => False := by rw [← hX']; rfl
  have envX : X'.env = compEnvC scope cE g3.objs.size X.env := by rw [← hX']; rfl
  have exX : X'.ex = fp := by rw [← hX']; rfl
  have hg' : PG X' tg g := hX' ▸ hg _ _ _ _ _
  have ht' : PIf X' ifs tc := hX' ▸ ht _ _ _ _ _
  have he' : PE X' elt te := hX' ▸ he _ _ _ _ _
  have fpk : ∀ {H' : Hp}, (∀ b ∈ fp, H' b = none) → ∀ b ∈ fp, FpOk X' [] H' b := fun {H'} hn b hb => by
    refine ⟨hn b hb, ?_, ?_, ?_, ?_, ?_⟩
    · rw [locX]; exact Nat.ne_of_lt (fplt b hb)
    · rw [hfs]; intro z
      rcases List.mem_cons.mp (I3.stkSub b z) with e | e
      · exact (f2 b hb).2.1 e
      · exact (f2 b hb).2.2.1 e
    · rw [exX]; exact .inl hb
    · intro x c e
      rw [cellsX] at e
      rcases lkE x c e with e | ⟨_, e⟩
      · have h1 : g3.objs.size + 1 ≤ c := aboveA x c e
        exact fun z => absurd (Nat.lt_of_lt_of_le (fplt b hb) (Nat.le_of_succ_le h1)) (by rw [z]; exact Nat.lt_irrefl _)
      · exact (f2 b hb).2.2.2.2.1 x c (hcl1 x c e)
    · intro p hp
      have : p ∈ ([] : List (Addr × Obj)) := by rw [← hX'] at hp; exact hp
      cases this
  have st1 : tn 0 h₁ := T.keep _ _ _ st2 fun b hb o e => k1 b o (old3 b o e)
  -- back to the outer context
  have back : ∀ {σ' : St} {H' : Hp} {s' : Shared} {pp : List (Addr × Obj)} {h' : Heap}, Inv X' pp σ' H' s' → Heap.SameBut g3.objs.size s'.heap h' → Inv X pins σ H' { s' with heap := h' } := fun {σ' H' s' pp h'} I' sb => by
    have u := I'.base
    rw [hfs, exX] at u
    have hs0 : X'.s₀.heap = g3 := by rw [← hX']; rfl
    have hH0 : X'.H₀ = upd H2 s2.heap.objs.size (.lst []) := by rw [← hX']; rfl
    rw [hs0, hH0] at u
    have ne : ∀ b o, g3.get? b = some o → b ≠ g3.objs.size := fun b o e => Nat.ne_of_lt (Heap.lt_size e)
    have hCn : H' g3.objs.size = none := by have := I'.free; rw [locX] at this; exact this
    refine I3.call' (s' := { s' with heap := h' }) (ch := fp) ?_ ⟨?_, ?_, ?_, ?_, ?_, ?_, ?_⟩ ?_ I'.bare ?_
    · have := I'.os; rw [← hX'] at this; exact this
    · intro b o e n hb hx; exact sb.extBut b o (ne b o e) (u.keep b o e n hb hx)
    · intro b o e n hb hx
      obtain ⟨sl, q⟩ := u.slot b o e n hb hx
      exact ⟨sl, sb.extBut b _ (ne b o e) q⟩
    · exact u.free
    · intro b o e hx
      obtain ⟨o', q⟩ := u.there b o e hx
      exact ⟨o', sb.extBut b _ (ne b o e) q⟩
    · exact u.tups
    · exact u.frzs
    · exact u.tbls
    · have hok := I'.hok
      rw [pX, wX] at hok
      intro a o e
      refine (hok a o e).stay (fun b v hb r => sb.extBut b v ?_ r) (fun b r => r) fun b xs r => r
      rcases hb with rfl | hb
      · intro z; rw [z, hCn] at e; cases e
      · intro z; rw [z, hCn] at hb; cases hb
    · intro b hb
      refine ⟨(f2 b hb).2.2.2.1, (f2 b hb).2.1, (f2 b hb).2.2.2.2.1, (f2 b hb).2.2.2.2.2⟩
  have loop : ∀ s3 : Shared, s3 = { s2 with heap := h₁, toks := s2.toks } →
      codeAny (model X.prog X.w) X.A (.compLoop (.ListComp elt [⟨tg, iter, ifs, 0⟩] scope pos) 0 (.ref it) (.ref s2.heap.objs.size) (compEnvC scope cE g3.objs.size X.env)) (RR (.ref s2.heap.objs.size) g3.objs.size) s3 := by
    rintro s3 rfl
    refine codeAny_compLoop_gen (fun n s' => ∃ i σ' H', Inv X' [] σ' H' s' ∧ tn i s'.heap ∧ (∀ b ∈ fp, H' b = none) ∧ W i n σ' H') ?_ m0 ⟨0, _, _, I4, st1, fpn, w0⟩
    rintro n s5 ⟨i, σ5, H5, I5, st5, fr5, w5⟩
    rcases turn i n σ5 H5 w5 with ⟨stop, qn⟩ | ⟨go, N, hN, step⟩
    · have q := T.done X' pX wX KX cX i [] s5 σ5 H5 (fun _ _ => False) I5 (fpk fr5) st5 stop
      rw [AX] at q
      refine thn q fun r s6 ⟨hr, I6⟩ => ?_
      subst hr
      obtain ⟨m, hn, _⟩ := I6.loc
      rw [locX] at hn
      refine hRR _ _ s6 m H5 hn ?_ ?_ I3.sz ?_ ?_ qn fun h' sb => back I6 sb
      · exact Nat.ne_of_gt I3.lt
      · intro x c e
        obtain ⟨v, q⟩ := I3.cell x c e
        exact Nat.ne_of_lt q.lt
      · intro pp hpp
        exact Nat.ne_of_lt (Heap.lt_size (I3.pin pp hpp).1)
      · have := I6.free; rw [locX] at this; exact this
    · have q := T.item X' pX wX KX cX i [] s5 σ5 H5 (fun _ _ => False) I5 (fpk fr5) st5 go
      rw [AX] at q
      refine thn q fun r s6 ⟨u, hr, h6⟩ => ?_
      subst hr
      refine thn h6 fun _ s7 ⟨x, H7, I7, r7, y7, st7, fr7⟩ => ?_
      have I7' := I7.pinned (fpk fr7) (T.obj _ _ st7)
      have q8 := hg' _ s7 σ5 H7 x u _ I7' r7 (step x H7 y7)
      rw [pX, wX, AX, envX, xX] at q8
      refine thn q8 fun _ s8 ⟨σ8, H8, I8, q8⟩ => ?_
      have q9 := ht' _ s8 σ8 H8 _ I8 q8
      rw [pX, wX, AX, envX, xX] at q9
      have again : ∀ {σ' : St} {H' : Hp} {s' : Shared}, Inv X' ([] ++ pinsAt fp s7.heap) σ' H' s' → N σ' H' → ∃ m, m < n ∧ ∃ i σ' H', Inv X' [] σ' H' s' ∧ tn i s'.heap ∧ (∀ b ∈ fp, H' b = none) ∧ W i m σ' H' := fun {σ' H' s'} I' n' => by
        obtain ⟨m', hm, w'⟩ := hN σ' H' n'
        refine ⟨m', hm, i + 1, σ', H', I'.unpinned, T.keep _ _ _ st7 fun b hb o e => (I'.pin (b, o) (List.mem_append_right _ (List.mem_append_right _ (mem_pinsAt hb e)))).1, fun b hb => ?_, w'⟩
        obtain ⟨o, e, d⟩ := T.obj _ _ st7 b hb
        exact (I'.pin (b, o) (List.mem_append_right _ (List.mem_append_right _ (mem_pinsAt hb e)))).2.1
      refine thn q9 fun ok s9 ⟨H9, I9, q9⟩ => ?_
      cases ok with
      | false =>
        simp only [Bool.false_eq_true, if_false] at q9 ⊢
        exact again I9 q9
      | true =>
        simp only [if_true] at q9 ⊢
        have q10 := he' _ s9 σ8 H9 _ I9 q9
        rw [pX, wX, AX, envX, xX] at q10
        refine thn q10 fun y s10 ⟨v, H10, I10, rv, xs, hxs, hz, q10⟩ => ?_
        have q11 := mt_append (X := X') _ s10 σ8 H10 (.ref s2.heap.objs.size) [v] (.ref s2.heap.objs.size) [y] (fun _ H' => N σ8 H') I10 rfl (.cons rv .nil) ⟨_, xs, v, rfl, rfl, hxs, hz, q10⟩
        rw [pX, wX, AX, xX] at q11
        exact thn q11 fun _ s11 ⟨_, H11, I11, _, q11⟩ => again I11 q11
  exact codeAny_compStart_list (loop _ rfl) (T.self _ 0 _ _ _ st1 (loop _ rfl))

/-- [elt for tg in iter if c] -/
theorem pe_comp {own : List Str} {caps : List Nat} {N' : List Str} {esc scope : Scope} {elt iter tg : Expr} {ifs : List Expr} {pos : Pos} {wi : TI} {g : TG} {tc : TT} {te : TE}
    (hesc : X.env.scope = esc) (S : CompScope X.N esc own caps N' scope) (hc : X.calm = true) (hi : PI X tg iter wi)
    (hg : ∀ cl C s H ex, PG (compCx X scope cl N' C s H ex) tg g) (ht : ∀ cl C s H ex, PIf (compCx X scope cl N' C s H ex) ifs tc) (he : ∀ cl C s H ex, PE (compCx X scope cl N' C s H ex) elt te)
    (hs : ∀ x, foldedSetIterable iter X.env x = pure x := by intro _; rfl) :
    PE X (.ListComp elt [⟨tg, iter, ifs, 0⟩] scope pos) (tComp own caps wi g tc te) := by
  intro pins s σ H Q I h
  obtain ⟨cl, hcl, hcl1, hcl2⟩ := closure_of (scope := scope) (env := X.env) fun y hy hf => by
    have := S.fr y hy hf
    rw [← hesc] at this
    exact I.ok.has y.1 this
  rw [eval_ListComp]
  refine wpAny_comprehension_free (use := none) rfl hs hcl S.kind S.uniq (thn (hi pins s σ H _ I h) fun v s1 h1 => thn h1 fun itv s2 h2 => ?_)
  obtain ⟨it, fp, tn, J, H2, e, I2, T, st2, f2, q⟩ := h2
  subst e
  refine comp_block (RR := fun acc C => compPost (model X.prog X.w) X.A X.xe none (EP X pins σ Q) acc C) hesc S hc hcl1 hcl2 hg ht he I2 T st2 f2 q ?_
  intro D C s' m H' hn _ _ _ _ _ q' hb
  exact ⟨m, hn, fun h' sb => ⟨.ref D, H', hb h' sb, rfl, q'⟩⟩
end
end L2

set_option maxHeartbeats 4000000
namespace L2
open PySem PySem.Spec PyProof.Rows

/-! ### data behind a value -/
mutual
inductive RdD (K : PySem.W.Frag) (H : Hp) : V → PyData → Prop where
  | non : RdD K H .non .none
  | bl (b : Bool) : RdD K H (.bl b) (.bool b)
  | int (i : Int) : RdD K H (.int i) (.int i)
  | str (x : Str) : RdD K H (.str x) (.str x)
  | lst {a : Addr} {xs : List V} {ds : List PyData} (h : SqL K H a xs) (r : RdDs K H xs ds) : RdD K H (.ref a) (.list ds)
  | tup {a : Addr} {xs : List V} {ds : List PyData} (h : SqT K H a xs) (r : RdDs K H xs ds) : RdD K H (.ref a) (.tuple ds)
inductive RdDs (K : PySem.W.Frag) (H : Hp) : List V → List PyData → Prop where
  | nil : RdDs K H [] []
  | cons {x : V} {xs : List V} {d : PyData} {ds : List PyData} (h : RdD K H x d) (r : RdDs K H xs ds) : RdDs K H (x :: xs) (d :: ds)
end
section
variable {K : PySem.W.Frag} {H H' : Hp}
theorem Same.tup {a : Addr} {xs : List V} (e : Same H H') (h : SqT K H a xs) : SqT K H' a xs := by
  rcases h with (h | ⟨o, h⟩) | h
  · exact .inl (.inl (e _ _ h))
  · exact .inl (.inr ⟨o, e _ _ h⟩)
  · exact .inr h
theorem Same.upd {p : Addr} {o : HO} (h : H p = none) : Same H (upd H p o) := fun b u e => by rw [upd_ne (ne_of_none e h)]; exact e
theorem Same.updr {p : Addr} {o : HO} (s : Same H H') (h : H p = none) : Same H (L2.upd H' p o) := fun b u e => by rw [upd_ne (ne_of_none e h)]; exact s b u e
mutual
theorem RdD.mono (s : Same H H') : ∀ {v : V} {d : PyData}, RdD K H v d → RdD K H' v d
  | _, _, .non => .non
  | _, _, .bl b => .bl b
  | _, _, .int i => .int i
  | _, _, .str x => .str x
  | _, _, .lst h r => .lst (s.seq h) (RdDs.mono s r)
  | _, _, .tup h r => .tup (s.tup h) (RdDs.mono s r)
theorem RdDs.mono (s : Same H H') : ∀ {v : List V} {d : List PyData}, RdDs K H v d → RdDs K H' v d
  | _, _, .nil => .nil
  | _, _, .cons h r => .cons (RdD.mono s h) (RdDs.mono s r)
end
theorem RdDs.ints : ∀ ns : List Int, RdDs K H (ns.map V.int) (ns.map PyData.int)
  | [] => .nil
  | n :: r => .cons (.int n) (RdDs.ints r)
end
section
variable {X : Cx} {pins : List (Addr × Obj)} {σ : St} {H : Hp} {s : Shared}
mutual
theorem Inv.reads (I : Inv X pins σ H s) : ∀ {v : V} {d : PyData} {u : Value}, RdD X.K H v d → RelV v u → ∃ as, Reads s.heap u d as
  | _, _, _, .non, r => by cases (show _ = Value.none from r); exact ⟨_, .none⟩
  | _, _, _, .bl b, r => by cases (show _ = Value.bool b from r); exact ⟨_, .bool b⟩
  | _, _, _, .int i, r => by obtain ⟨t, rfl⟩ := r; exact ⟨_, .int i t⟩
  | _, _, _, .str x, r => by obtain ⟨t, rfl⟩ := r; exact ⟨_, .str x t⟩
  | _, _, _, .lst (a := a) h q, r => by
    cases (show _ = Value.ref a from r)
    obtain ⟨its, rv, ⟨o, n, e, c, _, d⟩, _⟩ := I.list h
    obtain ⟨as, ra⟩ := Inv.readsAll I q rv
    exact ⟨_, .list e c d (by simpa using ra)⟩
  | _, _, _, .tup (a := a) h q, r => by
    cases (show _ = Value.ref a from r)
    obtain ⟨its, rv, ⟨o, e, c, n, d⟩, _⟩ := I.tuple h
    obtain ⟨as, ra⟩ := Inv.readsAll I q rv
    exact ⟨_, .tuple e c d (by simpa using ra)⟩
theorem Inv.readsAll (I : Inv X pins σ H s) : ∀ {v : List V} {d : List PyData} {u : List Value}, RdDs X.K H v d → Vals v u → ∃ as, ReadsAll s.heap u d as
  | _, _, _, .nil, r => by cases r; exact ⟨_, .nil⟩
  | _, _, _, .cons h q, r => by
    cases r with
    | cons r rr =>
      obtain ⟨a1, h1⟩ := Inv.reads I h r
      obtain ⟨a2, h2⟩ := Inv.readsAll I q rr
      exact ⟨_, .cons h1 h2⟩
end
end
/-- what may be shown and compared -/
structure FitD (d : PyData) : Prop where
  sh : d.showable = true
  nd : d.hasDict = false
  dp : d.depth ≤ 60
  sz : d.shown.length ≤ sizeLine
section
variable {X : Cx}
theorem op_eqD (hu : X.A.units + 64 < cLine) : OpR X (compareOp .Eq) (fun x y H Q => ∃ dx dy, RdD X.K H x dx ∧ RdD X.K H y dy ∧ SeqAt.shaped dx = true ∧ SeqAt.shaped dy = true ∧ Q (.bl (PyData.eqv dx dy)) H) := by
  intro pins s σ H x y v u Q I rx ry ⟨dx, dy, h1, h2, s1, s2, q⟩
  obtain ⟨as, r1⟩ := I.reads h1 rx
  obtain ⟨bs, r2⟩ := I.reads h2 ry
  exact SeqAt.compareEq_shaped r1 r2 s1 s2 hu ⟨.bl _, H, I, rfl, q⟩
/-- repr -/
theorem call_repr {k : Nat} (hr : Room k X.A) : CallR X (.builtin "repr") (fun xs H Q => ∃ x d, xs = [x] ∧ RdD X.K H x d ∧ FitD d ∧ Q (.str d.shown) H) := by
  intro pins s σ H xs us Q I r h
  obtain ⟨x, d, rfl, hd, F, q⟩ := h
  obtain ⟨u, rfl, ru⟩ := vals1 r
  obtain ⟨as, rd⟩ := I.reads hd ru
  have hun : X.A.units + 61 < cLine := by have := hr.units; omega
  have fin : ∀ (h' : Heap) (u : Tok) (tk : Nat), (∀ b o, s.heap.get? b = some o → h'.get? b = some o) → EP X pins σ Q (.str d.shown u) { s with heap := h', toks := tk } := fun h' u tk k => ⟨.str d.shown, H, I.kept k, ⟨u, rfl⟩, q⟩
  cases rd with
  | none => exact P.repr_of_none (fin s.heap _ _ fun _ _ e => e)
  | bool b => exact P.repr_of_bool (by have := fin s.heap s.toks (s.toks + 1) fun _ _ e => e; simpa only [PyData.shown] using this)
  | int i t => exact P.repr_of_int (by simpa only [PyData.showable, decide_eq_true_eq] using F.sh) (by have := fin s.heap s.toks (s.toks + 1) fun _ _ e => e; simpa only [PyData.shown] using this)
  | str y t => exact P.repr_of_str (by have := fin s.heap s.toks (s.toks + 1) fun _ _ e => e; simpa only [PyData.shown] using this) (by simpa only [PyData.shown] using F.sz)
  | list h1 h2 h3 h4 => exact repr_of_reads' (.list h1 h2 h3 h4) F.sh (fun z => by rw [F.nd] at z; cases z) hr.gd (by have := F.dp; omega) (fun _ _ e => e) (fun h' u tk k => fin h' u tk k) F.sz
  | tuple h1 h2 h3 h4 => exact repr_of_reads' (.tuple h1 h2 h3 h4) F.sh (fun z => by rw [F.nd] at z; cases z) hr.gd (by have := F.dp; omega) (fun _ _ e => e) (fun h' u tk k => fin h' u tk k) F.sz
  | dict h1 h2 h3 h4 h5 => cases hd
/-- // by a positive divisor of less than 9000 bits -/
theorem op_fdivB : OpR X (binaryOp .FloorDiv) (rI (fun _ j => 0 < j ∧ j.natAbs.log2 < 9000) fun i j => .int (i / j)) := opI fun i j _ _ _ _ _ hc q => by
  have h1 : (0 : Int) < j := hc.1
  exact floordiv_int (by omega) (by rw [Int.fdiv_eq_ediv_of_nonneg i (by omega)]; exact q) (.inl (PyProof.noPylong_of_log2 hc.2))
end
end L2

set_option maxHeartbeats 4000000
namespace L2
open PySem PySem.Spec PyProof.Rows
/-- the members of a set made of a row of ints: how often each one is met first -/
abbrev metOf (ns : List Int) (n : Nat) : List Int := firstMet (fun i => ns.getD i 0) n
section
variable {prog : Program} {w : World} {A : Around} {E : Value → Shared → Prop} {s : Shared}
abbrev SetEnd (prog : Program) (w : World) (s : Shared) (ns : List Int) (n : Nat) (h' : Heap) : Prop :=
  h'.SetOf (intKind prog w) s.heap.objs.size (fun k' => (metOf ns n).any (· == k')) (metOf ns n).length ∧ ∀ b o, b < s.heap.objs.size → s.heap.get? b = some o → h'.get? b = some o
end
end L2

set_option maxHeartbeats 4000000
namespace L2
open PySem PySem.Spec PyProof.Rows
section
variable {X : Cx}
/-- range(n) as a thing -/
theorem call_range1 : CallR X (.type "range") (fun xs H Q => ∃ j : Int, xs = [.int j] ∧ ∀ p, H p = none → Q (.ref p) (upd H p (.rng 0 j))) := by
  intro pins s σ H xs us Q I r h
  obtain ⟨j, rfl, q⟩ := h
  obtain ⟨u, rfl, ru⟩ := vals1 r
  obtain ⟨t, rfl⟩ := ru
  exact call_range_1 ⟨.ref s.heap.objs.size, _, I.laid (a := s.heap.objs.size) (o := .rng 0 j) (fun b o e => Heap.get?_push_of_some _ e) (Nat.le_refl _) ⟨_, _, _, Heap.get?_push_size _ rfl⟩, rfl, q _ (I.hok.fresh (Nat.le_refl _))⟩
theorem call_range2 : CallR X (.type "range") (fun xs H Q => ∃ i j : Int, xs = [.int i, .int j] ∧ ∀ p, H p = none → Q (.ref p) (upd H p (.rng i j))) := by
  intro pins s σ H xs us Q I r h
  obtain ⟨i, j, rfl, q⟩ := h
  cases r with
  | cons r1 r =>
    obtain ⟨u, rfl, ru⟩ := vals1 r
    obtain ⟨t, rfl⟩ := r1
    obtain ⟨t', rfl⟩ := ru
    exact call_range_2 ⟨.ref s.heap.objs.size, _, I.laid (a := s.heap.objs.size) (o := .rng i j) (fun b o e => Heap.get?_push_of_some _ e) (Nat.le_refl _) ⟨_, _, _, Heap.get?_push_size _ rfl⟩, rfl, q _ (I.hok.fresh (Nat.le_refl _))⟩
/-- the ints lo, lo + 1, .. -/
def rngI (lo : Int) (n : Nat) : List Int := (List.range n).map fun i : Nat => lo + (i : Int)
theorem rngI_get {lo : Int} {n i : Nat} (h : i < n) : (rngI lo n)[i]? = some (lo + i) := by unfold rngI; rw [List.getElem?_map, List.getElem?_range h]; rfl
theorem rngI_len {lo : Int} {n : Nat} : (rngI lo n).length = n := by unfold rngI; rw [List.length_map, List.length_range]
theorem vals_rngI {lo : Int} {n : Nat} {acc : Array Value} (h : ItemsOf (fun i v => ∃ t, v = .int (lo + i * 1) t) acc n) : Vals ((rngI lo n).map V.int) acc.toList := by
  have go : ∀ (l : List Value) (k : Nat), (∀ (j : Nat) v, l[j]? = some v → ∃ t, v = .int (lo + ((k + j : Nat) : Int)) t) → Vals (((List.range' k l.length).map fun i : Nat => lo + (i : Int)).map V.int) l := by
    intro l
    induction l with
    | nil => intro k _; exact .nil
    | cons x r ih =>
      intro k hk
      rw [List.length_cons, List.range'_succ]
      refine .cons ?_ (ih (k + 1) fun j v hv => ?_)
      · obtain ⟨t, e⟩ := hk 0 x rfl
        exact ⟨t, e⟩
      · obtain ⟨t, e⟩ := hk (j + 1) v hv
        exact ⟨t, by rw [e]; congr 2; omega⟩
  have e := go acc.toList 0 fun j v hv => by
    rw [Array.getElem?_toList] at hv
    obtain ⟨t, e⟩ := h.2 j v hv
    exact ⟨t, by rw [e]; congr 1 <;> omega⟩
  rw [Array.length_toList, h.1] at e
  unfold rngI
  rw [List.range_eq_range']
  exact e
theorem call_list_rng (hc : X.calm = true) : CallR X (.type "list") (fun xs H Q => ∃ (a : Addr) (lo hi : Int), xs = [.ref a] ∧ H a = some (.rng lo hi) ∧ (-(2 ^ 62) ≤ lo ∧ lo < 2 ^ 62 ∧ -(2 ^ 62) ≤ hi ∧ hi < 2 ^ 62) ∧ (hi - lo).toNat ≤ sizeLine ∧
    ∀ l, H l = none → Q (.ref l) (upd H l (.lst ((rngI lo (hi - lo).toNat).map V.int)))) := by
  intro pins s σ H xs us Q I r h
  obtain ⟨a, lo, hi, rfl, ha, ⟨b1, b2, b3, b4⟩, hz, q⟩ := h
  obtain ⟨u, rfl, ru⟩ := vals1 r
  cases ru
  obtain ⟨t, u, v, e⟩ := (show ∃ t u v, s.heap.get? a = some { cls := .type "range", data := .fields #[.int lo t, .int hi u, .int 1 v] } from I.hok a _ ha)
  refine call_list_range (n := (hi - lo).toNat) (I.ok.hd hc) e (small_one b1 b2 b3 b4) (by rw [rangeSize_one]; split <;> omega) hz fun h' tk acc c' hk hl hit => ?_
  exact ⟨.ref _, _, I.laid (a := s.heap.objs.size) (o := .lst ((rngI lo (hi - lo).toNat).map V.int)) (t' := tk) hk (Nat.le_refl _) ⟨by rw [List.length_map, rngI_len]; exact hz, acc.toList, c', vals_rngI hit, by simpa using hl⟩, rfl, q _ (I.hok.fresh (Nat.le_refl _))⟩
end
end L2

set_option maxHeartbeats 4000000
namespace L2
open PySem PySem.Spec PyProof.Rows

/-! ### short forms -/
def nodupS : List Str → Bool
  | [] => true
  | x :: r => !(r.contains x) && nodupS r
theorem nodupS_ok : ∀ {l : List Str}, nodupS l = true → l.Nodup
  | [], _ => List.nodup_nil
  | x :: r, h => by
    unfold nodupS at h
    simp only [Bool.and_eq_true, Bool.not_eq_true'] at h
    refine List.nodup_cons.mpr ⟨fun z => ?_, nodupS_ok h.2⟩
    have := List.contains_iff_mem.mpr z
    rw [h.1] at this; cases this
def isLoc (sc : Scope) (x : Str) : Bool := match sc.names.lookup x with
  | some .local => true
  | some .cell => true
  | _ => false
theorem isLoc_ok {sc : Scope} {x : Str} (h : isLoc sc x = true) : Loc sc x := by
  unfold isLoc at h
  split at h
  · rename_i e; exact .inl e
  · rename_i e; exact .inr e
  · cases h
def isPlainLoc (sc : Scope) (x : Str) : Bool := match sc.names.lookup x with
  | some .local => true
  | _ => false
theorem isPlainLoc_ok {sc : Scope} {x : Str} (h : isPlainLoc sc x = true) : sc.names.lookup x = some .local := by
  unfold isPlainLoc at h
  split at h
  · rename_i e; exact e
  · cases h
def isVis (sc : Scope) (x : Str) : Bool := match sc.names.lookup x with
  | some .local => true
  | some .cell => true
  | some .free => true
  | _ => false
theorem isVis_ok {sc : Scope} {x : Str} (h : isVis sc x = true) : Vis sc x := by
  unfold isVis at h
  split at h
  · rename_i e; exact .inl e
  · rename_i e; exact .inr (.inl e)
  · rename_i e; exact .inr (.inr e)
  · cases h
def isGlob (sc : Scope) (x : Str) : Bool := match sc.names.lookup x with
  | some .globalImplicit => true
  | _ => false
def noStar : Expr → Bool
  | .Starred _ _ => false
  | _ => true
theorem star_cons {e : Expr} {es : List Expr} {env : Env} (h : noStar e = true) : starEach (e :: es) env = (false, eval e env) :: starEach es env := by cases e <;> first | rfl | cases h
def noStars : List Expr → Bool
  | [] => true
  | e :: r => noStar e && noStars r
theorem noStars_any {env : Env} {pos : Pos} : ∀ {es : List Expr}, noStars es = true → (backTo pos (starEach es env)).any (·.1) = false
  | [], _ => rfl
  | e :: r, h => by
    unfold noStars at h
    rw [Bool.and_eq_true] at h
    rw [star_cons h.1]
    exact noStars_any h.2
section
variable {X : Cx}
theorem pc {e : Expr} {es : List Expr} {te : TE} {t : TA} (ha : PE X e te) (hr : PA X es t) (hs : noStar e = true := by rfl) : PA X (e :: es) (tCons te t) := pa_cons ha hr (star_cons hs)
theorem gl_of {x : Str} (h : isGlob X.env.scope x = true) : Gl X x := by
  unfold isGlob at h
  split at h
  · rename_i e; exact e
  · cases h
/-- a name in slot i -/
theorem vn (i : Nat) {x : Str} {pos : Pos} (hN : X.N[i]? = some x := by rfl) (hv : isVis X.env.scope x = true := by kernel_rfl) (hd : (x == ("__debug__" : Str)) = false := by kernel_rfl) (hcd : (x == ("__classdict__" : Str)) = false := by kernel_rfl) :
    PE X (.Name x pos) (tVar i) := pe_var hN (isVis_ok hv) hd hcd
/-- the target in slot i, in a def -/
theorem gn (i : Nat) {x : Str} {pos : Pos} (hi : X.N[i]? = some x := by rfl) (hN : nodupS X.N = true := by kernel_rfl) (hx : isPlainLoc X.env.scope x = true := by kernel_rfl) : PG X (.Name x pos) (gName i) :=
  pg_name (nodupS_ok hN) hi (.inl (isPlainLoc_ok hx)) (.inr (isPlainLoc_ok hx))
theorem gnf (i : Nat) {x : Str} {pos : Pos} (hf : X.fn x = true) (hi : X.N[i]? = some x := by rfl) (hN : nodupS X.N = true := by kernel_rfl) (hx : isLoc X.env.scope x = true := by kernel_rfl) : PG X (.Name x pos) (gName i) :=
  pg_name (nodupS_ok hN) hi (isLoc_ok hx) (.inl hf)
/-- name = e -/
theorem sset (i : Nat) {x : Str} {e : Expr} {te : TE} {pos pos' : Pos} (hf : X.fn x = true) (he : PE X e te) (hi : X.N[i]? = some x := by rfl) (hN : nodupS X.N = true := by kernel_rfl) (hx : isLoc X.env.scope x = true := by kernel_rfl)
    (hs : swapsWith e (some (.Name x pos')) pos.line X.env = pure false := by rfl) : PS X (.Assign [.Name x pos'] e pos) (tAsg te (gName i)) :=
  ps_set (nodupS_ok hN) hi (isLoc_ok hx) he hs (.inl hf)
/-- a call of a built-in function, a type -/
theorem cb {x : Str} {id : String} {r : List V → Hp → VK → Prop} {e : Expr} {es : List Expr} {t : TA} {p pos : Pos} (hc : CallR X (.builtin id) r) (hm : X.mg x = none) (ha : PA X (e :: es) t) (hg : isGlob X.env.scope x = true := by kernel_rfl) (hv : bootBuiltins x = some (.builtin id) := by kernel_rfl)
    (hn : x ≠ "__name__" := by decide) (hd : (x == ("__debug__" : Str)) = false := by kernel_rfl) (he : noStar e = true := by rfl) (hpl : noStars es = true := by rfl) :
    PE X (.Call (.Name x p) (e :: es) [] pos) (tCB r t) := pe_callB hc (gl_of hg) hm hv ha hn hd (star_cons he) (noStars_any hpl)
theorem ct {x : Str} {T : String} {r : List V → Hp → VK → Prop} {e : Expr} {es : List Expr} {t : TA} {p pos : Pos} (hc : CallR X (.type T) r) (hm : X.mg x = none) (ha : PA X (e :: es) t) (hg : isGlob X.env.scope x = true := by kernel_rfl) (hv : bootBuiltins x = some (.type T) := by kernel_rfl)
    (hn : x ≠ "__name__" := by decide) (hd : (x == ("__debug__" : Str)) = false := by kernel_rfl) (he : noStar e = true := by rfl) (hpl : noStars es = true := by rfl) :
    PE X (.Call (.Name x p) (e :: es) [] pos) (tCB r t) := pe_callTy hc (gl_of hg) hm hv ha hn hd (star_cons he) (noStars_any hpl)
theorem rng1 {tg a : Expr} {ta : TA} {p pos : Pos} (hm : X.mg "range" = none) (ha : PA X [a] ta) (hg : isGlob X.env.scope "range" = true := by kernel_rfl) (hs : starEach [a] X.env = [(false, eval a X.env)] := by rfl) : PI X tg (.Call (.Name "range" p) [a] [] pos) (iRng1 ta) := pi_range1 (gl_of hg) hm ha hs
theorem rng2 {tg a b : Expr} {ta : TA} {p pos : Pos} (hm : X.mg "range" = none) (ha : PA X [a, b] ta) (hg : isGlob X.env.scope "range" = true := by kernel_rfl) (hs : starEach [a, b] X.env = [(false, eval a X.env), (false, eval b X.env)] := by rfl) (hs2 : starEach [b] X.env = [(false, eval b X.env)] := by rfl) :
    PI X tg (.Call (.Name "range" p) [a, b] [] pos) (iRng2 ta) := pi_range2 (gl_of hg) hm ha hs hs2
end
/-- a def of the text, with its promise -/
def Fn (P : Program) (w : World) (K : PySem.W.Frag) (mg : Str → Option Value) (base : Heap) (CX : CXT) (k : Nat) (x : Str) (ps : List Str) (sp : Sp) : Prop :=
  ∃ f fd, FnOk P w K mg base CX k f fd ps sp ∧ mg x = some (.ref f) ∧ PySem.W.keepIn K (.ref f) = true ∧ Binds K fd ps []
section
variable {X : Cx}
theorem fnc {CX : CXT} {k j : Nat} {x : Str} {ps : List Str} {sp : Sp} {E : XK} {e : Expr} {es : List Expr} {t : TA} {p pos : Pos} (G : Fn X.prog X.w X.K X.mg X.base CX k x ps sp) (hr : Room j X.A) (hx : Passes CX X E) (ha : PA X (e :: es) t) (hk : k ≤ j := by decide)
    (hg : isGlob X.env.scope x = true := by kernel_rfl) (hd : (x == ("__debug__" : Str)) = false := by kernel_rfl) (he : noStar e = true := by rfl) (hpl : noStars es = true := by rfl) :
    PE X (.Call (.Name x p) (e :: es) [] pos) (tCall sp [] E t) := by
  obtain ⟨f, fd, F, hm, kp, b⟩ := G
  exact pe_call F (hr.mono hk) (gl_of hg) hm kp b .nil hx ha hd (star_cons he) (noStars_any hpl)
end
/-- a def as the top has written it: from its facts -/
theorem Fn.mk {P : Program} {w : World} {K : PySem.W.Frag} {mg : Str → Option Value} {base h : Heap} {CX : CXT} {k : Nat} {x : Str} {ps : List Str} {sp : Sp} {st : Stmt} {f : Addr} {oc : Value} {od an : Option Addr} {osl : Array (Option Value)} {kV doc pm cdv ct : Value} (X : K.In h) (G : h.Ns mainGlobals mg)
    (a : PySem.W.nsIn K mainGlobals x = some (some (.ref f))) (l : K.lookup f = some ⟨oc, od, .func (PySem.W.fnOf x x (defArgs st) (defBody st) (defScope st) .none kV doc pm an cdv ct), osl⟩) (c : PySem.W.codeIn K cdv x = true) (kp : PySem.W.keepIn K (.ref f) = true)
    (hok : ∀ fd, Fun K x x st f fd → FnOk P w K mg base CX k f fd ps sp)
    (hb : ∀ (kV doc pm : Value) (an : Option Addr) (cdv ct : Value) (us : List Value), us.length = ps.length → bindArgs (PySem.W.fnOf x x (defArgs st) (defBody st) (defScope st) .none kV doc pm an cdv ct) ⟨us, []⟩ = pure (ps.zip us)) :
    Fn P w K mg base CX k x ps sp :=
  ⟨f, _, hok _ (fun_mk l c kp), PySem.W.mg_of X G a, kp, (fun_mk l c kp).binds hb⟩

/-- whether a thing of kind n is one of T -/
def isaB (n T : String) : Bool := n == T || (n == "bool" && T == "int")
def kinds7 : List String := ["NoneType", "bool", "int", "str", "list", "tuple", "dict"]
/-- x is of the kind n -/
def Kd (K : PySem.W.Frag) (H : Hp) (x : V) (n : String) : Prop := TyOf K H x (.type n) ∧ n ∈ kinds7
/-- isinstance(x, T), T the name of a built-in type -/
def rIsa (K : PySem.W.Frag) (T : String) : List V → Hp → VK → Prop := fun xs H Q => ∃ x n, xs = [x, .ty T] ∧ Kd K H x n ∧ Q (.bl (isaB n T)) H
/-! ### the same with the written part named -/
section
variable {X : Cx}
theorem ixT (K : PySem.W.Frag) (hK : X.K = K := by rfl) : IxR X (rIxT K) := hK ▸ ix_tup
theorem ixL (K : PySem.W.Frag) (hK : X.K = K := by rfl) : IxR X (rIxL K) := hK ▸ ix_list
def rLen (K : PySem.W.Frag) : List V → Hp → VK → Prop := fun xs H Q => ∃ p ys, xs = [.ref p] ∧ (SqL K H p ys ∨ SqT K H p ys) ∧ Q (.int ys.length) H
theorem lenK (K : PySem.W.Frag) (hK : X.K = K := by rfl) : CallR X (.builtin "len") (rLen K) := hK ▸ call_len_seq
theorem itT (K : PySem.W.Frag) {tg l : Expr} {tl : TE} (hl : PE X l tl) (hK : X.K = K := by rfl) : PI X tg l (iTup K tl) := hK ▸ pi_tup hl
theorem itL (K : PySem.W.Frag) {tg l : Expr} {tl : TE} (hl : PE X l tl) (hK : X.K = K := by rfl) : PI X tg l (iList K tl) := hK ▸ pi_list hl
end
/-! ### a comprehension, its scope looked at by computing -/
def compOk (N : List Str) (esc : Scope) (own : List Str) (caps : List Nat) (N' : List Str) (sc : Scope) : Bool :=
  (sc.kind == .function) && nodupS (sc.names.map (·.1)) && sc.names.all (fun y => y.2 != .local || isPlainLoc sc y.1) && nodupS N' && decide (N' = own ++ caps.map fun j => N.getD j "") &&
    caps.all (fun j => decide (j < N.length) && (match sc.names.lookup (N.getD j "") with | some .free => true | _ => false)) &&
    sc.names.all (fun y => y.2 != .free || (match esc.names.lookup y.1 with | some .cell => true | some .free => true | _ => false))
theorem CompScope.of {N : List Str} {esc : Scope} {own : List Str} {caps : List Nat} {N' : List Str} {sc : Scope} (h : compOk N esc own caps N' sc = true) : CompScope N esc own caps N' sc := by
  unfold compOk at h
  simp only [Bool.and_eq_true, List.all_eq_true, decide_eq_true_eq, beq_iff_eq, bne_iff_ne, ne_eq, Bool.or_eq_true] at h
  obtain ⟨⟨⟨⟨⟨⟨h1, h2⟩, h3⟩, h4⟩, h5⟩, h6⟩, h7⟩ := h
  refine ⟨h1, nodupS_ok h2, fun y hy e => ?_, nodupS_ok h4, h5, fun j hj => ⟨(h6 j hj).1, ?_⟩, fun y hy e => ?_⟩
  · rcases h3 y hy with z | z
    · exact absurd e z
    · exact isPlainLoc_ok z
  · have := (h6 j hj).2
    split at this
    · rename_i z; exact z
    · cases this
  · rcases h7 y hy with z | z
    · exact absurd e z
    · split at z
      · rename_i q; exact .inl q
      · rename_i q; exact .inr q
      · cases z
theorem cmp {X : Cx} (own : List Str) (caps : List Nat) (N' : List Str) {scope : Scope} {elt iter tg : Expr} {ifs : List Expr} {pos : Pos} {wi : TI} {g : TG} {tc : TT} {te : TE} (hc : X.calm = true) (hi : PI X tg iter wi)
    (hg : ∀ cl C s H ex, PG (compCx X scope cl N' C s H ex) tg g) (ht : ∀ cl C s H ex, PIf (compCx X scope cl N' C s H ex) ifs tc) (he : ∀ cl C s H ex, PE (compCx X scope cl N' C s H ex) elt te)
    (hS : compOk X.N X.env.scope own caps N' scope = true := by kernel_rfl) (hs : ∀ x, foldedSetIterable iter X.env x = pure x := by intro _; rfl) :
    PE X (.ListComp elt [⟨tg, iter, ifs, 0⟩] scope pos) (tComp own caps wi g tc te) := pe_comp rfl (.of hS) hc hi hg ht he hs
end L2

set_option maxHeartbeats 4000000
namespace L2
open PySem PySem.Spec PyProof.Rows
section
variable {X : Cx}
/-- t + u, whatever they hold: the new tuple, or the one of both that is not empty -/
def rCatU : R2 := fun x y H Q => ∃ (a b : Addr) (xs ys : List V), x = .ref a ∧ y = .ref b ∧ H a = some (.tup xs) ∧ H b = some (.tup ys) ∧ xs.length + ys.length ≤ sizeLine ∧ ∀ p H', Same H H' → H' p = some (.tup (xs ++ ys)) → Q (.ref p) H'
end
/-- while: a word by a number that falls, and what holds behind it -/
theorem tw_intro {c : TT} {tb : TS} {D : Ends} {σ : St} {H : Hp} (Pv : Nat → St → Hp → Prop) (Ex : St → Hp → Prop) (hend : ∀ σ H, Ex σ H → D.nx σ H) (h0 : ∃ m, Pv m σ H)
    (turn : (∀ σ H, Ex σ H → D.nx σ H) → ∀ m σ H, Pv m σ H → c σ H fun b H1 => if b = true then ∃ N : St → Hp → Prop, (∀ σ' H', N σ' H' → ∃ m', m' < m ∧ Pv m' σ' H') ∧ tb { D with nx := N, ct := N, bk := D.nx } σ H1 else D.nx σ H1) :
    tWhile c tb D σ H := ⟨Pv, h0, turn hend⟩
end L2

set_option maxHeartbeats 4000000
namespace L2
open PySem PySem.Spec PyProof.Rows
/-- an iterator that yields the row xs, whatever grows -/
structure SeqIt (J : It) (H : Hp) (xs : List V) : Prop where
  go : ∀ (i : Nat) H', Same H H' → i < xs.length → J.go i H'
  yld : ∀ (i : Nat) H' x H2, Same H H' → i < xs.length → J.yld i H' x H2 → H2 = H' ∧ xs[i]? = some x
  stop : ∀ H', Same H H' → J.stop xs.length H'
theorem seq_tup {K : PySem.W.Frag} {H : Hp} {a : Addr} {xs : List V} (h : SqT K H a xs) : SeqIt (Itt K a) H xs :=
  ⟨fun i H' s hi => ⟨xs, _, s.tup h, List.getElem?_eq_getElem hi⟩, fun i H' x H2 s _ y => ⟨y.1, y.2 xs (s.tup h)⟩, fun H' s => ⟨xs, s.tup h, Nat.le_refl _⟩⟩
theorem seq_lst {K : PySem.W.Frag} {H : Hp} {a : Addr} {xs : List V} (h : SqL K H a xs) : SeqIt (Itl K a) H xs :=
  ⟨fun i H' s hi => ⟨xs, _, s.seq h, List.getElem?_eq_getElem hi⟩, fun i H' x H2 s _ y => ⟨y.1, y.2 xs (s.seq h)⟩, fun H' s => ⟨xs, s.seq h, Nat.le_refl _⟩⟩
theorem seq_rng {H : Hp} (lo : Int) (n : Nat) : SeqIt (Itr lo n) H ((rngI lo n).map V.int) := by
  have hl : ((rngI lo n).map V.int).length = n := by rw [List.length_map, rngI_len]
  refine ⟨fun i H' s hi => by rw [hl] at hi; exact hi, fun i H' x H2 s hi y => ?_, fun H' s => by show n ≤ _; rw [hl]; exact Nat.le_refl _⟩
  rw [hl] at hi
  exact ⟨y.1, by rw [y.2, List.getElem?_map, rngI_get hi]; rfl⟩
/-- a comprehension of one name that only makes new things: f tells what is put in for each item -/
theorem comp_seq {J : It} {own : List Str} {caps : List Nat} {g : TG} {tc : TT} {te : TE} {σ : St} {H : Hp} {Q : VK} {xs : List V} (S : SeqIt J H xs) (cs : St) (hcs : capS own caps σ = none :: cs) (f : V → Option V) (hz : xs.length ≤ 1000000)
    (hs : ∀ (i : Nat) x v0 H', xs[i]? = some x → Same H H' → ∀ (R : St → V → Hp → Prop) (R' : St → Hp → Prop), (∀ v H5, f x = some v → Same H' H5 → R (some x :: cs) v H5) → (∀ H4, f x = none → Same H' H4 → R' (some x :: cs) H4) →
      g x (v0 :: cs) H' fun σ3 H3 => tc σ3 H3 fun b H4 => if b = true then te σ3 H4 (R σ3) else R' σ3 H4)
    (hd : ∀ D H', H D = none → Same H H' → H' D = some (.lst (xs.filterMap f)) → Q (.ref D) H') :
    CompK own caps g tc te σ Q J H := by
  intro D hD
  refine ⟨fun i m σ' H' => m = xs.length - i ∧ i ≤ xs.length ∧ (∃ v0, σ' = v0 :: cs) ∧ Same H H' ∧ H' D = some (.lst ((xs.take i).filterMap f)), ⟨_, rfl, Nat.zero_le _, ⟨none, hcs⟩, Same.upd hD, by rw [upd_same, List.take_zero]; rfl⟩, ?_⟩
  rintro i m σ' H' ⟨rfl, hi, ⟨v0, rfl⟩, s, hl⟩
  by_cases hlt : i < xs.length
  · refine .inr ⟨S.go i H' s hlt, _, fun σ2 H2 z => z, fun x H2 y => ?_⟩
    obtain ⟨rfl, hx⟩ := S.yld i H' x H2 s hlt y
    have ht : xs.take (i + 1) = xs.take i ++ [x] := by rw [List.take_add_one, hx]; rfl
    have hlen : ((xs.take i).filterMap f).length ≤ i := Nat.le_trans (List.length_filterMap_le _ _) (by rw [List.length_take]; omega)
    refine hs i x v0 H2 hx s _ _ (fun v H5 e s5 => ?_) (fun H4 e s4 => ?_)
    · refine ⟨_, s5 _ _ hl, ?_, xs.length - (i + 1), by omega, rfl, hlt, ⟨_, rfl⟩, (s.trans s5).updr hD, ?_⟩
      · have : (16777216 : Nat) = sizeLine := by decide
        omega
      · rw [upd_same, ht, List.filterMap_append, List.filterMap_cons, e]; rfl
    · refine ⟨xs.length - (i + 1), by omega, rfl, hlt, ⟨_, rfl⟩, s.trans s4, ?_⟩
      rw [s4 _ _ hl, ht, List.filterMap_append, List.filterMap_cons, e]
      simp
  · have e : i = xs.length := by omega
    subst e
    refine .inl ⟨S.stop H' s, hd D H' hD s ?_⟩
    rw [hl, List.take_length]
/-- a for over a row: Pv by the turn -/
theorem for_seq {J : It} {g : TG} {tb : TS} {D : Ends} {σ : St} {H0 H : Hp} {xs : List V} (S : SeqIt J H0 xs) (Pv : Nat → St → Hp → Prop) (h0 : Pv 0 σ H) (hS : ∀ i σ H, Pv i σ H → Same H0 H)
    (hs : ∀ (i : Nat) x σ H, xs[i]? = some x → Pv i σ H → g x σ H fun σ2 H2 => tb { D with nx := Pv (i + 1), ct := Pv (i + 1), bk := D.nx } σ2 H2) (hd : ∀ σ H, Pv xs.length σ H → D.nx σ H) :
    ∃ W : Nat → Nat → St → Hp → Prop, (∃ m, W 0 m σ H) ∧ ∀ i m σ H, W i m σ H →
      (J.stop i H ∧ D.nx σ H) ∨ (J.go i H ∧ ∃ N : St → Hp → Prop, (∀ σ' H', N σ' H' → ∃ m', m' < m ∧ W (i + 1) m' σ' H') ∧ ∀ x H', J.yld i H x H' → g x σ H' fun σ2 H2 => tb { D with nx := N, ct := N, bk := D.nx } σ2 H2) := by
  refine ⟨fun i m σ H => m = xs.length - i ∧ i ≤ xs.length ∧ Pv i σ H, ⟨_, rfl, Nat.zero_le _, h0⟩, ?_⟩
  rintro i m σ H ⟨rfl, hi, p⟩
  have s := hS i σ H p
  by_cases hlt : i < xs.length
  · refine .inr ⟨S.go i H s hlt, Pv (i + 1), fun σ' H' p' => ⟨xs.length - (i + 1), by omega, rfl, hlt, p'⟩, fun x H' y => ?_⟩
    obtain ⟨rfl, hx⟩ := S.yld i H x H' s hlt y
    exact hs i x σ _ hx p
  · have e : i = xs.length := by omega
    subst e
    exact .inl ⟨S.stop H s, hd σ H p⟩
theorem tT {A B : Hp → Prop} {σ : St} {H : Hp} (h : A H) : tTrue σ H fun b H4 => if b = true then A H4 else B H4 := by
  show if true = true then A H else B H
  rw [if_pos rfl]; exact h
theorem fm_some {α β : Type} (g : α → β) : ∀ xs : List α, xs.filterMap (fun y => some (g y)) = xs.map g
  | [] => rfl
  | x :: r => by rw [List.filterMap_cons, List.map_cons, fm_some g r]
theorem fm_if {α β : Type} (p : α → Bool) (g : α → β) : ∀ xs : List α, xs.filterMap (fun y => if p y = true then some (g y) else none) = (xs.filter p).map g
  | [] => rfl
  | x :: r => by
    rw [List.filterMap_cons, List.filter_cons, fm_if p g r]
    by_cases h : p x = true
    · rw [if_pos h, if_pos h]; rfl
    · rw [if_neg h, if_neg h]
theorem iteP {c A B : Prop} [Decidable c] (hc : c) (h : A) : if c then A else B := by rw [if_pos hc]; exact h
theorem iteN {c A B : Prop} [Decidable c] (hc : ¬ c) (h : B) : if c then A else B := by rw [if_neg hc]; exact h
theorem ixget {xs : List V} {i : Int} (h0 : 0 ≤ i) (h1 : i < xs.length) : ∃ v, atI xs i = some v ∧ v ∈ xs := by
  obtain ⟨j, rfl⟩ := Int.eq_ofNat_of_zero_le h0
  have hj : j < xs.length := by omega
  exact ⟨xs[j], atI_nat (List.getElem?_eq_getElem hj), List.getElem_mem hj⟩
/-- one name, no test -/
theorem comp_map {J : It} {own : List Str} {caps : List Nat} {te : TE} {σ : St} {H : Hp} {Q : VK} {xs : List V} (S : SeqIt J H xs) (cs : St) (hcs : capS own caps σ = none :: cs) (f : V → V) (hz : xs.length ≤ 1000000)
    (hs : ∀ (i : Nat) x H', xs[i]? = some x → Same H H' → ∀ R : VK, (∀ H5, Same H' H5 → R (f x) H5) → te (some x :: cs) H' R)
    (hd : ∀ D H', H D = none → Same H H' → H' D = some (.lst (xs.map f)) → Q (.ref D) H') : CompK own caps (gName 0) tTrue te σ Q J H := by
  refine comp_seq S cs hcs (fun x => some (f x)) hz (fun i x v0 H' hx s R R' h1 h2 => ?_) fun D H' hD s hl => hd D H' hD s (by rw [hl, fm_some])
  show tTrue (some x :: cs) H' fun b H4 => if b = true then te (some x :: cs) H4 (R (some x :: cs)) else R' (some x :: cs) H4
  exact tT (A := fun H4 => te (some x :: cs) H4 (R (some x :: cs))) (hs i x H' hx s _ fun H5 s5 => h1 _ H5 rfl s5)
/-- one name, a test -/
theorem comp_filt {J : It} {own : List Str} {caps : List Nat} {tc : TT} {te : TE} {σ : St} {H : Hp} {Q : VK} {xs : List V} (S : SeqIt J H xs) (cs : St) (hcs : capS own caps σ = none :: cs) (p : V → Bool) (f : V → V) (hz : xs.length ≤ 1000000)
    (hs : ∀ (i : Nat) x H', xs[i]? = some x → Same H H' → ∀ (R : VK) (R' : Hp → Prop), (p x = true → ∀ H5, Same H' H5 → R (f x) H5) → (p x = false → ∀ H4, Same H' H4 → R' H4) → tc (some x :: cs) H' fun b H4 => if b = true then te (some x :: cs) H4 R else R' H4)
    (hd : ∀ D H', H D = none → Same H H' → H' D = some (.lst ((xs.filter p).map f)) → Q (.ref D) H') : CompK own caps (gName 0) tc te σ Q J H := by
  refine comp_seq S cs hcs (fun x => if p x = true then some (f x) else none) hz (fun i x v0 H' hx s R R' h1 h2 => ?_) fun D H' hD s hl => hd D H' hD s (by rw [hl, fm_if])
  exact hs i x H' hx s (R (some x :: cs)) (R' (some x :: cs)) (fun e H5 s5 => h1 _ H5 (by rw [if_pos e]) s5) fun e H4 s4 => h2 H4 (by rw [if_neg (by rw [e]; decide)]) s4
/-! ### data of ints -/
theorem showAll_ints : ∀ {ns : List Int}, (∀ n ∈ ns, n.natAbs < 2 ^ 200) → PyData.showableAll (ns.map PyData.int) = true ∧ PyData.hasDictAll (ns.map PyData.int) = false ∧ PyData.depthAll (ns.map PyData.int) = 0 ∧ PyData.leavesShortAll 300 (ns.map PyData.int) = true ∧ PyData.bulkAll (ns.map PyData.int) = ns.length ∧ PyData.canLayAll0 (ns.map PyData.int) = true
  | [], _ => ⟨rfl, rfl, rfl, rfl, rfl, rfl⟩
  | n :: r, h => by
    obtain ⟨h1, h2, h3, h4, h5, h6⟩ := showAll_ints (ns := r) fun m hm => h m (List.mem_cons_of_mem _ hm)
    have hn := h n List.mem_cons_self
    have hlog : n.natAbs.log2 < 1920 := by
      by_cases h0 : n.natAbs = 0
      · rw [h0]; decide +kernel
      · have := (Nat.log2_lt h0).mpr hn
        omega
    have hlen : (PyData.shown (.int n)).length ≤ 300 := by
      have h2 : n.natAbs.log2 < 200 := by
        by_cases h0 : n.natAbs = 0
        · rw [h0]; decide +kernel
        · exact (Nat.log2_lt h0).mpr hn
      have := int_text_length_le (k := 200) (by decide) h2
      simp only [PyData.shown]
      rw [PySem.ofString_length]; omega
    refine ⟨?_, ?_, ?_, ?_, ?_, ?_⟩
    · simp only [List.map_cons, PyData.showableAll, PyData.showable, h1, Bool.and_true, decide_eq_true_eq]; exact hlog
    · simp only [List.map_cons, PyData.hasDictAll, PyData.hasDict, h2, Bool.or_false]
    · simp only [List.map_cons, PyData.depthAll, PyData.depth, h3]; rfl
    · simp only [List.map_cons, PyData.leavesShortAll, PyData.leavesShort, h4, Bool.and_true, decide_eq_true_eq]; exact hlen
    · simp only [List.map_cons, PyData.bulkAll, PyData.bulk, h5, List.length_cons]; omega
    · simp only [List.map_cons, PyData.canLayAll0, PyData.canLay0, h6, Bool.and_true]
end L2

set_option maxHeartbeats 4000000
namespace L2
open PySem PySem.Spec PyProof.Rows
/-- a def stands behind the top under its name -/
def DefIn (K : PySem.W.Frag) (x : Str) (st : Stmt) : Prop :=
  ∃ (f : Addr) (oc : Value) (od an : Option Addr) (osl : Array (Option Value)) (kV doc pm cdv ct : Value), PySem.W.nsIn K mainGlobals x = some (some (.ref f)) ∧
    K.lookup f = some ⟨oc, od, .func (PySem.W.fnOf x x (defArgs st) (defBody st) (defScope st) .none kV doc pm an cdv ct), osl⟩ ∧ PySem.W.codeIn K cdv x = true ∧ PySem.W.keepIn K (.ref f) = true
theorem DefIn.mk {K : PySem.W.Frag} {x : Str} {st : Stmt} {f : Addr} {oc : Value} {od an : Option Addr} {osl : Array (Option Value)} {kV doc pm cdv ct : Value} (a : PySem.W.nsIn K mainGlobals x = some (some (.ref f)))
    (l : K.lookup f = some ⟨oc, od, .func (PySem.W.fnOf x x (defArgs st) (defBody st) (defScope st) .none kV doc pm an cdv ct), osl⟩) (c : PySem.W.codeIn K cdv x = true) (k : PySem.W.keepIn K (.ref f) = true) : DefIn K x st :=
  ⟨f, oc, od, an, osl, kV, doc, pm, cdv, ct, a, l, c, k⟩
theorem DefIn.fn {P : Program} {w : World} {K : PySem.W.Frag} {mg : Str → Option Value} {base h : Heap} {CX : CXT} {k : Nat} {x : Str} {ps : List Str} {sp : Sp} {st : Stmt} (D : DefIn K x st) (X : K.In h) (G : h.Ns mainGlobals mg)
    (hok : ∀ f fd, Fun K x x st f fd → FnOk P w K mg base CX k f fd ps sp)
    (hb : ∀ (kV doc pm : Value) (an : Option Addr) (cdv ct : Value) (us : List Value), us.length = ps.length → bindArgs (PySem.W.fnOf x x (defArgs st) (defBody st) (defScope st) .none kV doc pm an cdv ct) ⟨us, []⟩ = pure (ps.zip us)) :
    Fn P w K mg base CX k x ps sp := by
  obtain ⟨f, oc, od, an, osl, kV, doc, pm, cdv, ct, a, l, c, kp⟩ := D
  exact Fn.mk X G a l c kp (fun fd F => hok f fd F) hb
/-- the law's own def, for walk_of -/
theorem DefIn.law {P : Program} {w : World} {K : PySem.W.Frag} {mg : Str → Option Value} {h : Heap} {CX : CXT} {k : Nat} {x : Str} {p : Str} {sp : Sp} {st : Stmt} {fa : Addr} (D : DefIn K x st) (X : K.In h) (G : h.Ns mainGlobals mg) (hfa : mg x = some (.ref fa))
    (hok : ∀ (base : Heap) f fd, base.Ns mainGlobals mg → K.In base → Fun K x x st f fd → FnOk P w K mg base CX k f fd [p] sp)
    (hb : ∀ (kV doc pm : Value) (an : Option Addr) (cdv ct : Value) (s : Shared) (u : Value), BindsTo s (PySem.W.fnOf x x (defArgs st) (defBody st) (defScope st) .none kV doc pm an cdv ct) ⟨[u], []⟩ [(p, u)]) :
    ∃ fd : FuncData, (∀ (s : Shared) (u : Value), BindsTo s fd ⟨[u], []⟩ [(p, u)]) ∧ ∀ base : Heap, K.In base → base.Ns mainGlobals mg → FnOk P w K mg base CX k fa fd [p] sp := by
  obtain ⟨f, oc, od, an, osl, kV, doc, pm, cdv, ct, a, l, c, kp⟩ := D
  have e := hfa.symm.trans (PySem.W.mg_of X G a)
  cases e
  exact ⟨_, fun s u => hb kV doc pm an cdv ct s u, fun base kb nb => hok base _ _ nb kb (fun_mk l c kp)⟩
end L2

namespace L2
open PySem PySem.Spec PyProof.Rows
end L2

set_option maxHeartbeats 4000000
namespace L2
open PySem PySem.Spec PyProof.Rows
abbrev tob (dd : Option Addr) (items : Array Value) (n : Nat) (sl : Array (Option Value)) : Obj := { cls := .type "tuple", dict := dd, data := .seq items n, slots := sl }
end L2

set_option maxHeartbeats 4000000
namespace L2
open PySem PySem.Spec PyProof.Rows
section
variable {X : Cx}
/-- a tuple, not empty, so many times -/
def rRepT : R2 := fun x y H Q => ∃ (a : Addr) (xs : List V) (k : Nat), x = .ref a ∧ y = .int k ∧ H a = some (.tup xs) ∧ xs ≠ [] ∧ xs.length * k ≤ 1000000 ∧ k ≤ 1000000 ∧ ∀ p H', Same H H' → H' p = some (.tup (List.replicate k xs).flatten) → Q (.ref p) H'
end
end L2

set_option maxHeartbeats 4000000
namespace L2
open PySem PySem.Spec PyProof.Rows
section
variable {X : Cx}
/-- x in a list or tuple of data -/
def rInD (K : PySem.W.Frag) (neg : Bool) : R2 := fun x y H Q => ∃ p xs ds dx, y = .ref p ∧ (SqL K H p xs ∨ SqT K H p xs) ∧ RdDs K H xs ds ∧ RdD K H x dx ∧ PyData.canLayAll0 ds = true ∧ dx.canLay0 = true ∧ dx.depth ≤ 60 ∧ Q (.bl (if neg then !(ds.any fun y => y.eqv dx) else ds.any fun y => y.eqv dx)) H
theorem op_notInD (hu : X.A.units + 64 < cLine) : OpR X (compareOp .NotIn) (rInD X.K true) := by
  intro pins s σ H x y v u Q I rx ry h
  obtain ⟨p, xs, ds, dx, rfl, hq, hs, hd, c1, c2, dp, q⟩ := h
  cases ry
  obtain ⟨bs, r1⟩ := I.reads hd rx
  rcases hq with hq | hq
  · obtain ⟨its, r, pl, hz⟩ := I.list hq
    obtain ⟨as, ra⟩ := I.readsAll hs r
    refine SeqAt.notIn_listAt _ pl.isList (SeqAt.items_eqAt (by simpa using ra) r1 c1 c2 (by omega)) ⟨.bl _, H, I, rfl, ?_⟩
    rw [SeqAt.any_by_data (by simpa using ra) c1]
    exact q
  · obtain ⟨its, r, pl, hz⟩ := I.tuple hq
    obtain ⟨as, ra⟩ := I.readsAll hs r
    refine SeqAt.notIn_tupleAt _ pl (SeqAt.items_eqAt (by simpa using ra) r1 c1 c2 (by omega)) ⟨.bl _, H, I, rfl, ?_⟩
    rw [SeqAt.any_by_data (by simpa using ra) c1]
    exact q
theorem ninDK (K : PySem.W.Frag) (hu : X.A.units + 64 < cLine) (hK : X.K = K := by rfl) : OpR X (compareOp .NotIn) (rInD K true) := hK ▸ op_notInD hu
end
theorem canLay_ints : ∀ ns : List Int, PyData.canLayAll0 (ns.map PyData.int) = true
  | [] => rfl
  | n :: ns => by
    show (PyData.canLay0 (.int n) && PyData.canLayAll0 (ns.map PyData.int)) = true
    rw [canLay_ints ns]
    rfl
theorem canLay_tup (ns : List Int) : PyData.canLay0 (.tuple (ns.map PyData.int)) = true := canLay_ints ns
theorem canLay_tups : ∀ yss : List (List Int), PyData.canLayAll0 (yss.map fun ns => PyData.tuple (ns.map PyData.int)) = true
  | [] => rfl
  | y :: yss => by
    show (PyData.canLay0 (.tuple (y.map PyData.int)) && PyData.canLayAll0 (yss.map fun ns => PyData.tuple (ns.map PyData.int))) = true
    rw [canLay_tups yss, canLay_tup]
    rfl
theorem depth_ints : ∀ ns : List Int, PyData.depthAll (ns.map PyData.int) ≤ 1
  | [] => by decide
  | n :: ns => by
    have := depth_ints ns
    show max (PyData.depth (.int n)) (PyData.depthAll (ns.map PyData.int)) ≤ 1
    have e : PyData.depth (.int n) ≤ 1 := by simp [PyData.depth]
    omega
end L2
namespace L2
open PySem
theorem depth_tup (ns : List Int) : PyData.depth (.tuple (ns.map PyData.int)) ≤ 60 := by
  have := depth_ints ns
  show PyData.depthAll (ns.map PyData.int) + 1 ≤ 60
  omega
end L2

set_option maxHeartbeats 4000000
namespace L2
open PySem PySem.Spec PyProof.Rows
section
variable {X : Cx} {pos : Pos}
theorem par2 (i j : Nat) {x y : Str} {a b : Expr} {ta : TA} {px py pt : Pos} {kt k2 pt2} (hc : X.calm = true) (ha : PA X [a, b] ta) (hN : nodupS X.N = true := by kernel_rfl) (hi : X.N[i]? = some x := by rfl) (hj : X.N[j]? = some y := by rfl) (hij : i ≠ j := by decide)
    (hx : X.env.scope.names.lookup x = some .local := by rfl) (hy : X.env.scope.names.lookup y = some .local := by rfl)
    (hw : swappedStores [.Tuple [.Name x px, .Name y py] kt pt] (.Tuple [a, b] k2 pt2) X.env = pure (some [x, y]) := by rfl)
    (hs : swapsWithSole [.Tuple [.Name x px, .Name y py] kt pt] (.Tuple [a, b] k2 pt2) pos.line X.env = pure false := by rfl) :
    PS X (.Assign [.Tuple [.Name x px, .Name y py] kt pt] (.Tuple [a, b] k2 pt2) pos) (tPar i j ta) := ps_par hc (nodupS_ok hN) hi hj hij hx hy ha hw hs
/-- three names -/
def tPar3 (i j l : Nat) (ta : TA) : TS := fun D σ H => ta σ H fun vs H1 => ∃ u v w, vs = [u, v, w] ∧ D.nx (((σ.set l (some w)).set j (some v)).set i (some u)) H1
end
end L2

set_option maxHeartbeats 4000000
/-! tuple.index -/
namespace PyZ
open PySem
theorem tuple_indexAt (l : Addr) (items : Array Value) (x : Value) (e : Value → Bool) (j : Nat) (hj : j < items.size) (hit : e items[j] = true) (hno : ∀ (m : Nat) (hm : m < items.size), m < j → e items[m] = false) :
    Meets (Builtin.«tuple.index» { pos := [Value.ref l, x] }) fun A R s =>
      s.heap.IsTuple l items ∧ (∀ (y : Value), y ∈ items → SeqAt.EqAt A.in1 s y x (e y)) ∧
        R (Except.ok (Flow.ret (Value.int (↑j) s.toks))) { heap := s.heap, gens := s.gens, drawn := s.drawn, toks := s.toks + 1, os := s.os } := by
  intro prog w A R s h
  obtain ⟨hl, he, h⟩ := h
  obtain ⟨oa, ha, _, na, da⟩ := hl
  unfold Builtin.«tuple.index»
  refine wpAny_bind ?_
  show wpAny _ _ (pure (Value.ref l, [x])) _ _ s
  refine wpAny_pure ?_
  show wpAny _ _ (Builtin.Tuple.tupleItemsOf (Value.ref l) >>= _) _ _ s
  refine wpAny_bind ?_
  unfold Builtin.Tuple.tupleItemsOf
  refine wpAny_bind (wpAny_seqItems ha da ?_)
  refine wpAny_pure ?_
  show wpAny _ _ (pure 0 >>= _) _ _ s
  refine wpAny_bind (wpAny_pure ?_)
  show wpAny _ _ (pure items.size >>= _) _ _ s
  refine wpAny_bind (wpAny_pure ?_)
  refine wpAny_bind ?_
  rw [Nat.min_self, Std.Legacy.Range.forIn_eq_forIn_range']
  have hsz : (List.range' ([0:items.size] : Std.Legacy.Range).start ([0:items.size] : Std.Legacy.Range).size ([0:items.size] : Std.Legacy.Range).step) = List.range' 0 items.size := by
    show List.range' 0 ((items.size - 0 + 1 - 1) / 1) 1 = _
    rw [Nat.div_one, Nat.sub_zero, Nat.add_sub_cancel]
  rw [hsz]
  refine wpAny_forIn_list _ (fun rest b s' => s' = s ∧ b = (none, ()) ∧ ∃ k, rest = List.range' k (items.size - k) ∧ k ≤ j) _ ?_ ?_ _ _ ⟨rfl, rfl, 0, rfl, Nat.zero_le _⟩
  · rintro i rest b s' ⟨rfl, rfl, k, hr, hk⟩
    have hs : items.size - k = (items.size - (k + 1)) + 1 := by omega
    rw [hs, List.range'_succ] at hr
    obtain ⟨rfl, rfl⟩ := List.cons.inj hr
    have hi : i < items.size := by omega
    rw [Array.getElem?_eq_getElem hi]
    show wpAny _ _ (eqBool items[i] x >>= _) _ _ _
    refine wpAny_bind (he items[i] (Array.getElem_mem hi) _ _ _ _ ?_)
    by_cases hij : i = j
    · subst hij
      rw [hit, if_pos rfl]
      refine wpAny_bind ?_
      unfold retInt
      refine wpAny_bind (wpAny_mkInt ?_)
      refine wpAny_pure ?_
      refine wpAny_pure ?_
      show wpAny _ _ (pure _) _ _ _
      exact wpAny_pure h
    · rw [hno i hi (by omega), if_neg Bool.false_ne_true]
      refine wpAny_pure ?_
      exact ⟨rfl, rfl, i + 1, rfl, by omega⟩
  · rintro b s' ⟨rfl, rfl, k, hr, hk⟩
    have : items.size - k = 0 := by
      have := congrArg List.length hr
      rw [List.length_range'] at this
      exact this.symm
    omega
end PyZ

set_option maxHeartbeats 4000000
namespace L2
open PySem PySem.Spec PyProof.Rows
section
variable {X : Cx}
/-- t.index(y) of a tuple of flat items -/
def rTIdx (K : PySem.W.Frag) : V → List V → Hp → VK → Prop := fun x vs H Q => ∃ p xs y, ∃ j : Nat, x = .ref p ∧ vs = [y] ∧ SqT K H p xs ∧ flatV y = true ∧ xs.all flatV = true ∧ j < xs.length ∧ (∀ z, xs[j]? = some z → eqV z y = true) ∧ (∀ m z, m < j → xs[m]? = some z → eqV z y = false) ∧ Q (.int j) H
theorem mt_tindex : MtR X "tuple.index" (rTIdx X.K) := by
  intro pins s σ H x vs v us Q I rx rv h
  obtain ⟨p, xs, y, j, rfl, rfl, hq, fy, fs, hj, h1, h2, q⟩ := h
  cases rx
  obtain ⟨u, rfl, ru⟩ := rv.one
  obtain ⟨its, r, pl, hz⟩ := I.tuple hq
  have hl := r.length
  have flat_at : ∀ (m : Nat) (z : V), xs[m]? = some z → flatV z = true := fun m z hm => List.all_eq_true.mp fs z (List.mem_of_getElem? hm)
  have eu : ∀ (m : Nat) (hm : m < its.toArray.size), ∃ z, xs[m]? = some z ∧ eqU y its.toArray[m] = eqV z y := fun m hm => by
    have hm' : m < xs.length := by rw [hl]; simpa using hm
    obtain ⟨w, hw, rw'⟩ := r.get (List.getElem?_eq_getElem hm')
    have hw2 : its.toArray[m] = w := by
      have := (List.getElem?_eq_some_iff.mp hw).2
      simpa using this
    exact ⟨_, List.getElem?_eq_getElem hm', by rw [hw2]; exact eqU_of rw' (flat_at m _ (List.getElem?_eq_getElem hm'))⟩
  have hjs : j < its.toArray.size := by rw [List.size_toArray, ← hl]; exact hj
  have tyI : s.TypeIs (.ref p) "tuple" := PySem.Heap.IsTuple.typeIs pl
  refine call_meets F.slot_tuple_index tyI F.entry_tuple_index (F.args_tuple_index_2 _ _) (PyZ.tuple_indexAt p its.toArray u (eqU y) j hjs ?_ ?_) ⟨pl, fun w hw => mem_eqAt ru fy r fs w (by simpa using hw), ?_⟩
  · obtain ⟨z, hz1, hz2⟩ := eu j hjs
    rw [hz2]
    exact h1 z hz1
  · intro m hm hmj
    obtain ⟨z, hz1, hz2⟩ := eu m hm
    rw [hz2]
    exact h2 m z hmj hz1
  · exact ⟨.int j, H, I.kept (t' := s.toks + 1) fun b o e => e, ⟨_, rfl⟩, q⟩
/-- l.index(y) of a list of data -/
def rLIdx (K : PySem.W.Frag) : V → List V → Hp → VK → Prop := fun x vs H Q => ∃ p xs ds dy y, ∃ j : Nat, x = .ref p ∧ vs = [y] ∧ H p = some (.lst xs) ∧ RdDs K H xs ds ∧ RdD K H y dy ∧ PyData.canLayAll0 ds = true ∧ dy.canLay0 = true ∧ dy.depth ≤ 60 ∧ j < ds.length ∧ (∀ d, ds[j]? = some d → d.eqv dy = true) ∧ (∀ m d, m < j → ds[m]? = some d → d.eqv dy = false) ∧ Q (.int j) H
theorem mt_lindex (hu : X.A.units + 64 < cLine) : MtR X "list.index" (rLIdx X.K) := by
  intro pins s σ H x vs v us Q I rx rv h
  obtain ⟨p, xs, ds, dy, y, j, rfl, rfl, hp, hs, hd, c1, c2, dp, hj, h1, h2, q⟩ := h
  cases rx
  obtain ⟨u, rfl, ru⟩ := rv.one
  obtain ⟨z, its, n, r, hl, e⟩ := I.lstM hp
  obtain ⟨bs, r1⟩ := I.reads hd ru
  obtain ⟨as, ra⟩ := I.readsAll hs r
  have hm := SeqAt.readsAll_map ds its as c1 ra
  have hlen : its.length = ds.length := by rw [← hm, List.length_map]
  have at' : ∀ (m : Nat) (hh : m < its.toArray.size), ds[m]? = some (SeqAt.readOf s.heap its.toArray[m]) := fun m hh => by
    have hh' : m < its.length := by simpa using hh
    rw [← hm, List.getElem?_map, List.getElem?_eq_getElem hh']
    simp
  have hjs : j < its.toArray.size := by rw [List.size_toArray, hlen]; exact hj
  have sz := line63
  refine call_meets F.slot_list_index ⟨_, e, rfl⟩ F.entry_list_index (F.args_list_index_2 _ _) (SeqAt.list_indexAt p its.toArray n none #[] u (fun y => (SeqAt.readOf s.heap y).eqv dy) j hjs (by omega) (h1 _ (at' j hjs)) fun m hh hmj => h2 m _ hmj (at' m hh)) ⟨e, SeqAt.items_eqAt (by simpa using ra) r1 c1 c2 (by omega), ?_⟩
  exact ⟨.int j, H, I.kept (t' := s.toks + 1) fun b o e => e, ⟨_, rfl⟩, q⟩
theorem tixK (K : PySem.W.Frag) (hK : X.K = K := by rfl) : MtR X "tuple.index" (rTIdx K) := hK ▸ mt_tindex
theorem lixK (K : PySem.W.Frag) (hu : X.A.units + 64 < cLine) (hK : X.K = K := by rfl) : MtR X "list.index" (rLIdx K) := hK ▸ mt_lindex hu
end
end L2

set_option maxHeartbeats 4000000
/-! sorted, of a list of tuples of ints -/
namespace PyZ
open PySem PyProof PyProof.Rows
def runB (n : Nat) (cmp : Nat → Nat → Bool) {α : Type} : W.KasT α → Option α
  | .ret a => some a
  | .ask i j k => if i < n ∧ j < n then runB n cmp (k (cmp i j)) else none
theorem kasWp_run {α : Type} {n : Nat} {cmp : Nat → Nat → Bool} {ask : Nat → Nat → (Bool → Shared → Prop) → Shared → Prop} {s : Shared} (h : ∀ i j C, i < n → j < n → C (cmp i j) s → ask i j C s) : ∀ (t : W.KasT α) (a : α) (Q : α → Shared → Prop), runB n cmp t = some a → Q a s → W.KasT.kasWp ask t Q s
  | .ret b, a, Q, e, q => by
    cases (Option.some.inj e)
    exact q
  | .ask i j k, a, Q, e, q => by
    rw [runB] at e
    by_cases hh : i < n ∧ j < n
    · rw [if_pos hh] at e
      exact h i j _ hh.1 hh.2 (kasWp_run h (k (cmp i j)) a Q e q)
    · rw [if_neg hh] at e
      cases e
/-- which of two rows of ints comes first -/
def lexB (fin : Bool) : List Int → List Int → Bool
  | [], _ => fin
  | _ :: _, [] => fin
  | x :: xs, y :: ys => if x = y then lexB fin xs ys else decide (x < y)
def ltB (xs ys : List Int) : Bool := lexB (decide (xs.length < ys.length)) xs ys
section
variable {prog : Program} {w : World} {A : Around} {E : Value → Shared → Prop} {s : Shared}
theorem katLex {fin : Bool} {Q : Bool → Shared → Prop} : ∀ (us vs : List Value) (xs ys : List Int) (i : Nat), IntsAre us xs → IntsAre vs ys → Q (lexB fin xs ys) s → W.KatLex prog w A true fin Q (us.zip vs) i s
  | [], vs, xs, ys, i, h1, h2, q => by
    cases h1
    exact W.kat_nil q
  | _ :: _, [], xs, ys, i, h1, h2, q => by
    cases h2
    cases xs with
    | nil => exact W.kat_nil q
    | cons x xs => exact W.kat_nil q
  | u :: us, v :: vs, xs, ys, i, h1, h2, q => by
    cases h1 with
    | cons x t1 r1 =>
      cases h2 with
      | cons y t2 r2 =>
        rename_i xs ys
        rw [List.zip_cons_cons]
        refine W.kat_cons ?_
        refine SeqAt.EqAt.int_int _ _ _ _ prog w _ _ ?_
        rw [lexB] at q
        by_cases e : x = y
        · rw [if_pos e] at q
          rw [show (x == y) = true from beq_iff_eq.mpr e]
          exact W.kat_yes (katLex us vs xs ys (i + 1) r1 r2 q)
        · rw [if_neg e] at q
          rw [show (x == y) = false from beq_eq_false_iff_ne.mpr e]
          refine W.kat_no ?_
          by_cases hi : i = 0
          · subst hi
            exact oneLt_int q
          · have : (true && i == 0) = false := by simp [hi]
            rw [this]
            exact W.kat_one _ _ (lt_int q)
/-- the heap as it was ahead of L -/
def cutH (h : Heap) (L : Addr) : Heap := { h with objs := h.objs.extract 0 L }
theorem cutH_get {h : Heap} {L b : Addr} (hb : b < L) : (cutH h L).get? b = h.get? b := by
  unfold cutH Heap.get?
  have : (h.objs.extract 0 L)[b]? = h.objs[b]? := by
    rw [Array.getElem?_extract]
    by_cases h1 : b < h.objs.size
    · simp only [Nat.sub_zero, Nat.zero_add]
      rw [if_pos (show b < min L h.objs.size from Nat.lt_min.mpr ⟨hb, h1⟩)]
    · rw [Array.getElem?_eq_none (Nat.le_of_not_lt h1)]
      split <;> simp_all
  simp only [this]
theorem cutH_none {h : Heap} {L b : Addr} (hb : L ≤ b) : (cutH h L).get? b = none := by
  unfold cutH Heap.get?
  have : (h.objs.extract 0 L)[b]? = none := by
    apply Array.getElem?_eq_none
    rw [Array.size_extract]
    exact Nat.le_trans (by rw [Nat.sub_zero]; exact Nat.min_le_left ..) hb
  simp only [this]
/-- all that stands behind L -/
def behind (h : Heap) (L : Addr) : List (Addr × Obj) := (List.range h.objs.size).filterMap fun a => if L < a then (h.get? a).map fun o => (a, o) else none
theorem mem_behind {h : Heap} {L : Addr} {p : Addr × Obj} : p ∈ behind h L ↔ L < p.1 ∧ h.get? p.1 = some p.2 := by
  unfold behind
  rw [List.mem_filterMap]
  constructor
  · rintro ⟨a, ha, e⟩
    by_cases hl : L < a
    · rw [if_pos hl] at e
      cases q : h.get? a with
      | none => rw [q] at e; cases e
      | some o =>
        rw [q] at e
        cases (Option.some.inj e)
        exact ⟨hl, q⟩
    · rw [if_neg hl] at e
      cases e
  · rintro ⟨hl, e⟩
    refine ⟨p.1, List.mem_range.mpr (Heap.lt_size e), ?_⟩
    rw [if_pos hl, e]
    rfl
theorem katTups {h : Heap} : ∀ (as : List Addr) (yss : List (List Int)), as.length = yss.length → (∀ (i : Nat) a, as[i]? = some a → ∃ (us : List Value) (ys : List Int), yss[i]? = some ys ∧ h.IsTuple a us.toArray ∧ IntsAre us ys ∧ ys ≠ []) →
    ∃ fs : List Value, W.KatTups h (as.map Value.ref) fs ∧ fs.length = as.length ∧ ∀ v ∈ fs, ∃ n t, v = Value.int n t
  | [], [], _, _ => ⟨[], W.KatTups.nil, rfl, fun v hv => by cases hv⟩
  | [], _ :: _, h, _ => by cases h
  | _ :: _, [], h, _ => by cases h
  | a :: as, ys :: yss, hl, g => by
    obtain ⟨us, ys', e, ⟨o, e1, c, n, d⟩, ia, ne⟩ := g 0 a rfl
    cases e
    obtain ⟨fs, k, l, f⟩ := katTups as yss (Nat.succ.inj hl) fun i a' hi => g (i + 1) a' hi
    cases ia with
    | nil => exact absurd rfl ne
    | cons z t r =>
      refine ⟨Value.int z t :: fs, W.KatTups.cons e1 c d (by simp) k, by rw [List.length_cons, List.length_cons, l], fun v hv => ?_⟩
      rcases List.mem_cons.mp hv with rfl | hv
      · exact ⟨_, _, rfl⟩
      · exact f v hv
theorem sorted_tups {l L : Addr} {m : Str → Option Value} {as : List Addr} {yss : List (List Int)} {p : Array Nat} {Q : Value → Shared → Prop} (hNs : s.heap.Ns L m) (hl : s.heap.IsList l (as.map Value.ref).toArray) (n2 : 2 ≤ as.length) (n64 : as.length < 64) (hy : as.length = yss.length)
    (ht : ∀ (i : Nat) a, as[i]? = some a → a ≠ L ∧ ∃ (us : List Value) (ys : List Int), yss[i]? = some ys ∧ s.heap.IsTuple a us.toArray ∧ IntsAre us ys ∧ ys ≠ [])
    (hp : runB as.length (fun i j => ltB (yss.getD i []) (yss.getD j [])) (W.kas_sort as.length) = some p)
    (q : ∀ D c h', s.heap.get? D = none → D ≠ L → (∀ b o, b ≠ L → s.heap.get? b = some o → h'.get? b = some o) → h'.Ns L m → h'.get? D = some (W.listOf (p.toList.map fun i => (as.map Value.ref).getD i Value.none).toArray c) → Q (.ref D) { s with heap := h' }) :
    wpAny (model prog w) A (call (.builtin "sorted") [.ref l]) Q E s := by
  have fr : Fr (cutH s.heap L) L s.heap m := by
    refine ⟨hNs, fun b o e => ?_, ?_⟩
    · by_cases hb : b < L
      · rw [cutH_get hb] at e; exact e
      · rw [cutH_none (Nat.le_of_not_lt hb)] at e
        cases e
    · show (s.heap.objs.extract 0 L).size ≤ L
      rw [Array.size_extract, Nat.sub_zero]
      exact Nat.min_le_left ..
  have nw : News (cutH s.heap L) L s.heap (behind s.heap L) := fun x hx => by
    obtain ⟨h1, h2⟩ := mem_behind.mp hx
    exact ⟨h2, Nat.ne_of_gt h1, cutH_none (Nat.le_of_lt h1)⟩
  have lv : (as.map Value.ref).length = as.length := List.length_map ..
  refine W.kat_sorted fr nw hl (by rw [lv]; exact n2) (by rw [lv]; exact n64) fun D e1 h' fr' nw' big => ?_
  have kept : ∀ b o, b ≠ L → s.heap.get? b = some o → h'.get? b = some o := fun b o hb e => by
    rcases Nat.lt_or_ge b L with h1 | h1
    · exact fr'.keep b o (by rw [cutH_get h1]; exact e)
    · exact (nw' (b, o) (List.mem_cons_of_mem _ (mem_behind.mpr ⟨Nat.lt_of_le_of_ne h1 (Ne.symm hb), e⟩))).1
  have dn : s.heap.get? D = none := by
    cases e : s.heap.get? D with
    | none => rfl
    | some o =>
      obtain ⟨_, dL, dc⟩ := nw' _ (List.mem_cons_self ..)
      rcases Nat.lt_or_ge D L with h1 | h1
      · rw [cutH_get h1] at dc
        rw [dc] at e
        cases e
      · exact absurd (big (D, o) (mem_behind.mpr ⟨Nat.lt_of_le_of_ne h1 (Ne.symm dL), e⟩)) (Nat.lt_irrefl _)
  have dL : D ≠ L := (nw' _ (List.mem_cons_self ..)).2.1
  have ht' : ∀ (i : Nat) a, as[i]? = some a → ∃ (us : List Value) (ys : List Int), yss[i]? = some ys ∧ h'.IsTuple a us.toArray ∧ IntsAre us ys ∧ ys ≠ [] := fun i a hi => by
    obtain ⟨aL, us, ys, e, ⟨o, g1, g2⟩, ia, ne⟩ := ht i a hi
    exact ⟨us, ys, e, ⟨o, kept a o aL g1, g2⟩, ia, ne⟩
  obtain ⟨fs, kt, fl, fi⟩ := katTups as yss hy ht'
  refine W.kat_kind (T := Value.type "int") kt (by omega) (fun v hv => ?_) (by decide +kernel) ?_
  · obtain ⟨n, t, rfl⟩ := fi v hv
    intro A Q E s' _ q
    exact wpAny_pure q
  · rw [lv]
    have kb : (Value.type "int" != Value.type "tuple") = true := by decide +kernel
    rw [kb]
    refine kasWp_run (cmp := fun i j => ltB (yss.getD i []) (yss.getD j [])) (fun i j C hi hj c => ?_) _ p _ hp ?_
    · unfold W.kas_ask
      obtain ⟨us, ys, e, ⟨o, g1, g2, n1, g3⟩, ia, _⟩ := ht' i as[i] (List.getElem?_eq_getElem hi)
      obtain ⟨us2, ys2, e2, ⟨o2, k1, k2, n2', k3⟩, ia2, _⟩ := ht' j as[j] (List.getElem?_eq_getElem hj)
      have v1 : (as.map Value.ref).getD i Value.none = .ref as[i] := by
        rw [List.getD_eq_getElem?_getD, List.getElem?_map, List.getElem?_eq_getElem hi]
        rfl
      have v2 : (as.map Value.ref).getD j Value.none = .ref as[j] := by
        rw [List.getD_eq_getElem?_getD, List.getElem?_map, List.getElem?_eq_getElem hj]
        rfl
      have w1 : yss.getD i [] = ys := by rw [List.getD_eq_getElem?_getD, e]; rfl
      have w2 : yss.getD j [] = ys2 := by rw [List.getD_eq_getElem?_getD, e2]; rfl
      rw [v1, v2]
      refine W.kat_lt g1 g3 k1 k3 ?_
      have il : ∀ {us : List Value} {ys : List Int}, IntsAre us ys → us.length = ys.length := fun {us ys} h => by
        induction h with
        | nil => rfl
        | cons _ _ _ ih => rw [List.length_cons, List.length_cons, ih]
      refine katLex us us2 ys ys2 0 ia ia2 ?_
      rw [w1, w2] at c
      unfold ltB at c
      rw [List.size_toArray, List.size_toArray, il ia, il ia2]
      exact c
    · refine ⟨_, _, fr', nw', W.UpdF.head (fun x hx => Nat.ne_of_lt (big x hx)), fun h'' c fr'' nw'' => ?_⟩
      refine q D c h'' dn dL (fun b o hb e => ?_) fr''.ns (nw'' _ (List.mem_cons_self ..)).1
      rcases Nat.lt_or_ge b L with h1 | h1
      · exact fr''.keep b o (by rw [cutH_get h1]; exact e)
      · exact (nw'' (b, o) (List.mem_cons_of_mem _ (mem_behind.mpr ⟨Nat.lt_of_le_of_ne h1 (Ne.symm hb), e⟩))).1
end
end PyZ

set_option maxHeartbeats 4000000
namespace L2
open PySem PySem.Spec PyProof.Rows
theorem ObjOk.there {P : Program} {w : World} {H : Hp} {h : Heap} {a : Addr} {o : HO} (x : ObjOk P w H h a o) : ∃ ob, h.get? a = some ob := by
  cases o with
  | lst xs => obtain ⟨_, _, _, _, e⟩ := x; exact ⟨_, e⟩
  | tup xs => obtain ⟨_, _, _, ob, e, _⟩ := x; exact ⟨_, e⟩
  | dK kvs => obtain ⟨_, _, _, _, o, _, _, e, _⟩ := x; exact ⟨_, e⟩
  | dT kvs => obtain ⟨_, _, _, _, o, _, _, e, _⟩ := x; exact ⟨_, e⟩
  | set S n => obtain ⟨o, _, _, _, e, _⟩ := x; exact ⟨_, e⟩
  | ins C dx fs => obtain ⟨_, _, _, e, _⟩ := x; exact ⟨_, e⟩
  | own y => obtain ⟨_, e⟩ := x; exact ⟨_, e⟩
  | xd fs => obtain ⟨_, ⟨_, _, _, e, _⟩, _⟩ := x; exact ⟨_, e⟩
  | rng lo hi => obtain ⟨_, _, _, e⟩ := x; exact ⟨_, e⟩
  | frz ob u => obtain ⟨e, _⟩ := x; exact ⟨_, e⟩
  | tbl ps => exact ⟨_, (show h.get? a = some _ from x)⟩
  | met f y => exact ⟨_, (show h.get? a = some _ from x)⟩
  | ext φ => obtain ⟨_, ⟨_, e⟩, _⟩ := x; exact ⟨_, e⟩
section
variable {X : Cx} {pins : List (Addr × Obj)} {σ : St} {H : Hp} {s : Shared}
/-- a new list laid, all else but the locals' own object kept, the locals as they were -/
theorem Inv.newL {D : Addr} {c : Nat} {h' : Heap} {m : Str → Option Value} {ys : List V} {its : List Value} (I : Inv X pins σ H s) (hm : s.heap.Ns X.env.locals m)
    (hl : ∀ (i : Nat) (x : Str) (v : V), X.N[i]? = some x → σ[i]? = some (some v) → Vis X.env.scope x → ∃ u, RelV v u ∧ Look X.env s.heap m x u)
    (dn : s.heap.get? D = none) (dL : D ≠ X.env.locals) (kept : ∀ b o, b ≠ X.env.locals → s.heap.get? b = some o → h'.get? b = some o) (hn' : h'.Ns X.env.locals m) (hz : ys.length ≤ sizeLine) (hv : Vals ys its) (hD : h'.get? D = some { cls := .type "list", data := .seq its.toArray c }) :
    Inv X pins σ (upd H D (.lst ys)) { s with heap := h' } ∧ H D = none := by
  have hHD : H D = none := by
    cases e : H D with
    | none => rfl
    | some o =>
      obtain ⟨ob, e2⟩ := (I.hok D o e).there
      rw [dn] at e2
      cases e2
  have neD : ∀ {b : Addr} {o : Obj}, s.heap.get? b = some o → b ≠ D := fun {b o} e z => by rw [z, dn] at e; cases e
  have neH : ∀ {b : Addr} {o : HO}, H b = some o → b ≠ D := fun {b o} e z => by rw [z, hHD] at e; cases e
  have neL : ∀ {b : Addr} {o : HO}, H b = some o → b ≠ X.env.locals := fun {b o} e z => by rw [z, I.free] at e; cases e
  have bL : ∀ {b : Addr} {o : Obj}, X.s₀.heap.get? b = some o → b ≠ X.env.locals := fun {b o} e => Nat.ne_of_lt (Nat.lt_of_lt_of_le (Heap.lt_size e) I.ok.above)
  refine ⟨⟨I.ok, I.os, I.bare, ⟨fun b o e n hb hx => ?_, fun b o e n hb hx => ?_, fun b o e n hx => ?_, fun b o e hx => ?_, fun b xs e => ?_, fun b o u e => ?_, fun b ps e => ?_⟩, ⟨m, hn', fun j y v e1 e2 e3 => ?_⟩, fun y c' e => ?_, ?_, fun y c' e => ?_, fun p hp => ?_, fun b ob e => ?_, I.len⟩, hHD⟩
  · exact kept b o (bL e) (I.base.keep b o e n hb hx)
  · obtain ⟨sl, e1⟩ := I.base.slot b o e n hb hx
    exact ⟨sl, kept b _ (bL e) e1⟩
  · obtain ⟨o', e1⟩ := I.base.there b o e hx
    rw [upd_ne (neD e1)]
    exact I.base.free b o e n hx
  · obtain ⟨o', e1⟩ := I.base.there b o e hx
    exact ⟨o', kept b _ (bL e) e1⟩
  · have := I.base.tups b xs e
    rw [upd_ne (neH this)]
    exact this
  · have := I.base.frzs b o u e
    rw [upd_ne (neH this)]
    exact this
  · obtain ⟨more, this⟩ := I.base.tbls b ps e
    exact ⟨more, by rw [upd_ne (neH this)]; exact this⟩
  · obtain ⟨u, r, q⟩ := hl j y v e1 e2 e3
    refine ⟨u, r, ?_⟩
    rcases q with ⟨k, e⟩ | ⟨k, c', e, z⟩
    · exact .inl ⟨k, e⟩
    · obtain ⟨o, g, rest⟩ := z
      exact .inr ⟨k, c', e, o, kept c' o (I.cne y c' e) g, rest⟩
  · obtain ⟨w', o, g, rest⟩ := I.cell y c' e
    exact ⟨w', o, kept c' o (I.cne y c' e) g, rest⟩
  · rw [upd_ne (Ne.symm dL)]
    exact I.free
  · obtain ⟨w', o, g, rest⟩ := I.cell y c' e
    rw [upd_ne (neD g)]
    exact I.freeC y c' e
  · obtain ⟨e, n, ne, nf, d⟩ := I.pin p hp
    exact ⟨kept p.1 _ ne e, by rw [upd_ne (neD e)]; exact n, ne, nf, d⟩
  · by_cases hb : b = D
    · subst hb
      rw [upd_same] at e
      cases (Option.some.inj e)
      exact ⟨hz, its, c, hv, hD⟩
    · rw [upd_ne hb] at e
      refine (I.hok b ob e).stay (fun c' w' hc q => kept c' w' ?_ q) (fun c' q => ?_) fun c' xs q => ?_
      · rcases hc with rfl | hc
        · exact neL e
        · exact neL hc
      · rw [upd_ne (neH q)]
        exact q
      · rw [upd_ne (neH q)]
        exact q
theorem vals_refs : ∀ {as : List Addr} {us : List Value}, Vals (as.map V.ref) us → us = as.map Value.ref
  | [], _, h => by cases h; rfl
  | a :: as, _, h => by
    cases h with
    | cons r t => rw [show _ = Value.ref a from r, vals_refs t]; rfl
theorem vals_intsA : ∀ {ns : List Int} {us : List Value}, Vals (ns.map V.int) us → IntsAre us ns
  | [], _, h => by cases h; exact .nil
  | n :: ns, _, h => by
    cases h with
    | cons r t =>
      obtain ⟨k, rfl⟩ := r
      exact .cons n k (vals_intsA t)
theorem refs_vals : ∀ as : List Addr, Vals (as.map V.ref) (as.map Value.ref)
  | [] => .nil
  | a :: as => .cons rfl (refs_vals as)
/-- sorted(l), l a list of tuples of ints -/
def rSortT : List V → Hp → VK → Prop := fun xs H Q => ∃ (l : Addr) (as : List Addr) (yss : List (List Int)) (p : Array Nat), xs = [.ref l] ∧ H l = some (.lst (as.map V.ref)) ∧ as.length = yss.length ∧ 2 ≤ as.length ∧ as.length < 64 ∧
  (∀ (i : Nat) a, as[i]? = some a → ∃ ys, yss[i]? = some ys ∧ ys ≠ [] ∧ H a = some (.tup (ys.map V.int))) ∧ PyZ.runB as.length (fun i j => PyZ.ltB (yss.getD i []) (yss.getD j [])) (W.kas_sort as.length) = some p ∧ p.size ≤ 64 ∧ (∀ i ∈ p.toList, i < as.length) ∧
  ∀ D, H D = none → Q (.ref D) (upd H D (.lst ((p.toList.map fun i => as.getD i 0).map V.ref)))
theorem call_sortT : CallR X (.builtin "sorted") rSortT := by
  intro pins s σ H xs us Q I r h
  obtain ⟨l, as, yss, p, rfl, hl, hy, n2, n64, ht, hp, hps, hpi, q⟩ := h
  obtain ⟨u, rfl, ru⟩ := r.one
  cases ru
  obtain ⟨m, hm, hlk⟩ := id I.loc
  obtain ⟨z, its, n, rv, hlen, e⟩ := I.lstM hl
  have ei := vals_refs rv
  subst ei
  have hil : s.heap.IsList l (as.map Value.ref).toArray := (I.list (.of hl)).elim fun its' hh => by
    obtain ⟨rv', pl, _⟩ := hh
    have := vals_refs rv'
    rw [this] at pl
    exact pl.isList
  refine PyZ.sorted_tups (yss := yss) (p := p) hm hil n2 n64 hy (fun i a hi => ?_) hp fun D c h' dn dL kept hn' hD => ?_
  · obtain ⟨ys, e1, ne, ha⟩ := ht i a hi
    obtain ⟨us, rv', pt, _⟩ := I.tuple (.of ha)
    refine ⟨fun z => ?_, us, ys, e1, pt, vals_intsA rv', ne⟩
    rw [z, I.free] at ha
    cases ha
  · have es : (p.toList.map fun i => (as.map Value.ref).getD i Value.none) = (p.toList.map fun i => as.getD i 0).map Value.ref := by
      rw [List.map_map]
      refine List.map_congr_left fun i hi => ?_
      have := hpi i hi
      show (as.map Value.ref).getD i Value.none = Value.ref (as.getD i 0)
      rw [List.getD_eq_getElem?_getD, List.getElem?_map, List.getElem?_eq_getElem this, List.getD_eq_getElem?_getD, List.getElem?_eq_getElem this]
      rfl
    rw [es] at hD
    have szl : (16777216 : Nat) = sizeLine := by decide
    obtain ⟨I', hH⟩ := I.newL (ys := (p.toList.map fun i => as.getD i 0).map V.ref) hm hlk dn dL kept hn' (by rw [List.length_map, List.length_map, Array.length_toList]; omega) (refs_vals _) hD
    exact ⟨.ref D, _, I', rfl, q D hH⟩
end
end L2

set_option maxHeartbeats 4000000
namespace L2
open PySem PySem.Spec PyProof.Rows
section
variable {X : Cx}
/-- a tuple that stands as it is, without a dict of its own -/
def Tz (H : Hp) (a : Addr) (ys : List V) : Prop := ∃ o : Obj, H a = some (.frz o (.tup ys)) ∧ o.cls = .type "tuple" ∧ o.dict = none
theorem Tz.sq {K : PySem.W.Frag} {H : Hp} {a : Addr} {ys : List V} (h : Tz H a ys) : SqT K H a ys := by
  obtain ⟨o, h, _⟩ := h
  exact .inl (.inr ⟨o, h⟩)
theorem Tz.mono {H H' : Hp} {a : Addr} {ys : List V} (s : Same H H') (h : Tz H a ys) : Tz H' a ys := by
  obtain ⟨o, h, r⟩ := h
  exact ⟨o, s _ _ h, r⟩
/-- tuple(l), kept as it stands -/
theorem call_tupleZ : CallR X (.type "tuple") (fun xs H Q => ∃ p ys, xs = [.ref p] ∧ SqL X.K H p ys ∧ ∀ l H', H l = none → Same H H' → Tz H' l ys → Q (.ref l) H') := by
  intro pins s σ H xs us Q I r h
  obtain ⟨p, ys, rfl, hq, q⟩ := h
  obtain ⟨u, rfl, rx⟩ := vals1 r
  cases rx
  obtain ⟨its, r', pl, hz⟩ := I.list hq
  have hlen := r'.length
  refine call_tuple_list pl.isList (fun h' kp => ?_) (by simp only [List.size_toArray] <;> omega)
  have I1 : Inv X pins σ H { s with heap := h' } := I.kept (t' := s.toks) kp
  have hf := I1.hok.fresh (Nat.le_refl _)
  have I2 : Inv X pins σ (upd H h'.objs.size (.frz { cls := .type "tuple", data := .seq its.toArray } (.tup ys))) { s with heap := h'.push { cls := .type "tuple", data := .seq its.toArray } } :=
    I1.laid (t' := s.toks) (fun b o e => Heap.get?_push_of_some _ e) (Nat.le_refl _) ⟨Heap.get?_push_size _ rfl, hz, its, r', IsTup.new _ _⟩
  exact ⟨.ref h'.objs.size, _, I2, rfl, q _ _ hf (Same.upd hf) ⟨_, upd_same, rfl, rfl⟩⟩
variable {o e : Expr} {es : List Expr} {to : TE} {t : TA} {name : Str} {apos cpos : Pos} {id : String} {r : V → List V → Hp → VK → Prop}
def tBMT (r : V → List V → Hp → VK → Prop) (to : TE) (t : TA) : TE := fun σ H Q => to σ H fun x H1 => (∃ p ys, x = .ref p ∧ Tz H1 p ys) ∧ t σ H1 fun xs H2 => r x xs H2 Q
theorem pe_bmT (pa : PlainAttrs "tuple") (slot : Slot "tuple" name id) (hty : typeOf (.builtin id) = pure (.type "method_descriptor")) (hm : MtR X id r) (ho : PE X o to) (ha : PA X (e :: es) t)
    (hbase : attributeBase o name X.env (eval o X.env) = eval o X.env := by rfl)
    (hfew : ((backTo cpos (starEach (e :: es) X.env)).all (fun x => !x.1) && (backToKw cpos (keywordEach [] X.env)).all (fun x => x.1.isSome)
      && decide ((e :: es).length + ([] : List Keyword).length + (if ([] : List Keyword).isEmpty then 0 else 1) < 30)) = true := by rfl)
    (hline : (apos.endLine == cpos.line) = true := by rfl) (hs : starEach (e :: es) X.env = (false, eval e X.env) :: starEach es X.env := by rfl) (hplain : (backTo cpos (starEach es X.env)).any (·.1) = false := by rfl) :
    PE X (.Call (.Attribute o name apos) (e :: es) [] cpos) (tBMT r to t) := by
  intro pins s σ H Q I h
  refine wpAny_Call_method_late hbase hfew hline rfl (thn (ho pins s σ H _ I h) fun v s1 ⟨x, H1, I1, r1, ty, q1⟩ => ?_)
  obtain ⟨p, ys, rfl, ob, hob, hc, hd⟩ := ty
  cases r1
  obtain ⟨eo, _⟩ := I1.hok p _ hob
  refine ⟨"tuple", id, pa, slot, hty, ⟨ob, eo, hc⟩, fun a e => ?_, ?_⟩
  · cases e
    exact ⟨ob, eo, hd⟩
  have hA := ha cpos pins s1 σ H1 _ I1 q1
  rw [hs] at hA ⊢
  refine Calls.callWith_builtin (by show (false || (backTo cpos (starEach es X.env)).any (·.1)) = false; rw [hplain] <;> rfl) (Calls.evalArgs_plain ?_)
  exact thn hA fun us s2 ⟨vs, H2, I2, r2, q2⟩ => hm pins s2 σ H2 (.ref p) vs (.ref p) us Q I2 rfl r2 q2
end
end L2

set_option maxHeartbeats 4000000
namespace PyZ
open PySem PySem.Spec PyProof.Rows
section
variable {prog : Program} {w : World} {A : Around} {E : Value → Shared → Prop} {s : Shared}
theorem collect_range {R : List Value → Shared → Prop} {r : Addr} {a b c : Int} {t u v : Tok} {n : Nat} (hh : A.handled = none) (hr : IsRange s.heap r a b c t u v) (hsmall : Builtin.Range.small a b c = true)
    (hn : Builtin.Range.rangeSize a b c = n) (hlen : n ≤ 2 ^ 24)
    (h : ∀ (h' : Heap) (tk : Nat) (acc : Array Value), (∀ b o, s.heap.get? b = some o → h'.get? b = some o) → ItemsOf (fun i v => ∃ t, v = .int (a + i * c) t) acc n → R acc.toList { s with heap := h', toks := tk }) :
    wpAny (model prog w) A (collect (.ref r)) R E s := by
  unfold collect
  refine wpAny_bind (wpAny_runValue (codeAny_builtin PySem.F.entry_proto_collect ?_))
  rw [Around.under_plainId PySem.F.plain_proto_collect _]
  show wpAny _ A.in1 (newList [] >>= fun l => again (.builtin "list.__iadd__" ⟨[l, .ref r], []⟩)) _ _ s
  refine wpAny_bind (wpAny_newObj_type ?_)
  refine wpAny_pure ⟨plainId_quiet PySem.F.plain_list_iadd _, codeAny_builtin PySem.F.entry_list_iadd ?_⟩
  rw [Around.under_plainId PySem.F.plain_list_iadd _]
  have hS₁ : (s.heap.push { cls := .type "list", data := .seq ([] : List Value).toArray }).get? s.heap.objs.size = some { cls := .type "list", data := .seq #[] } := Heap.get?_push_size _ rfl
  show wpAny _ A.in1 (Builtin.List.listExtendWith (.ref s.heap.objs.size) (.ref r) (.ref s.heap.objs.size)) _ _ _
  have key := wpAny_extend_range (prog := prog) (w := w) (A := A) (s := { s with heap := s.heap.push { cls := .type "list", data := .seq ([] : List Value).toArray } })
    (R := fun (q : Result) (s' : Shared) => ∃ (h' : Heap) (tk : Nat) (acc' : Array Value) (c' : Nat), q = .ok (.ret (.ref s.heap.objs.size)) ∧ s' = { s with heap := h', toks := tk } ∧
      (∀ b o, s.heap.get? b = some o → h'.get? b = some o) ∧ h'.get? s.heap.objs.size = some { cls := .type "list", dict := none, data := .seq acc' c', slots := #[] } ∧ ItemsOf (fun i v => ∃ t, v = .int (a + i * c) t) acc' n)
    hh (Heap.get?_push_of_some _ hr) hsmall hn hlen s.heap.objs.size (.ref s.heap.objs.size) 0 hS₁
    (fun h' tk acc' c' hk hS' hacc => ⟨h', tk, acc', c', rfl, rfl, fun b o e => hk b o (Nat.ne_of_lt (Heap.lt_size e)) (Heap.get?_push_of_some _ e), hS', hacc⟩)
  refine wpAny_mono key (fun fin s' x => ?_) fun e s' x => ?_
  · cases fin with
    | done f =>
      obtain ⟨h', tk, acc', c', e, rfl, hk, hS', hacc⟩ := x
      cases e
      show wpAny _ A (load s.heap.objs.size >>= _) _ _ _
      refine wpAny_bind (wpAny_load hS' ?_)
      exact wpAny_pure (h h' tk acc' hk hacc)
    | again c₁ =>
      refine ⟨x.1, codeAny_mono x.2 fun q s₂ y => ?_⟩
      obtain ⟨h', tk, acc', c', rfl, rfl, hk, hS', hacc⟩ := y
      show wpAny _ A (load s.heap.objs.size >>= _) _ _ _
      refine wpAny_bind (wpAny_load hS' ?_)
      exact wpAny_pure (h h' tk acc' hk hacc)
  · obtain ⟨_, _, _, _, e', _⟩ := x
    cases e'
theorem code_tuple_new_range {Q₁ : Value → Shared → Prop} {r : Addr} {a b c : Int} {t u v : Tok} {n : Nat} (hh : A.handled = none) (hr : IsRange s.heap r a b c t u v) (hsmall : Builtin.Range.small a b c = true)
    (hn : Builtin.Range.rangeSize a b c = n) (hlen : n ≤ 2 ^ 24)
    (h : ∀ (h' : Heap) (tk : Nat) (acc : Array Value), (∀ b o, s.heap.get? b = some o → h'.get? b = some o) → ItemsOf (fun i v => ∃ t, v = .int (a + i * c) t) acc n →
      Q₁ (.ref h'.objs.size) { s with heap := h'.push { cls := .type "tuple", data := .seq acc }, toks := tk }) :
    codeAny (model prog w) A (.call (.builtin "tuple.__new__") ⟨[.type "tuple", .ref r], []⟩) (wants Q₁ E) s := by
  refine codeAny_of_tree ?_
  show wpAny _ A.in1 (do checkBuiltinCall "tuple.__new__" ⟨[.type "tuple", .ref r], []⟩; again (.builtin "tuple.__new__" ⟨[.type "tuple", .ref r], []⟩)) _ _ s
  refine wpAny_bind (wpAny_of_eq (PySem.F.newCall_tuple_1 _) (wpAny_pure ⟨plainId_quiet (show plainId "tuple.__new__" = true by decide +kernel) _, codeAny_builtin PySem.F.entry_tuple_new ?_⟩))
  rw [Around.under_plainId (show plainId "tuple.__new__" = true by decide +kernel) _]
  have hsub := sub_tuple_self
  have hinit := init_tuple_lookup
  have hmh := madeHere_tuple
  have hTI : s.TypeIs (.ref r) "range" := ⟨_, hr, rfl⟩
  have hsz : n ≤ sizeLine := by
    have : (16777216 : Nat) = sizeLine := by decide
    omega
  wp_walk using wpAny_typeOf hTI, collect_range (A := A.in1) hh hr hsmall hn hlen
  intro h' tk acc hm hacc
  show wpAny _ _ (Builtin.Tuple.tupleExact acc.toList.toArray >>= fun v => ret v) _ _ _
  unfold Builtin.Tuple.tupleExact
  refine wpAny_bind (wpAny_newObj_type ?_ (by show acc.toList.toArray.size ≤ sizeLine; simp only [Array.toArray_toList]; rw [hacc.1]; exact hsz))
  refine wpAny_pure ?_
  have e : acc.toList.toArray = acc := by simp
  rw [e]
  exact h h' tk acc hm hacc
theorem call_tuple_range {Q : Value → Shared → Prop} {r : Addr} {a b c : Int} {t u v : Tok} {n : Nat} (hh : A.handled = none) (hr : IsRange s.heap r a b c t u v) (hsmall : Builtin.Range.small a b c = true)
    (hn : Builtin.Range.rangeSize a b c = n) (hlen : n ≤ 2 ^ 24)
    (h : ∀ (h' : Heap) (tk : Nat) (acc : Array Value), (∀ b o, s.heap.get? b = some o → h'.get? b = some o) → ItemsOf (fun i v => ∃ t, v = .int (a + i * c) t) acc n →
      Q (.ref h'.objs.size) { s with heap := h'.push { cls := .type "tuple", data := .seq acc }, toks := tk }) :
    wpAny (model prog w) A (call (.type "tuple") [.ref r]) Q E s := by
  refine callType_codes (Q₁ := fun obj s₁ => s₁.TypeIs obj "tuple" ∧ Q obj s₁) PySem.F.called_tuple (PySem.F.typeCall_tuple_1 _) PySem.F.entry_object_init
    (code_tuple_new_range (A := A.in1) hh hr hsmall hn hlen fun h' tk acc hk hacc => ⟨⟨_, Heap.get?_push_size _ rfl, rfl⟩, h h' tk acc hk hacc⟩) fun obj s₁ h₁ => ?_
  exact ⟨h₁.1, PySem.F.args_object_init_2 obj _, object_init_meets PySem.F.called_tuple.init.lookup PySem.F.called_tuple.made (by decide) prog w A.in1 _ s₁ ⟨h₁.1, rfl, h₁.2⟩⟩
end
end PyZ
namespace L2
open PySem PySem.Spec PyProof.Rows
section
variable {X : Cx}
theorem call_tuple_rng (hc : X.calm = true) : CallR X (.type "tuple") (fun xs H Q => ∃ (a : Addr) (lo hi : Int), xs = [.ref a] ∧ H a = some (.rng lo hi) ∧ (-(2 ^ 62) ≤ lo ∧ lo < 2 ^ 62 ∧ -(2 ^ 62) ≤ hi ∧ hi < 2 ^ 62) ∧ (hi - lo).toNat ≤ sizeLine ∧
    ∀ l, H l = none → Q (.ref l) (upd H l (.tup ((rngI lo (hi - lo).toNat).map V.int)))) := by
  intro pins s σ H xs us Q I r h
  obtain ⟨a, lo, hi, rfl, ha, ⟨b1, b2, b3, b4⟩, hz, q⟩ := h
  obtain ⟨u, rfl, ru⟩ := vals1 r
  cases ru
  obtain ⟨t, u, v, e⟩ := (show ∃ t u v, s.heap.get? a = some { cls := .type "range", data := .fields #[.int lo t, .int hi u, .int 1 v] } from I.hok a _ ha)
  refine PyZ.call_tuple_range (n := (hi - lo).toNat) (I.ok.hd hc) e (small_one b1 b2 b3 b4) (by rw [rangeSize_one]; split <;> omega) hz fun h' tk acc hk hit => ?_
  have I1 : Inv X pins σ H { s with heap := h', toks := tk } := I.kept (t' := tk) hk
  have I2 : Inv X pins σ (upd H h'.objs.size (.tup ((rngI lo (hi - lo).toNat).map V.int))) { s with heap := h'.push { cls := .type "tuple", data := .seq acc }, toks := tk } :=
    I1.laid (t' := tk) (fun b o e => Heap.get?_push_of_some _ e) (Nat.le_refl _) (show ObjOk X.prog X.w _ _ _ (.tup ((rngI lo (hi - lo).toNat).map V.int)) from ⟨by rw [List.length_map, rngI_len]; exact hz, acc.toList, vals_rngI hit, by simpa using IsTup.new _ _⟩)
  exact ⟨.ref h'.objs.size, _, I2, rfl, q _ (I1.hok.fresh (Nat.le_refl _))⟩
end
end L2

set_option maxHeartbeats 4000000
namespace C7
open PySem L2 PySem.Spec PyProof.Rows
def top (i : Nat) : Stmt := PySem.Challenge.pw_classtab_k07_backs_powers_rounds.main.body.getD i (.Pass ⟨0, 0, 0, 0⟩)
abbrev sFeed : Stmt := top 6
abbrev sDraw : Stmt := top 7
/-! ### the feed -/
structure FeedAt (H : Hp) (p q : Addr) (ns : List Int) (i j k : Int) : Prop where
  hp : H p = some (.lst [.ref q, .int i, .int j, .int k])
  hq : H q = some (.lst (ns.map V.int))
  hn : ns.length ≤ 63
  hi : 0 ≤ i
  hj : 0 ≤ j
  hk : 0 ≤ k
def Feed (H : Hp) (p : Addr) : Prop := ∃ q ns i j k, FeedAt H p q ns i j k
theorem FeedAt.ne {H : Hp} {p q : Addr} {ns : List Int} {i j k : Int} (F : FeedAt H p q ns i j k) : q ≠ p := fun e => by
  have h1 := F.hp
  have h2 := F.hq
  rw [e, h1] at h2
  cases ns with
  | nil => simp at h2
  | cons n r => simp at h2
theorem FeedAt.upd {H : Hp} {p q : Addr} {ns : List Int} {i j k i' j' k' : Int} (F : FeedAt H p q ns i j k) (h1 : 0 ≤ i') (h2 : 0 ≤ j') (h3 : 0 ≤ k') : FeedAt (upd H p (.lst [.ref q, .int i', .int j', .int k'])) p q ns i' j' k' :=
  ⟨upd_same, by rw [upd_ne F.ne]; exact F.hq, F.hn, h1, h2, h3⟩
theorem FeedAt.mono {H H' : Hp} {p q : Addr} {ns : List Int} {i j k : Int} (s : Same H H') (F : FeedAt H p q ns i j k) : FeedAt H' p q ns i j k := ⟨s _ _ F.hp, s _ _ F.hq, F.hn, F.hi, F.hj, F.hk⟩
theorem ints_inj : ∀ {ns ms : List Int}, ns.map V.int = ms.map V.int → ns = ms
  | [], [], _ => rfl
  | [], _ :: _, h => by cases h
  | _ :: _, [], h => by cases h
  | n :: r, m :: t, h => by
    simp only [List.map_cons, List.cons.injEq, V.int.injEq] at h
    rw [h.1, ints_inj h.2]
theorem FeedAt.uniq {H : Hp} {p q q' : Addr} {ns ns' : List Int} {i j k i' j' k' : Int} (F : FeedAt H p q ns i j k) (G : FeedAt H p q' ns' i' j' k') : q' = q ∧ ns' = ns := by
  have h1 := F.hp.symm.trans G.hp
  simp only [Option.some.injEq, HO.lst.injEq, List.cons.injEq, V.ref.injEq] at h1
  have e : q' = q := h1.1.symm
  subst e
  have h2 := F.hq.symm.trans G.hq
  simp only [Option.some.injEq, HO.lst.injEq] at h2
  exact ⟨rfl, (ints_inj h2).symm⟩
/-- all but the feed stays, and the feed is one again -/
structure Dr (p : Addr) (H H' : Hp) : Prop where
  keep : ∀ b o, H b = some o → b ≠ p → H' b = some o
  at_ : ∀ q ns i j k, FeedAt H p q ns i j k → ∃ i' j' k', FeedAt H' p q ns i' j' k'
theorem Dr.feed {p : Addr} {H H' : Hp} (d : Dr p H H') (F : Feed H p) : Feed H' p := by
  obtain ⟨q, ns, i, j, k, F⟩ := F
  obtain ⟨i', j', k', F'⟩ := d.at_ q ns i j k F
  exact ⟨q, ns, i', j', k', F'⟩
structure Bl (mg : Str → Option Value) : Prop where
  list : mg "list" = none
  len : mg "len" = none
  abs : mg "abs" = none
  range : mg "range" = none
  tuple : mg "tuple" = none
  isi : mg "isinstance" = none
  all : mg "all" = none
  set : mg "set" = none
  repr : mg "repr" = none
  any : mg "any" = none
  int : mg "int" = none
  bool : mg "bool" = none
def spFeed (K : PySem.W.Frag) : Sp := fun vs H Q _ => ∃ (a : Addr) (ns : List Int), vs = [.ref a] ∧ SqL K H a (ns.map V.int) ∧ ∀ p H', Same H H' → H p = none → Feed H' p → Q (.ref p) H'
def spDraw : Sp := fun vs H Q _ => ∃ (p : Addr) (m : Int), vs = [.ref p, .int m] ∧ Feed H p ∧ 0 < m ∧ m.natAbs.log2 < 9000 ∧ ∀ r H', 0 ≤ r → r < m → Dr p H H' → Q (.int r) H'
section
variable {P : Program} {w : World} {K : PySem.W.Frag} {mg : Str → Option Value} {base : Heap}
theorem cut_ints (ns : List Int) (lo hi : Option Int) : ∃ ms : List Int, cutV (ns.map V.int) lo hi = ms.map V.int ∧ (∀ k : Nat, hi = some (k : Int) → ms.length ≤ k) := by
  refine ⟨(ns.drop (HT.sIx ns.length 0 lo)).take (HT.sIx ns.length ns.length hi - HT.sIx ns.length 0 lo), ?_, fun k e => ?_⟩
  · unfold cutV; rw [List.length_map, List.map_take, List.map_drop]
  · subst e
    rw [List.length_take, HT.sIx_nat]; omega
theorem scFeed : FnScope ["_law_script"] ["_law_script"] (defScope sFeed) := ⟨rfl, rfl, rfl, by decide +kernel, rfl, by decide +kernel, by decide +kernel⟩
theorem ok_feed {f : Addr} {fd : FuncData} (F : Fun K "_law_feed" "_law_feed" sFeed f fd) (T : Bl mg) : FnOk P w K mg base CX0 1 f fd ["_law_script"] (spFeed K) := by
  refine F.ok scFeed (fun vs H Q E h => ?_) (fun cdv A outer s H vs Q E hr h => ?_)
  · obtain ⟨a, ns, rfl, _⟩ := h; rfl
  · obtain ⟨a, ns, rfl, hS, k⟩ := h
    refine ⟨_, pss_one (ps_ret (pe_lst (pc (ct call_list_of T.list (pc (pe_slice sl_list (vn 0) po_none (po_some pe_int)) pa_nil)) (pc pe_int (pc pe_int (pc pe_int pa_nil)))))), ?_⟩
    refine ⟨_, rfl, _, rfl, a, _, rfl, hS, fun p1 h1 => ⟨p1, _, rfl, .inl (.of upd_same), fun q hq => ⟨by show 4 ≤ sizeLine; decide, fun p hp => ?_⟩⟩⟩
    obtain ⟨ms, e, hl⟩ := cut_ints ns none (some 63)
    rw [e] at hp ⊢
    have s1 : Same H (upd H p1 (.lst (ms.map V.int))) := Same.upd h1
    have s2 := s1.trans (Same.upd (o := .lst (ms.map V.int)) (e ▸ hq))
    have s3 := s2.trans (Same.upd (o := .lst [.ref q, .int 0, .int 0, .int 0]) hp)
    refine k p _ s3 (s2.free hp) ⟨q, ms, 0, 0, 0, upd_same, ?_, hl 63 rfl, by decide, by decide, by decide⟩
    have nq : q ≠ p := fun z => by rw [← z, upd_same] at hp; cases hp
    rw [upd_ne nq, upd_same]
theorem scDraw : FnScope ["_law_feed_here", "_law_many", "_law_found", "_law_cell", "_law_stirred"] ["_law_feed_here", "_law_many"] (defScope sDraw) := ⟨rfl, rfl, rfl, by decide +kernel, rfl, by decide +kernel, by decide +kernel⟩
theorem ok_draw {f : Addr} {fd : FuncData} (F : Fun K "_law_draw" "_law_draw" sDraw f fd) (T : Bl mg) : FnOk P w K mg base CX0 1 f fd ["_law_feed_here", "_law_many"] spDraw := by
  refine F.ok scDraw (fun vs H Q E h => ?_) (fun cdv A outer s H vs Q E hr h => ?_)
  · obtain ⟨p, m, rfl, _⟩ := h; rfl
  · obtain ⟨p, m, rfl, ⟨q, ns, i, j, k0, F⟩, hm, hml, k⟩ := h
    refine ⟨_, pss_cons (ps_asg (pe_op op_add (pe_ix ix_list (vn 0) pe_int (fun _ _ => rfl)) pe_int) (pg_sub (vn 0) pe_int set_list))
      (pss_cons (ps_while PassesOwn.never (pw_and (pt_cmpR op_eq (pe_ix ix_list (vn 0) pe_int (fun _ _ => rfl)) pe_int (nomark _)) (pw_and1 (pt_cmpR op_lt (pe_ix ix_list (vn 0) pe_int (fun _ _ => rfl)) (cb call_len_seq T.len (pc (pe_ix ix_list (vn 0) pe_int (fun _ _ => rfl)) pa_nil)) (nomark _)))).pt
        (pss_cons (ps_if (pt_cmpR op_ge (cb call_abs T.abs (pc (pe_ix ix_list (pe_ix ix_list (vn 0) pe_int (fun _ _ => rfl)) (pe_ix ix_list (vn 0) pe_int (fun _ _ => rfl)) (fun _ _ => rfl)) pa_nil)) (pe_op op_pow pe_int pe_int) (nomark _))
            (pss_one (ps_asg (cb call_abs T.abs (pc (pe_ix ix_list (pe_ix ix_list (vn 0) pe_int (fun _ _ => rfl)) (pe_ix ix_list (vn 0) pe_int (fun _ _ => rfl)) (fun _ _ => rfl)) pa_nil)) (pg_sub (vn 0) pe_int set_list))) pss_nil)
          (pss_one (ps_asg (pe_op op_add (pe_ix ix_list (vn 0) pe_int (fun _ _ => rfl)) pe_int) (pg_sub (vn 0) pe_int set_list)))))
      (pss_cons (ps_if (pt_cmpR op_gt (pe_ix ix_list (vn 0) pe_int (fun _ _ => rfl)) pe_int (nomark _))
          (pss_cons (sset 2 rfl (pe_op op_mod (pe_ix ix_list (vn 0) pe_int (fun _ _ => rfl)) (vn 1)))
            (pss_cons (ps_asg (pe_op op_fdivB (pe_ix ix_list (vn 0) pe_int (fun _ _ => rfl)) (vn 1)) (pg_sub (vn 0) pe_int set_list)) (pss_one (ps_ret (vn 2))))) pss_nil)
      (pss_cons (sset 3 rfl pe_int)
      (pss_cons (ps_if (pt_cmpR op_gt (cb call_len_seq T.len (pc (pe_ix ix_list (vn 0) pe_int (fun _ _ => rfl)) pa_nil)) pe_int (nomark _))
          (pss_one (sset 3 rfl (pe_ix ix_list (pe_ix ix_list (vn 0) pe_int (fun _ _ => rfl)) (pe_op op_mod (pe_ix ix_list (vn 0) pe_int (fun _ _ => rfl)) (cb call_len_seq T.len (pc (pe_ix ix_list (vn 0) pe_int (fun _ _ => rfl)) pa_nil))) (fun _ _ => rfl)))) pss_nil)
      (pss_cons (sset 4 rfl (pe_op op_mod (pe_op op_add (pe_op op_add (pe_op op_mul (pe_op op_mod (vn 3) pe_int) pe_int) (pe_op op_mul pe_int (pe_ix ix_list (vn 0) pe_int (fun _ _ => rfl)))) pe_int) pe_int))
      (pss_cons (sset 4 rfl (pe_op op_mod (pe_op op_mul (vn 4) (pe_op op_add (vn 4) pe_int)) pe_int))
      (pss_one (ps_ret (pe_op op_mod (pe_op op_mod (pe_op op_mul (vn 4) pe_int) pe_int) (vn 1)))))))))), ?_⟩
    -- feed[1] = feed[1] + 1
    refine ⟨_, rfl, p, _, _, _, rfl, rfl, .of F.hp, rfl, _, _, rfl, rfl, _, rfl, p, _, _, _, rfl, rfl, F.hp, rfl, ?_⟩
    have F1 : FeedAt (upd H p (.lst [.ref q, .int (i + 1), .int j, .int k0])) p q ns (i + 1) j k0 := F.upd (by have := F.hi; omega) F.hj F.hk
    refine tw_intro (fun n σ' H' => ∃ i' j' k', σ' = [some (.ref p), some (.int m), none, none, none] ∧ FeedAt H' p q ns i' j' k' ∧ (∀ b, b ≠ p → H' b = H b) ∧ n = (63 - k').toNat)
      (fun σ' H' => ∃ i' j' k', σ' = [some (.ref p), some (.int m), none, none, none] ∧ FeedAt H' p q ns i' j' k' ∧ (∀ b, b ≠ p → H' b = H b)) ?hend ⟨_, _, _, _, rfl, F1, fun b hb => upd_ne hb, rfl⟩ ?turn
    case turn =>
      rintro hend n σ' H' ⟨i', j', k', rfl, F', hb', rfl⟩
      refine ⟨_, rfl, p, _, _, _, rfl, rfl, .of F'.hp, rfl, rfl, _, rfl, ?_⟩
      refine ite2 (fun hj => ?_) (fun hj => ?_)
      · obtain ⟨kn, rfl⟩ := Int.eq_ofNat_of_zero_le F'.hk
        refine ⟨_, rfl, p, _, _, _, rfl, rfl, .of F'.hp, rfl, _, rfl, p, _, _, _, rfl, rfl, .of F'.hp, rfl, q, _, rfl, .inl (.of F'.hq), _, _, rfl, rfl, _, rfl, ?_⟩
        refine ite2 (fun hl => ?_) (fun hl => hend _ _ ⟨i', j', _, rfl, F', hb'⟩)
        refine ⟨_, fun _ _ z => z, ?_⟩
        have hl' : kn < ns.length := by
          have := of_decide_eq_true hl
          rw [List.length_map] at this; omega
        obtain ⟨z, hz⟩ : ∃ z, ns[kn]? = some z := ⟨_, List.getElem?_eq_getElem hl'⟩
        have hz' : atI (ns.map V.int) (kn : Int) = some (.int z) := atI_nat (by rw [List.getElem?_map, hz]; rfl)
        refine ⟨_, rfl, p, _, _, _, rfl, rfl, .of F'.hp, rfl, _, rfl, p, _, _, _, rfl, rfl, .of F'.hp, rfl, q, _, _, _, rfl, rfl, .of F'.hq, hz', _, rfl, _, _, rfl, rfl, ⟨by decide, by decide, by decide⟩, _, _, rfl, rfl, _, rfl, ?_⟩
        have hn63 := F'.hn
        refine ite2 (fun hg => ?_) (fun hg => ?_)
        · refine ⟨_, rfl, p, _, _, _, rfl, rfl, .of F'.hp, rfl, _, rfl, p, _, _, _, rfl, rfl, .of F'.hp, rfl, q, _, _, _, rfl, rfl, .of F'.hq, hz', _, rfl, _, rfl, p, _, _, _, rfl, rfl, F'.hp, rfl, ?_⟩
          have F2 : FeedAt (upd H' p (.lst [.ref q, .int i', .int (if z < 0 then -z else z), .int kn])) p q ns i' (if z < 0 then -z else z) kn := F'.upd F'.hi (by split <;> omega) F'.hk
          refine ⟨_, rfl, p, _, _, _, rfl, rfl, .of F2.hp, rfl, _, _, rfl, rfl, _, rfl, p, _, _, _, rfl, rfl, F2.hp, rfl, ?_⟩
          exact ⟨(63 - ((kn : Int) + 1)).toNat, by omega, i', _, (kn : Int) + 1, rfl, F2.upd F'.hi (by split <;> omega) (by omega), fun b hb => by rw [upd_ne hb, upd_ne hb]; exact hb' b hb, rfl⟩
        · refine ⟨_, rfl, p, _, _, _, rfl, rfl, .of F'.hp, rfl, _, _, rfl, rfl, _, rfl, p, _, _, _, rfl, rfl, F'.hp, rfl, ?_⟩
          exact ⟨(63 - ((kn : Int) + 1)).toNat, by omega, i', j', (kn : Int) + 1, rfl, F'.upd F'.hi F'.hj (by omega), fun b hb => by rw [upd_ne hb]; exact hb' b hb, rfl⟩
      · exact hend _ _ ⟨i', j', k', rfl, F', hb'⟩
    case hend =>
      rintro σ' H' ⟨i', j', k', rfl, F', hb'⟩
      have dr : ∀ {H2 : Hp} {i2 j2 k2 : Int}, FeedAt H2 p q ns i2 j2 k2 → (∀ b, b ≠ p → H2 b = H b) → Dr p H H2 := fun {H2 i2 j2 k2} F2 hb2 => ⟨fun b o e hb => by rw [hb2 b hb]; exact e, fun q' ns' _ _ _ G => by obtain ⟨rfl, rfl⟩ := F.uniq G; exact ⟨i2, j2, k2, F2⟩⟩
      refine ⟨_, rfl, p, _, _, _, rfl, rfl, .of F'.hp, rfl, _, _, rfl, rfl, _, rfl, ?_⟩
      refine ite2 (fun hg => ?_) (fun hg => ?_)
      · refine ⟨_, rfl, p, _, _, _, rfl, rfl, .of F'.hp, rfl, _, rfl, _, _, rfl, rfl, hm, ?_⟩
        refine ⟨_, rfl, p, _, _, _, rfl, rfl, .of F'.hp, rfl, _, rfl, _, _, rfl, rfl, ⟨hm, hml⟩, _, rfl, p, _, _, _, rfl, rfl, F'.hp, rfl, _, rfl, ?_⟩
        have F2 := F'.upd (i' := i') (j' := j' / m) (k' := k') F'.hi (Int.ediv_nonneg F'.hj (by omega)) F'.hk
        exact k _ _ (Int.emod_nonneg _ (by omega)) (Int.emod_lt_of_pos _ hm) (dr F2 fun b hb => by rw [upd_ne hb]; exact hb' b hb)
      · -- cell = 0; if len(feed[0]) > 0: ..
        have tail : ∀ c : Int, tSeq (tAsg (tOp (rI (fun _ j => 0 < j) fun i j => .int (i % j)) (tOp (rI0 fun i j => .int (i + j)) (tOp (rI0 fun i j => .int (i + j)) (tOp (rI CMul fun i j => .int (i * j)) (tOp (rI (fun _ j => 0 < j) fun i j => .int (i % j)) (tVar 3) (tC (.int 2147483647))) (tC (.int 48271))) (tOp (rI CMul fun i j => .int (i * j)) (tC (.int 7919)) (tOp (rIxL K) (tVar 0) (tC (.int 1))))) (tC (.int 12345))) (tC (.int 2147483629))) (gName 4))
            (tSeq (tAsg (tOp (rI (fun _ j => 0 < j) fun i j => .int (i % j)) (tOp (rI CMul fun i j => .int (i * j)) (tVar 4) (tOp (rI0 fun i j => .int (i + j)) (tVar 4) (tC (.int 40692)))) (tC (.int 2147483587))) (gName 4))
              (tRet (tOp (rI (fun _ j => 0 < j) fun i j => .int (i % j)) (tOp (rI (fun _ j => 0 < j) fun i j => .int (i % j)) (tOp (rI CMul fun i j => .int (i * j)) (tVar 4) (tC (.int 16807))) (tC (.int 2147483563))) (tVar 1)))) { nx := fun _ H' => Q .non H', rt := Q } [some (.ref p), some (.int m), none, some (.int c), none] H' := by
          intro c
          refine ⟨_, rfl, _, _, rfl, rfl, (by show (0 : Int) < _; decide), _, _, rfl, rfl, .inl ⟨by omega, by omega⟩, _, rfl, p, _, _, _, rfl, rfl, .of F'.hp, rfl, _, _, rfl, rfl, .inl ⟨by decide, by decide⟩, _, _, rfl, rfl, _, _, rfl, rfl, _, _, rfl, rfl, (by show (0 : Int) < _; decide), ?_⟩
          refine ⟨_, rfl, _, rfl, _, _, rfl, rfl, _, _, rfl, rfl, .inl ⟨by omega, by omega⟩, _, _, rfl, rfl, (by show (0 : Int) < _; decide), ?_⟩
          refine ⟨_, rfl, _, _, rfl, rfl, .inl ⟨by omega, by omega⟩, _, _, rfl, rfl, (by show (0 : Int) < _; decide), _, rfl, _, _, rfl, rfl, hm, ?_⟩
          exact k _ _ (Int.emod_nonneg _ (by omega)) (Int.emod_lt_of_pos _ hm) (dr F' hb')
        refine ⟨_, rfl, p, _, _, _, rfl, rfl, .of F'.hp, rfl, q, _, rfl, .inl (.of F'.hq), _, _, rfl, rfl, _, rfl, ?_⟩
        refine ite2 (fun hl => ?_) (fun hl => ?_)
        · have hl' : 0 < ns.length := by
            have := of_decide_eq_true hl
            rw [List.length_map] at this; omega
          have hr0 : 0 ≤ i' % (ns.length : Int) ∧ i' % (ns.length : Int) < ns.length := ⟨Int.emod_nonneg _ (by omega), Int.emod_lt_of_pos _ (by omega)⟩
          obtain ⟨rn, hrn⟩ := Int.eq_ofNat_of_zero_le hr0.1
          obtain ⟨z, hz⟩ : ∃ z, ns[rn]? = some z := ⟨_, List.getElem?_eq_getElem (by omega)⟩
          have hz' : atI (ns.map V.int) (i' % ((ns.map V.int).length : Int)) = some (.int z) := by rw [List.length_map, hrn]; exact atI_nat (by rw [List.getElem?_map, hz]; rfl)
          refine ⟨_, rfl, p, _, _, _, rfl, rfl, .of F'.hp, rfl, _, rfl, p, _, _, _, rfl, rfl, .of F'.hp, rfl, _, rfl, p, _, _, _, rfl, rfl, .of F'.hp, rfl, q, _, rfl, .inl (.of F'.hq), _, _, rfl, rfl, (by show (0 : Int) < ((ns.map V.int).length : Int); rw [List.length_map]; omega), q, _, _, _, rfl, rfl, .of F'.hq, hz', ?_⟩
          exact tail z
        · exact tail 0
end
end C7

set_option maxHeartbeats 4000000
namespace C7
open PySem L2 PySem.Spec PyProof.Rows
/-! ### heaps and the feed -/
theorem Feed.mono {H H' : Hp} {p : Addr} (s : Same H H') (F : Feed H p) : Feed H' p := by
  obtain ⟨q, ns, i, j, k, F⟩ := F
  exact ⟨q, ns, i, j, k, F.mono s⟩
theorem Dr.trans {p : Addr} {H H1 H2 : Hp} (a : Dr p H H1) (b : Dr p H1 H2) : Dr p H H2 :=
  ⟨fun c o e n => b.keep c o (a.keep c o e n) n, fun q ns i j k F => let ⟨_, _, _, G⟩ := a.at_ q ns i j k F; b.at_ _ _ _ _ _ G⟩
theorem Dr.of {p : Addr} {H H1 : Hp} (a : Same H H1) : Dr p H H1 := ⟨fun c o e _ => a c o e, fun _ _ i j k F => ⟨i, j, k, F.mono a⟩⟩
theorem Dr.same {p : Addr} {H H1 H2 : Hp} (a : Dr p H H1) (b : Same H1 H2) : Dr p H H2 := a.trans (.of b)
/-- a thing that was not there is changed -/
theorem Dr.updN {p l : Addr} {H H1 : Hp} {o : HO} (a : Dr p H H1) (h : H l = none) : Dr p H (upd H1 l o) :=
  ⟨fun c u e n => by rw [upd_ne (ne_of_none e h)]; exact a.keep c u e n, fun q ns i j k F => by
    obtain ⟨i', j', k', G⟩ := a.at_ q ns i j k F
    exact ⟨i', j', k', by rw [upd_ne (ne_of_none F.hp h)]; exact G.hp, by rw [upd_ne (ne_of_none F.hq h)]; exact G.hq, G.hn, G.hi, G.hj, G.hk⟩⟩
/-- what is not a list cannot be the feed -/
theorem Feed.neT {p a : Addr} {H : Hp} {xs : List V} (F : Feed H p) (h : H a = some (.tup xs)) : a ≠ p := fun e => by
  obtain ⟨q, ns, i, j, k, F⟩ := F
  rw [e, F.hp] at h; cases h
theorem Dr.tup {p a : Addr} {H H' : Hp} {xs : List V} (d : Dr p H H') (F : Feed H p) (h : H a = some (.tup xs)) : H' a = some (.tup xs) := d.keep a _ h (F.neT h)
/-! ### things -/
def wholeB (n : String) : Bool := isaB n "int" && !isaB n "bool"
def elB (c : Int) : V → Bool
  | .int i => decide (0 ≤ i) && decide (i < c)
  | _ => false
def isI : V → Bool
  | .int _ => true
  | _ => false
/-- an item of a thing: its kind, its data -/
def El (K : PySem.W.Frag) (H : Hp) (y : V) : Prop := ∃ n d, Kd K H y n ∧ RdD K H y d ∧ d.canLay0 = true ∧ d.depth ≤ 10
/-- a thing: a tuple of items, or of another kind -/
inductive Th (K : PySem.W.Frag) (H : Hp) : V → Option (List V) → Prop where
  | tup {a : Addr} {xs : List V} (h : H a = some (.tup xs)) (hl : xs.length ≤ 1000) (he : ∀ y ∈ xs, El K H y) : Th K H (.ref a) (some xs)
  | other {x : V} {n : String} (h : Kd K H x n) (hn : n ≠ "tuple") : Th K H x none
def thingsB (o : Option (List V)) (c : Int) : Bool := match o with
  | none => false
  | some xs => xs.all (elB c)
def intsV (xs : List V) : List Int := xs.filterMap fun y => match y with | .int i => some i | _ => none
def spWhole (K : PySem.W.Frag) : Sp := fun vs H Q _ => ∃ x n, vs = [x] ∧ Kd K H x n ∧ Q (.bl (isI x)) H
section
variable {P : Program} {w : World} {K : PySem.W.Frag} {mg : Str → Option Value} {base : Heap}
theorem log_small {m : Int} (h : 0 < m) (h2 : m < 2 ^ 64) : m.natAbs.log2 < 9000 := by
  have := (Nat.log2_lt (n := m.natAbs) (k := 64) (by omega)).mpr (by omega)
  omega
theorem eqvNil (ds : List PyData) : PyData.eqv (.list ds) (.list []) = ds.isEmpty := by
  cases ds with
  | nil => rfl
  | cons d r => rfl
theorem shapedL {ds : List PyData} (h : ∀ d ∈ ds, d.canLay0 = true ∧ d.depth ≤ 10) : SeqAt.shaped (.list ds) = true := by
  have h1 : PyData.canLayAll0 ds = true ∧ PyData.depthAll ds ≤ 10 := by
    induction ds with
    | nil => exact ⟨rfl, Nat.zero_le _⟩
    | cons d r ih =>
      obtain ⟨a, b⟩ := ih fun e he => h e (List.mem_cons_of_mem _ he)
      obtain ⟨c, e⟩ := h d List.mem_cons_self
      exact ⟨by simp only [PyData.canLayAll0, c, a, Bool.and_self], by simp only [PyData.depthAll]; omega⟩
  unfold SeqAt.shaped
  rw [Bool.and_eq_true]
  have h2 : (PyData.list ds).depth ≤ 64 := by simp only [PyData.depth]; omega
  exact ⟨by simp only [PyData.canLay0]; exact h1.1, decide_eq_true h2⟩
theorem isEmpty_of_len {α β : Type} {xs : List α} {ys : List β} (h : xs.length = ys.length) : xs.isEmpty = ys.isEmpty := by
  cases xs <;> cases ys <;> first | rfl | cases h
end
end C7

/-! tables of groups, by their powers alone (pure) -/
namespace Tb
def mul (t : List (List Nat)) (a b : Nat) : Nat := (t.getD a []).getD b 0
def it (t : List (List Nat)) (a : Nat) : Nat → Nat
  | 0 => 0
  | k + 1 => mul t (it t a k) a
/-- what is known of a thing a: its round r -/
structure Rd (t : List (List Nat)) (a r : Nat) : Prop where
  r1 : 1 ≤ r
  rn : r ≤ t.length
  dv : t.length % r = 0
  z : it t a r = 0
  nz : ∀ k, 1 ≤ k → k < r → it t a k ≠ 0
  bk : mul t a (it t a (r - 1)) = 0
  un : ∀ b, b < t.length → mul t a b = 0 → b = it t a (r - 1)
structure PW (t : List (List Nat)) : Prop where
  n1 : 1 ≤ t.length
  n60 : t.length ≤ 60
  len : ∀ row ∈ t, row.length = t.length
  lt : ∀ a b, a < t.length → b < t.length → mul t a b < t.length
  one : ∀ a, a < t.length → mul t 0 a = a
  rd : ∀ a, a < t.length → ∃ r, Rd t a r
section
variable {t : List (List Nat)} {a r : Nat}
theorem it_lt (P : PW t) (ha : a < t.length) : ∀ k, it t a k < t.length
  | 0 => P.n1
  | k + 1 => P.lt _ _ (it_lt P ha k) ha
theorem it_one (P : PW t) (ha : a < t.length) : it t a 1 = a := P.one a ha
end
/-! the check -/
def rdB (t : List (List Nat)) (n a : Nat) : Nat → Nat → Nat → Bool
  | 0, _, _ => false
  | f + 1, k, prev =>
    -- prev = it t a k; the next
    let x := mul t prev a
    match x with
    | 0 => decide (n % (k + 1) = 0) && decide (k + 1 ≤ n) && decide (mul t a prev = 0) && ((List.range n).all fun b => decide (b = prev) || !decide (mul t a b = 0))
    | y + 1 => rdB t n a f (k + 1) (y + 1)
def pwB (t : List (List Nat)) : Bool := decide (1 ≤ t.length) && decide (t.length ≤ 60) && (t.all fun row => decide (row.length = t.length) && row.all fun x => decide (x < t.length)) && ((List.range t.length).all fun a => decide (mul t 0 a = a) && rdB t t.length a t.length 0 0)
theorem rdB_of {t : List (List Nat)} {a : Nat} : ∀ (f k prev : Nat), prev = it t a k → (∀ j, 1 ≤ j → j ≤ k → it t a j ≠ 0) → rdB t t.length a f k prev = true → ∃ r, Rd t a r
  | 0, k, prev, _, _, h => by cases h
  | f + 1, k, prev, e, hz, h => by
    unfold rdB at h
    have ex : it t a (k + 1) = mul t prev a := by rw [it, e]
    cases hx : mul t prev a with
    | zero =>
      simp only [hx, Bool.and_eq_true, decide_eq_true_eq, List.all_eq_true, Bool.or_eq_true, Bool.not_eq_true', decide_eq_false_iff_not] at h
      obtain ⟨⟨⟨h1, h2⟩, h3⟩, h4⟩ := h
      refine ⟨k + 1, by omega, h2, h1, by rw [ex, hx], fun j j1 jk => hz j j1 (by omega), by rw [Nat.add_sub_cancel, ← e]; exact h3, fun b hb hm => ?_⟩
      rw [Nat.add_sub_cancel, ← e]
      exact (h4 b (List.mem_range.mpr hb)).resolve_right fun z => z hm
    | succ y =>
      simp only [hx] at h
      refine rdB_of f (k + 1) (y + 1) (by rw [ex, hx]) (fun j j1 jk => ?_) h
      by_cases ej : j = k + 1
      · rw [ej, ex, hx]
        exact Nat.succ_ne_zero _
      · exact hz j j1 (by omega)
theorem pwB_of {t : List (List Nat)} (h : pwB t = true) : PW t := by
  unfold pwB at h
  simp only [Bool.and_eq_true, decide_eq_true_eq, List.all_eq_true] at h
  obtain ⟨⟨⟨h1, h2⟩, h3⟩, h4⟩ := h
  refine ⟨h1, h2, fun row hr => (h3 row hr).1, fun a b ha hb => ?_, fun a ha => (h4 a (List.mem_range.mpr ha)).1, fun a ha => ?_⟩
  · unfold mul
    have hm : t.getD a [] ∈ t := by
      rw [List.getD_eq_getElem?_getD, List.getElem?_eq_getElem ha]
      exact List.getElem_mem ha
    obtain ⟨hl, hx⟩ := h3 _ hm
    generalize t.getD a [] = row at *
    have hb' : b < row.length := by omega
    refine hx _ ?_
    rw [List.getD_eq_getElem?_getD, List.getElem?_eq_getElem hb']
    exact List.getElem_mem hb'
  · exact rdB_of _ 0 0 rfl (fun j j1 j0 => by omega) (h4 a (List.mem_range.mpr ha)).2
/-! another order of the things -/
def pos (o : List Nat) (v : Nat) : Nat := o.findIdx (· == v)
def ren (t : List (List Nat)) (o : List Nat) : List (List Nat) := o.map fun a => o.map fun b => pos o (mul t a b)
structure Ord (n : Nat) (o : List Nat) : Prop where
  len : o.length = n
  nd : o.Nodup
  all : ∀ v, v < n → v ∈ o
  lt : ∀ v ∈ o, v < n
  z : o.getD 0 0 = 0
section
variable {t : List (List Nat)} {o : List Nat}
theorem getD_lt {o : List Nat} {i : Nat} (h : i < o.length) : o[i]? = some (o.getD i 0) := by
  rw [List.getD_eq_getElem?_getD, List.getElem?_eq_getElem h]
  rfl
theorem pos_lt {n v : Nat} (O : Ord n o) (hv : v < n) : pos o v < n ∧ o.getD (pos o v) 0 = v := by
  have hm := O.all v hv
  have h1 : o.findIdx (· == v) < o.length := List.findIdx_lt_length_of_exists ⟨v, hm, by simp⟩
  refine ⟨by rw [← O.len]; exact h1, ?_⟩
  have h2 := List.findIdx_getElem (w := h1)
  have h3 : o[o.findIdx (· == v)] = v := by simpa using h2
  unfold pos
  rw [List.getD_eq_getElem?_getD, List.getElem?_eq_getElem h1]
  exact h3
theorem inj {n i j : Nat} (O : Ord n o) (hi : i < n) (hj : j < n) (e : o.getD i 0 = o.getD j 0) : i = j := by
  have h1 := getD_lt (o := o) (i := i) (by rw [O.len]; exact hi)
  have h2 := getD_lt (o := o) (i := j) (by rw [O.len]; exact hj)
  rw [e] at h1
  exact (List.getElem?_inj (by rw [O.len]; exact hi) O.nd).mp (h1.trans h2.symm)
theorem o_lt {n i : Nat} (O : Ord n o) (hi : i < n) : o.getD i 0 < n := O.lt _ (List.mem_of_getElem? (getD_lt (by rw [O.len]; exact hi)))
theorem ren_len : (ren t o).length = o.length := by unfold ren; rw [List.length_map]
theorem mul_ren {n i j : Nat} (O : Ord n o) (hi : i < n) (hj : j < n) : mul (ren t o) i j = pos o (mul t (o.getD i 0) (o.getD j 0)) := by
  unfold mul ren
  have h1 := getD_lt (o := o) (i := i) (by rw [O.len]; exact hi)
  have h2 := getD_lt (o := o) (i := j) (by rw [O.len]; exact hj)
  rw [List.getD_eq_getElem?_getD (l := o.map _), List.getElem?_map, h1]
  show (o.map fun b => pos o ((t.getD (o.getD i 0) []).getD b 0)).getD j 0 = _
  rw [List.getD_eq_getElem?_getD, List.getElem?_map, h2]
  rfl
theorem pw_ren (P : PW t) (O : Ord t.length o) : PW (ren t o) := by
  have L : (ren t o).length = t.length := by rw [ren_len, O.len]
  have back : ∀ i j, i < t.length → j < t.length → o.getD (mul (ren t o) i j) 0 = mul t (o.getD i 0) (o.getD j 0) := fun i j hi hj => by
    rw [mul_ren O hi hj]
    exact (pos_lt O (P.lt _ _ (o_lt O hi) (o_lt O hj))).2
  have lt : ∀ i j, i < t.length → j < t.length → mul (ren t o) i j < t.length := fun i j hi hj => by
    rw [mul_ren O hi hj]
    exact (pos_lt O (P.lt _ _ (o_lt O hi) (o_lt O hj))).1
  have n1 := P.n1
  have itb : ∀ a, a < t.length → ∀ k, it (ren t o) a k < t.length ∧ o.getD (it (ren t o) a k) 0 = it t (o.getD a 0) k := fun a ha k => by
    induction k with
    | zero => exact ⟨n1, O.z⟩
    | succ k ih =>
      rw [it, it]
      exact ⟨lt _ _ ih.1 ha, by rw [back _ _ ih.1 ha, ih.2]⟩
  have zz : ∀ i, i < t.length → (i = 0 ↔ o.getD i 0 = 0) := fun i hi => by
    constructor
    · intro e; rw [e, O.z]
    · intro e; exact inj O hi n1 (by rw [e, O.z])
  refine ⟨by omega, by have := P.n60; omega, fun row hr => ?_, fun a b ha hb => by rw [L]; exact lt a b (by omega) (by omega), fun a ha => ?_, fun a ha => ?_⟩
  · unfold ren at hr
    obtain ⟨a, _, rfl⟩ := List.mem_map.mp hr
    rw [List.length_map, ren_len]
  · refine inj O (lt 0 a n1 (by omega)) (by omega) ?_
    rw [back 0 a n1 (by omega), O.z, P.one _ (o_lt O (by omega))]
  · have ha' : a < t.length := by omega
    obtain ⟨r, R⟩ := P.rd _ (o_lt O ha')
    have key : ∀ k, it (ren t o) a k = 0 ↔ it t (o.getD a 0) k = 0 := fun k => by
      rw [zz _ (itb a ha' k).1, (itb a ha' k).2]
    refine ⟨r, R.r1, by rw [L]; exact R.rn, by rw [L]; exact R.dv, (key r).mpr R.z, fun k k1 kr z => R.nz k k1 kr ((key k).mp z), ?_, fun b hb hm => ?_⟩
    · refine (zz _ (lt _ _ ha' (itb a ha' _).1)).mpr ?_
      rw [back _ _ ha' (itb a ha' _).1, (itb a ha' _).2]
      exact R.bk
    · have hb' : b < t.length := by omega
      refine inj O hb' (itb a ha' _).1 ?_
      rw [(itb a ha' _).2]
      refine R.un _ (o_lt O hb') ?_
      rw [← back a b ha' hb', hm, O.z]
end
/-! the full round -/
/-- the least multiple of st from f on that r divides -/
def upTo (r st : Nat) : Nat → Nat → Nat
  | 0, f => f
  | k + 1, f => if f % r = 0 then f else upTo r st k (f + st)
theorem upTo_spec {r st B : Nat} (st1 : 1 ≤ st) (hB : B % r = 0) (hB2 : B % st = 0) : ∀ (k f : Nat), f % st = 0 → f ≤ B → B - f < k * st → (∀ x, x % st = 0 → x % r = 0 → 1 ≤ x → x < f → False) → upTo r st k f % r = 0 ∧ upTo r st k f % st = 0 ∧ f ≤ upTo r st k f ∧ upTo r st k f ≤ B ∧ (∀ x, x % st = 0 → x % r = 0 → 1 ≤ x → x < upTo r st k f → False)
  | 0, f, h1, h2, h3, _ => by rw [Nat.zero_mul] at h3; omega
  | k + 1, f, h1, h2, h3, h4 => by
    unfold upTo
    by_cases h : f % r = 0
    · rw [if_pos h]
      exact ⟨h, h1, Nat.le_refl _, h2, h4⟩
    · rw [if_neg h]
      have fB : f ≠ B := fun z => h (z ▸ hB)
      obtain ⟨u, rfl⟩ := Nat.dvd_of_mod_eq_zero h1
      obtain ⟨v, rfl⟩ := Nat.dvd_of_mod_eq_zero hB2
      have uv : u < v := Nat.lt_of_mul_lt_mul_left (Nat.lt_of_le_of_ne h2 fB)
      have h5 : st * u + st ≤ st * v := by
        have := Nat.mul_le_mul_left st (show u + 1 ≤ v by omega)
        rw [Nat.mul_add, Nat.mul_one] at this
        exact this
      have := upTo_spec st1 hB hB2 k (st * u + st) (by rw [Nat.add_mod_right, Nat.mul_mod_right]) h5 (by rw [Nat.succ_mul] at h3; omega) fun x x1 x2 x3 x4 => ?_
      · exact ⟨this.1, this.2.1, by omega, this.2.2.2.1, this.2.2.2.2⟩
      · by_cases hx : x < st * u
        · exact h4 x x1 x2 x3 hx
        · obtain ⟨y, rfl⟩ := Nat.dvd_of_mod_eq_zero x1
          have y1 : u ≤ y := Nat.le_of_mul_le_mul_left (by omega) st1
          have y2 : y < u + 1 := Nat.lt_of_mul_lt_mul_left (a := st) (by rw [Nat.mul_add, Nat.mul_one]; exact x4)
          have : y = u := by omega
          rw [this] at x2
          exact h x2
theorem mod_sub {x d r : Nat} (hx : x % r = 0) (hd : d % r = 0) : x % d % r = 0 := by
  have h1 := Nat.mod_add_div x d
  have h2 : (d * (x / d)) % r = 0 := by rw [Nat.mul_mod, hd, Nat.zero_mul, Nat.zero_mod]
  have h3 : (x % d + d * (x / d)) % r = 0 := by rw [h1]; exact hx
  rw [Nat.add_mod, h2, Nat.add_zero, Nat.mod_mod] at h3
  exact h3
/-- what the full round is, thing by thing -/
structure Lc (rs : Nat → Nat) (i f : Nat) : Prop where
  f1 : 1 ≤ f
  dv : ∀ a, a < i → f % rs a = 0
  mn : ∀ x, (∀ a, a < i → x % rs a = 0) → x % f = 0
theorem Lc.step {rs : Nat → Nat} {i f B : Nat} (L : Lc rs i f) (hB : 1 ≤ B) (hB' : ∀ a, a < i + 1 → B % rs a = 0) {k : Nat} (hk : B < k) : Lc rs (i + 1) (upTo (rs i) f k f) := by
  have Bf : B % f = 0 := L.mn B fun a ha => hB' a (by omega)
  have f1 := L.f1
  have fB : f ≤ B := Nat.le_of_dvd (by omega) (Nat.dvd_of_mod_eq_zero Bf)
  obtain ⟨h1, h2, h3, h4, h5⟩ := upTo_spec (r := rs i) f1 (hB' i (by omega)) Bf k f (Nat.mod_self f) fB (by
    have : k * 1 ≤ k * f := Nat.mul_le_mul_left k f1
    omega) fun x x1 x2 x3 x4 => by
      have := Nat.le_of_dvd (by omega) (Nat.dvd_of_mod_eq_zero x1)
      omega
  refine ⟨by omega, fun a ha => ?_, fun x hx => ?_⟩
  · by_cases e : a = i
    · rw [e]; exact h1
    · have := L.dv a (by omega)
      obtain ⟨u, hu⟩ := Nat.dvd_of_mod_eq_zero h2
      rw [hu, Nat.mul_mod, this, Nat.zero_mul, Nat.zero_mod]
  · have xf : x % f = 0 := L.mn x fun a ha => hx a (by omega)
    apply Classical.byContradiction
    intro z
    exact h5 (x % upTo (rs i) f k f) (mod_sub xf h2) (mod_sub (hx i (by omega)) h1) (by omega) (Nat.mod_lt _ (by omega))
end Tb

set_option maxHeartbeats 4000000
namespace C7
open PySem L2 PySem.Spec PyProof.Rows
open Tb
abbrev sBack : Stmt := top 1
abbrev sPower : Stmt := top 2
abbrev sRound : Stmt := top 3
abbrev sFull : Stmt := top 4
abbrev sPows : Stmt := top 15
def nV (k : Nat) : V := .int (k : Int)
theorem Tz.dr {H H' : Hp} {r p : Addr} {ys : List V} (F : Feed H p) (d : Dr p H H') (h : Tz H r ys) : Tz H' r ys := by
  obtain ⟨o, h, rest⟩ := h
  refine ⟨o, d.keep r _ h (fun z => ?_), rest⟩
  obtain ⟨q, ns, i, j, k, F⟩ := F
  rw [z, F.hp] at h
  cases h
/-- a group's table in the heap -/
def GT (H : Hp) (g : Addr) (t : List (List Nat)) : Prop := ∃ rs : List Addr, H g = some (.tup (rs.map V.ref)) ∧ rs.length = t.length ∧ ∀ (i : Nat) r, rs[i]? = some r → Tz H r ((t.getD i []).map nV)
theorem GT.mono {H H' : Hp} {g : Addr} {t : List (List Nat)} (s : Same H H') (G : GT H g t) : GT H' g t := by
  obtain ⟨rs, h1, h2, h3⟩ := G
  exact ⟨rs, s _ _ h1, h2, fun i r hr => (h3 i r hr).mono s⟩
theorem GT.dr {H H' : Hp} {g p : Addr} {t : List (List Nat)} (F : Feed H p) (d : Dr p H H') (G : GT H g t) : GT H' g t := by
  obtain ⟨rs, h1, h2, h3⟩ := G
  exact ⟨rs, d.tup F h1, h2, fun i r hr => Tz.dr F d (h3 i r hr)⟩
theorem row_len {t : List (List Nat)} (P : PW t) {a : Nat} (ha : a < t.length) : (t.getD a []).length = t.length := by
  refine P.len _ ?_
  rw [List.getD_eq_getElem?_getD, List.getElem?_eq_getElem ha]
  exact List.getElem_mem ha
theorem row_at {t : List (List Nat)} (P : PW t) {a b : Nat} (ha : a < t.length) (hb : b < t.length) : ((t.getD a []).map nV)[b]? = some (.int (mul t a b : Nat)) := by
  have hl := row_len P ha
  unfold mul
  generalize t.getD a [] = row at *
  rw [List.getElem?_map, List.getElem?_eq_getElem (show b < row.length by omega), List.getD_eq_getElem?_getD, List.getElem?_eq_getElem (show b < row.length by omega)]
  rfl
/-- group[a][b] -/
theorem GT.at {H : Hp} {g : Addr} {t : List (List Nat)} (G : GT H g t) (P : PW t) {a : Nat} (ha : a < t.length) : ∃ (rs : List Addr) (r : Addr), H g = some (.tup (rs.map V.ref)) ∧ rs.length = t.length ∧ atI (rs.map V.ref) (a : Int) = some (.ref r) ∧ Tz H r ((t.getD a []).map nV) ∧ ∀ b, b < t.length → atI ((t.getD a []).map nV) (b : Int) = some (.int (mul t a b : Nat)) := by
  obtain ⟨rs, h1, h2, h3⟩ := G
  have hr : rs[a]? = some (rs[a]'(by omega)) := List.getElem?_eq_getElem (by omega)
  exact ⟨rs, _, h1, h2, atI_nat (by rw [List.getElem?_map, hr]; rfl), h3 a _ hr, fun b hb => atI_nat (row_at P ha hb)⟩
def spBack (K : PySem.W.Frag) : Sp := fun vs H Q _ => ∃ (g : Addr) (t : List (List Nat)) (a r : Nat), vs = [.ref g, .int a] ∧ GT H g t ∧ PW t ∧ a < t.length ∧ Rd t a r ∧ Q (.int (it t a (r - 1) : Nat)) H
def spRound : Sp := fun vs H Q _ => ∃ (g : Addr) (t : List (List Nat)) (a r : Nat), vs = [.ref g, .int a] ∧ GT H g t ∧ PW t ∧ a < t.length ∧ Rd t a r ∧ Q (.int r) H
def spPower : Sp := fun vs H Q _ => ∃ (g : Addr) (t : List (List Nat)) (a r : Nat) (k : Int), vs = [.ref g, .int a, .int k] ∧ GT H g t ∧ PW t ∧ a < t.length ∧ Rd t a r ∧ ∀ H', Same H H' → Q (.int (it t a (k % (r : Int)).toNat : Nat)) H'
def spFull : Sp := fun vs H Q _ => ∃ (g : Addr) (t : List (List Nat)) (rs : Nat → Nat), vs = [.ref g] ∧ GT H g t ∧ PW t ∧ (∀ a, a < t.length → Rd t a (rs a)) ∧ ∀ (f : Nat) H', Same H H' → Lc rs t.length f → Q (.int f) H'
def spPows : Sp := fun vs H Q _ => ∃ (g : Addr) (t : List (List Nat)) (a r : Nat), vs = [.ref g, .int a] ∧ GT H g t ∧ PW t ∧ a < t.length ∧ Rd t a r ∧ ∀ l H', Same H H' → H' l = some (.lst ((List.range r).map fun k => nV (it t a k))) → Q (.ref l) H'
section
variable {P : Program} {w : World} {K : PySem.W.Frag} {mg : Str → Option Value} {base : Heap}
theorem scBack : FnScope ["group", "a"] ["group", "a"] (defScope sBack) := ⟨rfl, rfl, rfl, by decide +kernel, rfl, by decide +kernel, by decide +kernel⟩
theorem ok_back {f : Addr} {fd : FuncData} (F : Fun K "back" "back" sBack f fd) : FnOk P w K mg base CX0 1 f fd ["group", "a"] (spBack K) := by
  refine F.ok scBack (fun vs H Q E h => ?_) (fun cdv A outer s H vs Q E hr h => ?_)
  · obtain ⟨g, t, a, r, rfl, _⟩ := h; rfl
  · obtain ⟨g, t, a, r, rfl, G, Pt, ha, R, q⟩ := h
    refine ⟨_, pss_one (ps_ret (pe_bmT PySem.F.plainAttrs_tuple PySem.F.slot_tuple_index PySem.F.type_tuple_index (tixK K) (pe_ix (ixT K) (vn 0) (vn 1) (fun _ _ => rfl)) (pc pe_int pa_nil))), ?_⟩
    obtain ⟨rs, r1, h1, _, h2, h3, h4⟩ := G.at Pt ha
    have hl := row_len Pt ha
    have il := it_lt Pt ha (r - 1)
    refine ⟨_, rfl, _, rfl, g, _, _, _, rfl, rfl, .of h1, h2, ⟨_, _, rfl, h3⟩, r1, _, .int 0, it t a (r - 1), rfl, rfl, h3.sq, rfl, ?_, by rw [List.length_map, hl]; exact il, fun z hz => ?_, fun m z hm hz => ?_, q⟩
    · rw [List.all_eq_true]
      intro z hz
      obtain ⟨k, _, rfl⟩ := List.mem_map.mp hz
      rfl
    · rw [row_at Pt ha il, R.bk] at hz
      cases hz
      decide
    · have hm' : m < t.length := by omega
      rw [row_at Pt ha hm'] at hz
      cases hz
      have : mul t a m ≠ 0 := fun z => by
        have := R.un m hm' z
        omega
      show decide ((mul t a m : Int) = 0) = false
      exact decide_eq_false (by omega)
theorem scRound : FnScope ["group", "a", "k", "found"] ["group", "a"] (defScope sRound) := ⟨rfl, rfl, rfl, by decide +kernel, rfl, by decide +kernel, by decide +kernel⟩
theorem ok_round {f : Addr} {fd : FuncData} (F : Fun K "round_of" "round_of" sRound f fd) : FnOk P w K mg base CX0 1 f fd ["group", "a"] spRound := by
  refine F.ok scRound (fun vs H Q E h => ?_) (fun cdv A outer s H vs Q E hr h => ?_)
  · obtain ⟨g, t, a, r, rfl, _⟩ := h; rfl
  · obtain ⟨g, t, a, r, rfl, G, Pt, ha, R, q⟩ := h
    refine ⟨_, pss_cons (sset 2 rfl pe_int) (pss_cons (sset 3 rfl (vn 1))
      (pss_cons (ps_while PassesOwn.never (pt_cmpR op_ne (vn 3) pe_int (nomark _))
        (pss_cons (sset 3 rfl (pe_ix (ixT K) (pe_ix (ixT K) (vn 0) (vn 3) (fun _ _ => rfl)) (vn 1) (fun _ _ => rfl)))
        (pss_one (ps_aug (i := 2) (nodupS_ok (by kernel_rfl)) rfl (isLoc_ok (by kernel_rfl)) pe_int ip_add (.inl rfl)))))
      (pss_one (ps_ret (vn 2))))), ?_⟩
    have r1 := R.r1
    refine ⟨_, rfl, ?_⟩
    refine tw_intro (fun m σ' H' => ∃ k : Nat, σ' = [some (.ref g), some (.int a), some (.int k), some (.int (it t a k : Nat))] ∧ H' = H ∧ 1 ≤ k ∧ k ≤ r ∧ m = r - k)
      (fun σ' H' => ∃ v3 : Option V, σ' = [some (.ref g), some (.int a), some (.int r), v3] ∧ H' = H) ?hend ⟨r - 1, 1, by rw [it_one Pt ha]; rfl, rfl, Nat.le_refl _, r1, rfl⟩ ?turn
    case hend =>
      rintro σ' H' ⟨v3, rfl, rfl⟩
      exact ⟨_, rfl, q⟩
    case turn =>
      rintro hend m σ' H' ⟨k, rfl, rfl, k1, kr, hm⟩
      refine ⟨_, rfl, rfl, _, rfl, ?_⟩
      refine ite2 (fun h1 => ?_) (fun h1 => ?_)
      · have h1 : it t a k ≠ 0 := fun z => by
          rw [dec_int, z] at h1
          simp at h1
        have kr' : k < r := Nat.lt_of_le_of_ne kr fun z => h1 (z ▸ R.z)
        obtain ⟨rs, r2, g1, _, g2, g3, g4⟩ := G.at Pt (it_lt Pt ha k)
        refine ⟨_, fun _ _ z => z, _, rfl, _, rfl, g, _, _, _, rfl, rfl, .of g1, g2, _, rfl, r2, _, _, _, rfl, rfl, g3.sq, g4 a ha, _, rfl, _, _, rfl, rfl, r - (k + 1), by omega, k + 1, ?_, rfl, by omega, by omega, rfl⟩
        rfl
      · have h1 : it t a k = 0 := by
          apply Classical.byContradiction
          intro z
          apply h1
          rw [dec_int]
          simp [z]
        have : k = r := by
          apply Classical.byContradiction
          intro z
          exact R.nz k k1 (by omega) h1
        exact hend _ _ ⟨_, by rw [this], rfl⟩
theorem scPower : FnScope ["group", "a", "k", "found", "step"] ["group", "a", "k"] (defScope sPower) := ⟨rfl, rfl, rfl, by decide +kernel, rfl, by decide +kernel, by decide +kernel⟩
theorem ok_power {f : Addr} {fd : FuncData} (F : Fun K "power" "power" sPower f fd) (T : Bl mg) (GR : Fn P w K mg base CX0 1 "round_of" ["group", "a"] spRound) : FnOk P w K mg base CX0 2 f fd ["group", "a", "k"] spPower := by
  refine F.ok scPower (fun vs H Q E h => ?_) (fun cdv A outer s H vs Q E hr h => ?_)
  · obtain ⟨g, t, a, r, k, rfl, _⟩ := h; rfl
  · obtain ⟨g, t, a, r, k, rfl, G, Pt, ha, R, q⟩ := h
    refine ⟨_, pss_cons (sset 3 rfl pe_int) (pss_cons (ps_for PassesOwn.never rfl (rng1 T.range (pc (pe_op op_mod (vn 2) (fnc GR hr pass0 (pc (vn 0) (pc (vn 1) pa_nil)))) pa_nil)) (gn 4)
        (pss_one (sset 3 rfl (pe_ix (ixT K) (pe_ix (ixT K) (vn 0) (vn 3) (fun _ _ => rfl)) (vn 1) (fun _ _ => rfl)))))
      (pss_one (ps_ret (vn 3)))), ?_⟩
    have r1 := R.r1
    have n60 := Pt.n60
    have rn := R.rn
    have b1 := Int.emod_nonneg k (show (r : Int) ≠ 0 by omega)
    have b2 := Int.emod_lt_of_pos k (show (0 : Int) < r by omega)
    refine ⟨_, rfl, _, rfl, _, rfl, g, t, a, r, rfl, G, Pt, ha, R, _, _, rfl, rfl, (by show (0 : Int) < r; omega), _, rfl, by omega, by omega, ?_⟩
    refine for_range (fun i σ' H' => ∃ v4 : Option V, σ' = [some (.ref g), some (.int a), some (.int k), some (.int (it t a i : Nat)), v4] ∧ Same H H') ⟨_, rfl, Same.refl _⟩ ?_ ?_
    · rintro i σ' H' hi ⟨v4, rfl, sm⟩
      obtain ⟨rs, r2, g1, _, g2, g3, g4⟩ := (G.mono sm).at Pt (it_lt Pt ha i)
      exact ⟨_, rfl, _, rfl, g, _, _, _, rfl, rfl, .of g1, g2, _, rfl, r2, _, _, _, rfl, rfl, g3.sq, g4 a ha, _, rfl, sm⟩
    · rintro σ' H' ⟨v4, rfl, sm⟩
      exact ⟨_, rfl, q H' sm⟩
theorem scFull : FnScope ["group", "found", "a", "step"] ["group"] (defScope sFull) := ⟨rfl, rfl, rfl, by decide +kernel, rfl, by decide +kernel, by decide +kernel⟩
theorem ok_full {f : Addr} {fd : FuncData} (F : Fun K "full_round" "full_round" sFull f fd) (T : Bl mg) (GR : Fn P w K mg base CX0 1 "round_of" ["group", "a"] spRound) : FnOk P w K mg base CX0 2 f fd ["group"] spFull := by
  refine F.ok scFull (fun vs H Q E h => ?_) (fun cdv A outer s H vs Q E hr h => ?_)
  · obtain ⟨g, t, rs, rfl, _⟩ := h; rfl
  · obtain ⟨g, t, rs, rfl, G, Pt, R, q⟩ := h
    refine ⟨_, pss_cons (sset 1 rfl pe_int) (pss_cons (ps_for PassesOwn.never rfl (rng1 T.range (pc (cb (lenK K) T.len (pc (vn 0) pa_nil)) pa_nil)) (gn 2)
        (pss_cons (sset 3 rfl (vn 1))
        (pss_one (ps_while PassesOwn.never (pt_cmpR op_ne (pe_op op_mod (vn 1) (fnc GR hr pass0 (pc (vn 0) (pc (vn 2) pa_nil)))) pe_int (nomark _)) (pss_one (ps_aug (i := 1) (nodupS_ok (by kernel_rfl)) rfl (isLoc_ok (by kernel_rfl)) (vn 3) ip_add (.inl rfl)))))))
      (pss_one (ps_ret (vn 1)))), ?_⟩
    have n1 := Pt.n1
    have n60 := Pt.n60
    obtain ⟨gs, g1, g2, _⟩ := id G
    have el : (gs.map V.ref).length = t.length := by rw [List.length_map, g2]
    refine ⟨_, rfl, g, _, rfl, .inr (.of g1), _, rfl, by omega, by rw [el]; omega, ?_⟩
    rw [Int.toNat_natCast, el]
    refine for_range (fun i σ' H' => ∃ (f : Nat) (v2 v3 : Option V), σ' = [some (.ref g), some (.int f), v2, v3] ∧ Same H H' ∧ Lc rs i f) ⟨1, _, _, rfl, Same.refl _, ⟨Nat.le_refl _, fun a ha => absurd ha (Nat.not_lt_zero _), fun x _ => Nat.mod_one x⟩⟩ ?_ ?_
    · rintro i σ' H' hi ⟨f, v2, v3, rfl, sm, L⟩
      rw [show (0 : Int) + (i : Int) = (i : Int) by omega]
      have Ri := R i hi
      have ri1 := Ri.r1
      have L2 : Lc rs (i + 1) (upTo (rs i) f 61 f) := L.step (B := t.length) n1 (fun a ha => (R a (by omega)).dv) (by omega)
      have dvt := L2.dv i (by omega)
      refine ⟨_, rfl, ?_⟩
      refine tw_intro (fun m σ'' H'' => ∃ x : Nat, σ'' = [some (.ref g), some (.int x), some (.int i), some (.int f)] ∧ H'' = H' ∧ upTo (rs i) f m x = upTo (rs i) f 61 f)
        (fun σ'' H'' => σ'' = [some (.ref g), some (.int (upTo (rs i) f 61 f : Nat)), some (.int i), some (.int f)] ∧ H'' = H') ?hend ⟨61, f, rfl, rfl, rfl⟩ ?turn
      case hend =>
        rintro σ'' H'' ⟨rfl, rfl⟩
        exact ⟨_, _, _, rfl, sm, L2⟩
      case turn =>
        rintro hend m σ'' H'' ⟨x, rfl, rfl, hx⟩
        have eT : (x : Int) % ((rs i : Nat) : Int) = ((x % rs i : Nat) : Int) := by push_cast; rfl
        refine ⟨_, rfl, _, rfl, _, rfl, g, t, i, rs i, rfl, G.mono sm, Pt, hi, Ri, _, _, rfl, rfl, (by show (0 : Int) < (rs i : Nat); omega), rfl, _, rfl, ?_⟩
        refine ite2 (fun h1 => ?_) (fun h1 => ?_)
        · have h1 : x % rs i ≠ 0 := fun z => by
            rw [dec_int, eT, z] at h1
            simp at h1
          cases m with
          | zero =>
            have hx : x = upTo (rs i) f 61 f := hx
            rw [← hx] at dvt
            exact absurd dvt h1
          | succ m =>
            rw [Tb.upTo, if_neg h1] at hx
            exact ⟨_, fun _ _ z => z, _, rfl, _, rfl, _, _, rfl, rfl, m, by omega, x + f, rfl, rfl, hx⟩
        · have h1 : x % rs i = 0 := by
            apply Classical.byContradiction
            intro z
            apply h1
            rw [dec_int, eT]
            simp
            omega
          have : x = upTo (rs i) f 61 f := by
            cases m with
            | zero => exact hx
            | succ m => rw [Tb.upTo, if_pos h1] at hx; exact hx
          exact hend _ _ ⟨by rw [this], rfl⟩
    · rintro σ' H' ⟨f, v2, v3, rfl, sm, L⟩
      exact ⟨_, rfl, q f H' sm L⟩
theorem scPows : FnScope ["_law_group_here", "_law_a", "_law_found", "_law_here"] ["_law_group_here", "_law_a"] (defScope sPows) := ⟨rfl, rfl, rfl, by decide +kernel, rfl, by decide +kernel, by decide +kernel⟩
theorem ok_pows {f : Addr} {fd : FuncData} (F : Fun K "_law_powers" "_law_powers" sPows f fd) : FnOk P w K mg base CX0 1 f fd ["_law_group_here", "_law_a"] spPows := by
  refine F.ok scPows (fun vs H Q E h => ?_) (fun cdv A outer s H vs Q E hr h => ?_)
  · obtain ⟨g, t, a, r, rfl, _⟩ := h; rfl
  · obtain ⟨g, t, a, r, rfl, G, Pt, ha, R, q⟩ := h
    refine ⟨_, pss_cons (sset 2 rfl (pe_lst (pc pe_int pa_nil))) (pss_cons (sset 3 rfl (vn 1))
      (pss_cons (ps_while PassesOwn.never (pt_cmpR op_ne (vn 3) pe_int (nomark _))
        (pss_cons (ps_expr (pe_bm PySem.F.plainAttrs_list PySem.F.slot_list_append PySem.F.type_list_append mt_append (vn 2) (pc (vn 3) pa_nil)))
        (pss_one (sset 3 rfl (pe_ix (ixT K) (pe_ix (ixT K) (vn 0) (vn 3) (fun _ _ => rfl)) (vn 1) (fun _ _ => rfl))))))
      (pss_one (ps_ret (vn 2))))), ?_⟩
    have r1 := R.r1
    have n60 := Pt.n60
    have rn := R.rn
    have sz : (16777216 : Nat) = sizeLine := by decide
    refine ⟨(by show 1 ≤ sizeLine; decide), fun l nl => ⟨_, rfl, ?_⟩⟩
    refine tw_intro (fun m σ' H' => ∃ k : Nat, σ' = [some (.ref g), some (.int a), some (.ref l), some (.int (it t a k : Nat))] ∧ Same H H' ∧ H' l = some (.lst ((List.range k).map fun k => nV (it t a k))) ∧ 1 ≤ k ∧ k ≤ r ∧ m = r - k)
      (fun σ' H' => ∃ v3 : Option V, σ' = [some (.ref g), some (.int a), some (.ref l), v3] ∧ Same H H' ∧ H' l = some (.lst ((List.range r).map fun k => nV (it t a k)))) ?hend ⟨r - 1, 1, by rw [it_one Pt ha]; rfl, Same.upd nl, upd_same, Nat.le_refl _, r1, rfl⟩ ?turn
    case hend =>
      rintro σ' H' ⟨v3, rfl, sm, hl⟩
      exact ⟨_, rfl, q l H' sm hl⟩
    case turn =>
      rintro hend m σ' H' ⟨k, rfl, sm, hl, k1, kr, hm⟩
      refine ⟨_, rfl, rfl, _, rfl, ?_⟩
      refine ite2 (fun h1 => ?_) (fun h1 => ?_)
      · have h1 : it t a k ≠ 0 := fun z => by
          rw [dec_int, z] at h1
          simp at h1
        have kr' : k < r := Nat.lt_of_le_of_ne kr fun z => h1 (z ▸ R.z)
        have sm2 : Same H (upd H' l (.lst (((List.range k).map fun k => nV (it t a k)) ++ [.int (it t a k : Nat)]))) := sm.updr nl
        obtain ⟨rs, r2, g1, _, g2, g3, g4⟩ := (G.mono sm2).at Pt (it_lt Pt ha k)
        refine ⟨_, fun _ _ z => z, _, rfl, .inl ⟨rfl, _, .of hl⟩, _, rfl, l, _, _, rfl, rfl, hl, by rw [List.length_map, List.length_range]; omega, _, rfl, _, rfl, g, _, _, _, rfl, rfl, .of g1, g2, _, rfl, r2, _, _, _, rfl, rfl, g3.sq, g4 a ha, r - (k + 1), by omega, k + 1, rfl, sm2, ?_, by omega, by omega, rfl⟩
        rw [upd_same, List.range_succ, List.map_append]
        rfl
      · have h1 : it t a k = 0 := by
          apply Classical.byContradiction
          intro z
          apply h1
          rw [dec_int]
          simp [z]
        have : k = r := by
          apply Classical.byContradiction
          intro z
          exact R.nz k k1 (by omega) h1
        exact hend _ _ ⟨_, rfl, sm, by rw [← this]; exact hl⟩
end
end C7

set_option maxHeartbeats 4000000
namespace C7
open PySem L2 PySem.Spec PyProof.Rows
open Tb
abbrev sTw : Stmt := top 8
abbrev sEight : Stmt := top 9
abbrev sPut : Stmt := top 11
/-- rows being gathered in a list -/
def RowsAt (H : Hp) (L : Addr) (rs : List Addr) (f : Nat → List Nat) : Prop := H L = some (.lst (rs.map V.ref)) ∧ ∀ (i : Nat) r, rs[i]? = some r → Tz H r ((f i).map nV)
theorem RowsAt.mono {H H' : Hp} {L : Addr} {rs : List Addr} {f : Nat → List Nat} (s : Same H H') (R : RowsAt H L rs f) : RowsAt H' L rs f := ⟨s _ _ R.1, fun i r hr => (R.2 i r hr).mono s⟩
theorem RowsAt.push {H : Hp} {L : Addr} {rs : List Addr} {f : Nat → List Nat} {r : Addr} (R : RowsAt H L rs f) (h : Tz H r ((f rs.length).map nV)) : RowsAt (upd H L (.lst (rs.map V.ref ++ [.ref r]))) L (rs ++ [r]) f := by
  have ne : ∀ {b ys}, Tz H b ys → Tz (upd H L (.lst (rs.map V.ref ++ [.ref r]))) b ys := fun {b ys} hb => by
    obtain ⟨o, h1, h2⟩ := hb
    refine ⟨o, ?_, h2⟩
    rw [upd_ne (fun z => by rw [z, R.1] at h1; cases h1)]
    exact h1
  refine ⟨by rw [upd_same, List.map_append]; rfl, fun i b hb => ?_⟩
  by_cases hi : i < rs.length
  · rw [List.getElem?_append_left hi] at hb
    exact ne (R.2 i b hb)
  · rw [List.getElem?_append_right (by omega)] at hb
    have e0 : i - rs.length = 0 := by
      apply Classical.byContradiction
      intro z
      rw [List.getElem?_eq_none (by rw [List.length_singleton]; omega)] at hb
      cases hb
    rw [e0] at hb
    cases hb
    have : i = rs.length := by omega
    rw [this]
    exact ne h
def stM (m u : Nat) : Nat → Nat
  | 0 => 1 % m
  | k + 1 => stM m u k * u % m
def twE (m many u x y : Nat) : Nat := (x % m + stM m u (x / m) * (y % m)) % m + m * ((x / m + y / m) % many)
def tw (m many u : Nat) : List (List Nat) := (List.range (m * many)).map fun x => (List.range (m * many)).map (twE m many u x)
theorem GT_of {H H' : Hp} {L g : Addr} {rs : List Addr} {f : Nat → List Nat} {n : Nat} (R : RowsAt H L rs f) (hl : rs.length = n) (s : Same H H') (hg : H' g = some (.tup (rs.map V.ref))) : GT H' g ((List.range n).map f) := by
  refine ⟨rs, hg, by rw [hl, List.length_map, List.length_range], fun i r hr => ?_⟩
  have hi : i < n := by rw [← hl]; exact (List.getElem?_eq_some_iff.mp hr).1
  rw [List.getD_eq_getElem?_getD, List.getElem?_map, List.getElem?_range hi]
  exact (R.2 i r hr).mono s
def spTw : Sp := fun vs H Q _ => ∃ (m many u : Nat), vs = [.int m, .int many, .int u] ∧ 1 ≤ m ∧ 1 ≤ many ∧ m * many ≤ 60 ∧ u ≤ 60 ∧ m ≤ 60 ∧ many ≤ 60 ∧ ∀ g H', Same H H' → GT H' g (tw m many u) → Q (.ref g) H'
section
variable {P : Program} {w : World} {K : PySem.W.Frag} {mg : Str → Option Value} {base : Heap}
theorem scTw : FnScope ["_law_m", "_law_many", "_law_u", "_law_steps", "_law_s", "_law_rows", "_law_x", "_law_a", "_law_row", "_law_y", "_law_first"] ["_law_m", "_law_many", "_law_u"] (defScope sTw) := ⟨rfl, rfl, rfl, by decide +kernel, rfl, by decide +kernel, by decide +kernel⟩
theorem ok_tw {f : Addr} {fd : FuncData} (F : Fun K "_law_twined" "_law_twined" sTw f fd) (T : Bl mg) : FnOk P w K mg base CX0 1 f fd ["_law_m", "_law_many", "_law_u"] spTw := by
  refine F.ok scTw (fun vs H Q E h => ?_) (fun cdv A outer s H vs Q E hr h => ?_)
  · obtain ⟨m, many, u, rfl, _⟩ := h; rfl
  · obtain ⟨m, many, u, rfl, m1, k1, mk, u60, m60, k60, q⟩ := h
    refine ⟨_, pss_cons (sset 3 rfl (pe_lst (pc (pe_op op_mod pe_int (vn 0)) pa_nil)))
      (pss_cons (ps_for PassesOwn.never rfl (rng1 T.range (pc (pe_op op_sub (vn 1) pe_int) pa_nil)) (gn 4)
        (pss_one (ps_expr (pe_bm PySem.F.plainAttrs_list PySem.F.slot_list_append PySem.F.type_list_append mt_append (vn 3) (pc (pe_op op_mod (pe_op op_mul (pe_ix (ixL K) (vn 3) (pe_un un_neg pe_int) (fun _ _ => rfl)) (vn 2)) (vn 0)) pa_nil)))))
      (pss_cons (sset 5 rfl (pe_lst pa_nil))
      (pss_cons (ps_for PassesOwn.never rfl (rng1 T.range (pc (pe_op op_mul (vn 0) (vn 1)) pa_nil)) (gn 6)
        (pss_cons (par2 7 4 rfl (pc (pe_op op_mod (vn 6) (vn 0)) (pc (pe_op op_fdiv (vn 6) (vn 0)) pa_nil)))
        (pss_cons (sset 8 rfl (pe_lst pa_nil))
        (pss_cons (ps_for PassesOwn.never rfl (rng1 T.range (pc (pe_op op_mul (vn 0) (vn 1)) pa_nil)) (gn 9)
          (pss_cons (sset 10 rfl (pe_op op_mod (pe_op op_add (vn 7) (pe_op op_mul (pe_ix (ixL K) (vn 3) (vn 4) (fun _ _ => rfl)) (pe_op op_mod (vn 9) (vn 0)))) (vn 0)))
          (pss_one (ps_expr (pe_bm PySem.F.plainAttrs_list PySem.F.slot_list_append PySem.F.type_list_append mt_append (vn 8) (pc (pe_op op_add (vn 10) (pe_op op_mul (vn 0) (pe_op op_mod (pe_op op_add (vn 4) (pe_op op_fdiv (vn 9) (vn 0))) (vn 1)))) pa_nil))))))
        (pss_one (ps_expr (pe_bm PySem.F.plainAttrs_list PySem.F.slot_list_append PySem.F.type_list_append mt_append (vn 5) (pc (ct call_tupleZ T.tuple (pc (vn 8) pa_nil)) pa_nil))))))))
      (pss_one (ps_ret (ct call_tuple_of T.tuple (pc (vn 5) pa_nil))))))), ?_⟩
    have sz : (16777216 : Nat) = sizeLine := by decide
    refine ⟨_, rfl, _, _, rfl, rfl, (by show (0 : Int) < m; omega), (by show 1 ≤ sizeLine; decide), fun S nS => ?_⟩
    refine ⟨_, rfl, _, _, rfl, rfl, (many : Int) - 1, rfl, by omega, by omega, ?_⟩
    have ek : ((many : Int) - 1).toNat = many - 1 := by omega
    rw [ek]
    refine for_range (fun i σ' H' => ∃ v4 : Option V, σ' = [some (.int m), some (.int many), some (.int u), some (.ref S), v4, none, none, none, none, none, none] ∧ Same H H' ∧ H' S = some (.lst ((List.range (i + 1)).map fun k => nV (stM m u k)))) ⟨_, rfl, Same.upd nS, by rw [upd_same]; rfl⟩ ?_ ?_
    · rintro i σ' H' hi ⟨v4, rfl, sm, hS⟩
      have hlast : atI ((List.range (i + 1)).map fun k => nV (stM m u k)) (-1) = some (nV (stM m u i)) := by
        rw [List.range_succ, List.map_append]
        exact atI_last _ _
      refine ⟨_, rfl, .inl ⟨rfl, _, .of hS⟩, _, rfl, _, rfl, S, _, _, _, rfl, rfl, .of hS, hlast, _, rfl, _, _, rfl, rfl, .inr ⟨by omega, by omega⟩, _, rfl, _, _, rfl, rfl, (by show (0 : Int) < m; omega), S, _, _, rfl, rfl, hS, by rw [List.length_map, List.length_range]; omega, _, rfl, sm.updr nS, ?_⟩
      rw [upd_same, List.range_succ (n := i + 1), List.map_append]
      rfl
    rintro σ' H1 ⟨v4, rfl, s1, hS⟩
    rw [show many - 1 + 1 = many by omega] at hS
    refine ⟨(by show 0 ≤ sizeLine; decide), fun L nL => ?_⟩
    have s2 := s1.trans (Same.upd (o := .lst []) nL)
    have nLH : H L = none := s1.free nL
    have eN : V.int ((m : Int) * (many : Int)) = V.int ((m * many : Nat) : Int) := congrArg V.int (by push_cast; rfl)
    have eNi : (m : Int) * (many : Int) = ((m * many : Nat) : Int) := by push_cast; rfl
    refine ⟨_, rfl, _, rfl, _, _, rfl, rfl, .inl ⟨by omega, by omega⟩, (m : Int) * (many : Int), rfl, by rw [eNi]; omega, by rw [eNi]; omega, ?_⟩
    rw [eNi, Int.toNat_natCast]
    have hS2 := Same.upd (H := H1) (o := .lst []) nL _ _ hS
    refine for_range (fun x σ' H' => ∃ (rs : List Addr) (v4 v6 v7 v8 v9 v10 : Option V), σ' = [some (.int m), some (.int many), some (.int u), some (.ref S), v4, some (.ref L), v6, v7, v8, v9, v10] ∧ Same H H' ∧ H' S = some (.lst ((List.range many).map fun k => nV (stM m u k))) ∧ RowsAt H' L rs (fun x => (List.range (m * many)).map (twE m many u x)) ∧ rs.length = x)
      ⟨[], _, _, _, _, _, _, rfl, s2, hS2, ⟨upd_same, fun i r hr => by cases hr⟩, rfl⟩ ?_ ?_
    · rintro x σ' H2 hx ⟨rs, v4, v6, v7, v8, v9, v10, rfl, sm, hSx, R, rl⟩
      rw [show (0 : Int) + (x : Int) = (x : Int) by omega]
      have eA : V.int ((x : Int) % (m : Int)) = V.int ((x % m : Nat) : Int) := congrArg V.int (by push_cast; rfl)
      have eS : V.int ((x : Int) / (m : Int)) = V.int ((x / m : Nat) : Int) := congrArg V.int (by push_cast; rfl)
      refine ⟨_, rfl, _, rfl, _, _, rfl, rfl, (by show (0 : Int) < m; omega), _, rfl, _, rfl, _, _, rfl, rfl, ⟨(by show (0 : Int) < m; omega), (by show (m : Int) < 1073741824; omega)⟩, _, _, rfl, ?_⟩
      dsimp only
      rw [eA, eS]
      have xs : x / m < many := Nat.div_lt_of_lt_mul hx
      refine ⟨(by show 0 ≤ sizeLine; decide), fun l nl => ?_⟩
      have nlH : H l = none := sm.free nl
      have s3 := Same.upd (H := H2) (o := .lst []) nl
      refine ⟨_, rfl, _, rfl, _, _, rfl, rfl, .inl ⟨by omega, by omega⟩, (m : Int) * (many : Int), rfl, by rw [eNi]; omega, by rw [eNi]; omega, ?_⟩
      rw [eNi, Int.toNat_natCast]
      refine for_range (fun y σ'' H' => ∃ (w9 w10 : Option V), σ'' = [some (.int m), some (.int many), some (.int u), some (.ref S), some (.int (x / m : Nat)), some (.ref L), some (.int x), some (.int (x % m : Nat)), some (.ref l), w9, w10] ∧ Same H2 H' ∧ H' l = some (.lst (((List.range y).map (twE m many u x)).map nV)))
        ⟨_, _, rfl, s3, upd_same⟩ ?_ ?_
      · rintro y σ'' H' hy ⟨w9, w10, rfl, sm', hl⟩
        rw [show (0 : Int) + (y : Int) = (y : Int) by omega]
        have hSy := sm' _ _ hSx
        have hat : atI ((List.range many).map fun k => nV (stM m u k)) ((x / m : Nat) : Int) = some (nV (stM m u (x / m))) := atI_nat (by rw [List.getElem?_map, List.getElem?_range xs]; rfl)
        refine ⟨_, rfl, _, rfl, _, rfl, S, _, _, _, rfl, rfl, .of hSy, hat, _, rfl, _, rfl, _, _, rfl, rfl, (by show (0 : Int) < m; omega), _, _, rfl, rfl, .inr ⟨?_, ?_⟩, _, _, rfl, rfl, _, rfl, _, _, rfl, rfl, (by show (0 : Int) < m; omega), ?_⟩
        · have := Int.emod_nonneg (y : Int) (show (m : Int) ≠ 0 by omega); omega
        · have := Int.emod_lt_of_pos (y : Int) (show (0 : Int) < m by omega); omega
        refine ⟨_, rfl, .inl ⟨rfl, _, .of hl⟩, _, rfl, _, rfl, _, rfl, _, rfl, _, rfl, _, _, rfl, rfl, ⟨(by show (0 : Int) < m; omega), (by show (m : Int) < 1073741824; omega)⟩, _, _, rfl, rfl, _, rfl, _, _, rfl, rfl, (by show (0 : Int) < many; omega), _, _, rfl, rfl, .inl ⟨by omega, by omega⟩, _, _, rfl, rfl, l, _, _, rfl, rfl, hl, by rw [List.length_map, List.length_map, List.length_range]; omega, ?_⟩
        refine ⟨_, _, rfl, sm'.updr nl, ?_⟩
        rw [upd_same, List.range_succ, List.map_append, List.map_append]
        rfl
      · rintro σ'' H3 ⟨w9, w10, rfl, sm', hl⟩
        have R3 := R.mono sm'
        refine ⟨_, rfl, .inl ⟨rfl, _, .of R3.1⟩, _, rfl, l, _, rfl, .of hl, fun tr H4 nt s4 hz => ?_⟩
        have R4 := R3.mono s4
        refine ⟨L, _, _, rfl, rfl, R4.1, by rw [List.length_map]; omega, ?_⟩
        refine ⟨rs ++ [tr], _, _, _, _, _, _, rfl, ((sm.trans sm').trans s4).updr nLH, ?_, R4.push (by rw [rl]; exact hz), by rw [List.length_append, List.length_singleton, rl]⟩
        have hS4 := (sm'.trans s4) _ _ hSx
        rw [upd_ne (fun z => ?_)]
        · exact hS4
        · have hL1 := R4.1
          rw [← z, hS4] at hL1
          have hh := Option.some.inj hL1
          injection hh with hh
          cases hrs : rs with
          | nil =>
            rw [hrs] at hh
            have := congrArg List.length hh
            rw [List.length_map, List.length_range] at this
            simp at this
            omega
          | cons a b =>
            rw [hrs] at hh
            have := congrArg List.head? hh
            obtain ⟨kk, hkk⟩ : ∃ kk, many = kk + 1 := ⟨many - 1, by omega⟩
            rw [hkk, List.range_succ_eq_map, List.map_cons, List.head?_cons] at this
            cases this
    · rintro σ' H2 ⟨rs, v4, v6, v7, v8, v9, v10, rfl, sm, hSx, R, rl⟩
      refine ⟨_, rfl, L, _, rfl, .inl ⟨.of R.1, fun gg ngg => ?_⟩⟩
      exact q gg _ (sm.trans (Same.upd ngg)) (GT_of R rl (Same.upd ngg) upd_same)
end
end C7

set_option maxHeartbeats 4000000
namespace C7
open PySem L2 PySem.Spec PyProof.Rows
open Tb
def egI (m x y : Nat) : Int := (((x % (2 * m) : Nat) : Int) + (if x / (2 * m) = 0 then ((y % (2 * m) : Nat) : Int) else -((y % (2 * m) : Nat) : Int)) + (m : Int) * ((x / (2 * m) : Nat) : Int) * ((y / (2 * m) : Nat) : Int)) % (2 * (m : Int))
def egE (m x y : Nat) : Nat := (egI m x y).toNat + 2 * m * ((x / (2 * m) + y / (2 * m)) % 2)
def eg (m : Nat) : List (List Nat) := (List.range (4 * m)).map fun x => (List.range (4 * m)).map (egE m x)
def ptE (t1 t2 : List (List Nat)) (x y : Nat) : Nat := mul t1 (x / t2.length) (y / t2.length) * t2.length + mul t2 (x % t2.length) (y % t2.length)
def pt (t1 t2 : List (List Nat)) : List (List Nat) := (List.range (t1.length * t2.length)).map fun x => (List.range (t1.length * t2.length)).map (ptE t1 t2 x)
def spEight : Sp := fun vs H Q _ => ∃ (m : Nat), vs = [.int m] ∧ 1 ≤ m ∧ 4 * m ≤ 60 ∧ ∀ g H', Same H H' → GT H' g (eg m) → Q (.ref g) H'
def spPut : Sp := fun vs H Q _ => ∃ (g1 g2 : Addr) (t1 t2 : List (List Nat)), vs = [.ref g1, .ref g2] ∧ GT H g1 t1 ∧ GT H g2 t2 ∧ PW t1 ∧ PW t2 ∧ t1.length * t2.length ≤ 60 ∧ ∀ g H', Same H H' → GT H' g (pt t1 t2) → Q (.ref g) H'
section
variable {P : Program} {w : World} {K : PySem.W.Frag} {mg : Str → Option Value} {base : Heap}
theorem scEight : FnScope ["_law_m", "_law_rows", "_law_x", "_law_a", "_law_s", "_law_row", "_law_y", "_law_b", "_law_t", "_law_first"] ["_law_m"] (defScope sEight) := ⟨rfl, rfl, rfl, by decide +kernel, rfl, by decide +kernel, by decide +kernel⟩
theorem ok_eight {f : Addr} {fd : FuncData} (F : Fun K "_law_eight" "_law_eight" sEight f fd) (T : Bl mg) : FnOk P w K mg base CX0 1 f fd ["_law_m"] spEight := by
  refine F.ok scEight (fun vs H Q E h => ?_) (fun cdv A outer s H vs Q E hr h => ?_)
  · obtain ⟨m, rfl, _⟩ := h; rfl
  · obtain ⟨m, rfl, m1, m60, q⟩ := h
    refine ⟨_, pss_cons (sset 1 rfl (pe_lst pa_nil))
      (pss_cons (ps_for PassesOwn.never rfl (rng1 T.range (pc (pe_op op_mul pe_int (vn 0)) pa_nil)) (gn 2)
        (pss_cons (par2 3 4 rfl (pc (pe_op op_mod (vn 2) (pe_op op_mul pe_int (vn 0))) (pc (pe_op op_fdiv (vn 2) (pe_op op_mul pe_int (vn 0))) pa_nil)))
        (pss_cons (sset 5 rfl (pe_lst pa_nil))
        (pss_cons (ps_for PassesOwn.never rfl (rng1 T.range (pc (pe_op op_mul pe_int (vn 0)) pa_nil)) (gn 6)
          (pss_cons (par2 7 8 rfl (pc (pe_op op_mod (vn 6) (pe_op op_mul pe_int (vn 0))) (pc (pe_op op_fdiv (vn 6) (pe_op op_mul pe_int (vn 0))) pa_nil)))
          (pss_cons (sset 9 rfl (pe_op op_mod (pe_op op_add (pe_op op_add (vn 3) (pe_ix (ixL K) (pe_lst (pc (vn 7) (pc (pe_un un_neg (vn 7)) pa_nil))) (vn 4) (fun _ _ => rfl))) (pe_op op_mul (pe_op op_mul (vn 0) (vn 4)) (vn 8))) (pe_op op_mul pe_int (vn 0))))
          (pss_one (ps_expr (pe_bm PySem.F.plainAttrs_list PySem.F.slot_list_append PySem.F.type_list_append mt_append (vn 5) (pc (pe_op op_add (vn 9) (pe_op op_mul (pe_op op_mul pe_int (vn 0)) (pe_op op_mod (pe_op op_add (vn 4) (vn 8)) pe_int))) pa_nil)))))))
        (pss_one (ps_expr (pe_bm PySem.F.plainAttrs_list PySem.F.slot_list_append PySem.F.type_list_append mt_append (vn 1) (pc (ct call_tupleZ T.tuple (pc (vn 5) pa_nil)) pa_nil))))))))
      (pss_one (ps_ret (ct call_tuple_of T.tuple (pc (vn 1) pa_nil))))), ?_⟩
    have sz : (16777216 : Nat) = sizeLine := by decide
    refine ⟨(by show 0 ≤ sizeLine; decide), fun L nL => ?_⟩
    have s2 := Same.upd (H := H) (o := .lst []) nL
    have eNi : (4 : Int) * (m : Int) = ((4 * m : Nat) : Int) := by push_cast; rfl
    refine ⟨_, rfl, _, _, rfl, rfl, .inl ⟨by omega, by omega⟩, (4 : Int) * (m : Int), rfl, by omega, by omega, ?_⟩
    rw [eNi, Int.toNat_natCast]
    refine for_range (fun x σ' H' => ∃ (rs : List Addr) (v2 v3 v4 v5 v6 v7 v8 v9 : Option V), σ' = [some (.int m), some (.ref L), v2, v3, v4, v5, v6, v7, v8, v9] ∧ Same H H' ∧ RowsAt H' L rs (fun x => (List.range (4 * m)).map (egE m x)) ∧ rs.length = x)
      ⟨[], _, _, _, _, _, _, _, _, rfl, s2, ⟨upd_same, fun i r hr => by cases hr⟩, rfl⟩ ?_ ?_
    · rintro x σ' H2 hx ⟨rs, v2, v3, v4, v5, v6, v7, v8, v9, rfl, sm, R, rl⟩
      rw [show (0 : Int) + (x : Int) = (x : Int) by omega]
      have eA : V.int ((x : Int) % (2 * (m : Int))) = V.int ((x % (2 * m) : Nat) : Int) := congrArg V.int (by push_cast; rfl)
      have eS : V.int ((x : Int) / (2 * (m : Int))) = V.int ((x / (2 * m) : Nat) : Int) := congrArg V.int (by push_cast; rfl)
      refine ⟨_, rfl, _, rfl, _, _, rfl, rfl, .inl ⟨by omega, by omega⟩, _, _, rfl, rfl, (by show (0 : Int) < 2 * (m : Int); omega), _, rfl, _, rfl, _, _, rfl, rfl, .inl ⟨by omega, by omega⟩, _, _, rfl, rfl, ⟨(by show (0 : Int) < 2 * (m : Int); omega), (by show (2 * (m : Int)) < 1073741824; omega)⟩, _, _, rfl, ?_⟩
      dsimp only
      rw [eA, eS]
      have xs : x / (2 * m) < 2 := Nat.div_lt_of_lt_mul (by omega)
      refine ⟨(by show 0 ≤ sizeLine; decide), fun l nl => ?_⟩
      have s3 := Same.upd (H := H2) (o := .lst []) nl
      refine ⟨_, rfl, _, _, rfl, rfl, .inl ⟨by omega, by omega⟩, (4 : Int) * (m : Int), rfl, by omega, by omega, ?_⟩
      rw [eNi, Int.toNat_natCast]
      refine for_range (fun y σ'' H' => ∃ (w6 w7 w8 w9 : Option V), σ'' = [some (.int m), some (.ref L), some (.int x), some (.int (x % (2 * m) : Nat)), some (.int (x / (2 * m) : Nat)), some (.ref l), w6, w7, w8, w9] ∧ Same H2 H' ∧ H' l = some (.lst (((List.range y).map (egE m x)).map nV)))
        ⟨_, _, _, _, rfl, s3, upd_same⟩ ?_ ?_
      · rintro y σ'' H' hy ⟨w6, w7, w8, w9, rfl, sm', hl⟩
        rw [show (0 : Int) + (y : Int) = (y : Int) by omega]
        have eB : V.int ((y : Int) % (2 * (m : Int))) = V.int ((y % (2 * m) : Nat) : Int) := congrArg V.int (by push_cast; rfl)
        have eT : V.int ((y : Int) / (2 * (m : Int))) = V.int ((y / (2 * m) : Nat) : Int) := congrArg V.int (by push_cast; rfl)
        have ys : y / (2 * m) < 2 := Nat.div_lt_of_lt_mul (by omega)
        refine ⟨_, rfl, _, rfl, _, _, rfl, rfl, .inl ⟨by omega, by omega⟩, _, _, rfl, rfl, (by show (0 : Int) < 2 * (m : Int); omega), _, rfl, _, rfl, _, _, rfl, rfl, .inl ⟨by omega, by omega⟩, _, _, rfl, rfl, ⟨(by show (0 : Int) < 2 * (m : Int); omega), (by show (2 * (m : Int)) < 1073741824; omega)⟩, _, _, rfl, ?_⟩
        dsimp only
        rw [eB, eT]
        refine ⟨_, rfl, _, rfl, _, rfl, _, rfl, (by show 2 ≤ sizeLine; decide), fun l2 nl2 => ?_⟩
        have s4 := Same.upd (H := H') (o := .lst [.int (y % (2 * m) : Nat), .int (-((y % (2 * m) : Nat) : Int))]) nl2
        have hat : atI [V.int ((y % (2 * m) : Nat) : Int), V.int (-((y % (2 * m) : Nat) : Int))] ((x / (2 * m) : Nat) : Int) = some (.int (if x / (2 * m) = 0 then ((y % (2 * m) : Nat) : Int) else -((y % (2 * m) : Nat) : Int))) := by
          by_cases h0 : x / (2 * m) = 0
          · rw [h0, if_pos rfl]; exact atI_nat (j := 0) rfl
          · have : x / (2 * m) = 1 := by
              have h2 := xs
              generalize x / (2 * m) = z at *
              omega
            rw [this, if_neg (by decide)]; exact atI_nat (j := 1) rfl
        have hl2 := s4 _ _ hl
        have bx : ((x / (2 * m) : Nat) : Int) < 2 := by
          have h2 := xs
          generalize x / (2 * m) = z at *
          omega
        have bx0 : (0 : Int) ≤ ((x / (2 * m) : Nat) : Int) := Int.natCast_nonneg _
        have by' : ((y / (2 * m) : Nat) : Int) < 2 := by
          have h2 := ys
          generalize y / (2 * m) = z at *
          omega
        have by0 : (0 : Int) ≤ ((y / (2 * m) : Nat) : Int) := Int.natCast_nonneg _
        refine ⟨_, rfl, l2, _, _, _, rfl, rfl, .of upd_same, hat, _, _, rfl, rfl, _, rfl, _, rfl, _, _, rfl, rfl, .inl ⟨by omega, by omega⟩, _, rfl, _, _, rfl, rfl, .inr ⟨by omega, by omega⟩, _, _, rfl, rfl, _, rfl, _, _, rfl, rfl, .inl ⟨by omega, by omega⟩, _, _, rfl, rfl, (by show (0 : Int) < 2 * (m : Int); omega), ?_⟩
        refine ⟨_, rfl, .inl ⟨rfl, _, .of hl2⟩, _, rfl, _, rfl, _, _, rfl, rfl, .inl ⟨by omega, by omega⟩, _, rfl, _, rfl, _, _, rfl, rfl, _, _, rfl, rfl, (by show (0 : Int) < 2; decide), _, _, rfl, rfl, .inl ⟨by omega, by omega⟩, _, _, rfl, rfl, l, _, _, rfl, rfl, hl2, by rw [List.length_map, List.length_map, List.length_range]; omega, ?_⟩
        refine ⟨_, _, _, _, rfl, (sm'.trans s4).updr nl, ?_⟩
        have e0 : (0 : Int) ≤ egI m x y := Int.emod_nonneg _ (by omega)
        have eE : (egI m x y + 2 * (m : Int) * ((((x / (2 * m) : Nat) : Int) + ((y / (2 * m) : Nat) : Int)) % 2)) = ((egE m x y : Nat) : Int) := by
          unfold egE
          push_cast
          rw [Int.toNat_of_nonneg e0]
        rw [upd_same, List.range_succ, List.map_append, List.map_append]
        show some (HO.lst (_ ++ [V.int (egI m x y + 2 * (m : Int) * ((((x / (2 * m) : Nat) : Int) + ((y / (2 * m) : Nat) : Int)) % 2))])) = _
        rw [eE]
        rfl
      · rintro σ'' H3 ⟨w6, w7, w8, w9, rfl, sm', hl⟩
        have R3 := R.mono sm'
        refine ⟨_, rfl, .inl ⟨rfl, _, .of R3.1⟩, _, rfl, l, _, rfl, .of hl, fun tr H4 nt s4 hz => ?_⟩
        have R4 := R3.mono s4
        refine ⟨L, _, _, rfl, rfl, R4.1, by rw [List.length_map]; omega, ?_⟩
        exact ⟨rs ++ [tr], _, _, _, _, _, _, _, _, rfl, ((sm.trans sm').trans s4).updr nL, R4.push (by rw [rl]; exact hz), by rw [List.length_append, List.length_singleton, rl]⟩
    · rintro σ' H2 ⟨rs, v2, v3, v4, v5, v6, v7, v8, v9, rfl, sm, R, rl⟩
      refine ⟨_, rfl, L, _, rfl, .inl ⟨.of R.1, fun gg ngg => ?_⟩⟩
      exact q gg _ (sm.trans (Same.upd ngg)) (GT_of R rl (Same.upd ngg) upd_same)
theorem scPut : FnScope ["_law_one", "_law_other", "_law_many", "_law_rows", "_law_x", "_law_a", "_law_b", "_law_row", "_law_y", "_law_first"] ["_law_one", "_law_other"] (defScope sPut) := ⟨rfl, rfl, rfl, by decide +kernel, rfl, by decide +kernel, by decide +kernel⟩
theorem ok_put {f : Addr} {fd : FuncData} (F : Fun K "_law_put" "_law_put" sPut f fd) (T : Bl mg) : FnOk P w K mg base CX0 1 f fd ["_law_one", "_law_other"] spPut := by
  refine F.ok scPut (fun vs H Q E h => ?_) (fun cdv A outer s H vs Q E hr h => ?_)
  · obtain ⟨g1, g2, t1, t2, rfl, _⟩ := h; rfl
  · obtain ⟨g1, g2, t1, t2, rfl, G1, G2, P1, P2, n60, q⟩ := h
    refine ⟨_, pss_cons (sset 2 rfl (cb (lenK K) T.len (pc (vn 1) pa_nil)))
      (pss_cons (sset 3 rfl (pe_lst pa_nil))
      (pss_cons (ps_for PassesOwn.never rfl (rng1 T.range (pc (pe_op op_mul (cb (lenK K) T.len (pc (vn 0) pa_nil)) (vn 2)) pa_nil)) (gn 4)
        (pss_cons (par2 5 6 rfl (pc (pe_op op_fdiv (vn 4) (vn 2)) (pc (pe_op op_mod (vn 4) (vn 2)) pa_nil)))
        (pss_cons (sset 7 rfl (pe_lst pa_nil))
        (pss_cons (ps_for PassesOwn.never rfl (rng1 T.range (pc (pe_op op_mul (cb (lenK K) T.len (pc (vn 0) pa_nil)) (vn 2)) pa_nil)) (gn 8)
          (pss_cons (sset 9 rfl (pe_op op_mul (pe_ix (ixT K) (pe_ix (ixT K) (vn 0) (vn 5) (fun _ _ => rfl)) (pe_op op_fdiv (vn 8) (vn 2)) (fun _ _ => rfl)) (vn 2)))
          (pss_one (ps_expr (pe_bm PySem.F.plainAttrs_list PySem.F.slot_list_append PySem.F.type_list_append mt_append (vn 7) (pc (pe_op op_add (vn 9) (pe_ix (ixT K) (pe_ix (ixT K) (vn 1) (vn 6) (fun _ _ => rfl)) (pe_op op_mod (vn 8) (vn 2)) (fun _ _ => rfl))) pa_nil))))))
        (pss_one (ps_expr (pe_bm PySem.F.plainAttrs_list PySem.F.slot_list_append PySem.F.type_list_append mt_append (vn 3) (pc (ct call_tupleZ T.tuple (pc (vn 7) pa_nil)) pa_nil))))))))
      (pss_one (ps_ret (ct call_tuple_of T.tuple (pc (vn 3) pa_nil)))))), ?_⟩
    have sz : (16777216 : Nat) = sizeLine := by decide
    have a1 := P1.n1
    have a2 := P2.n1
    have b1 := P1.n60
    have b2 := P2.n60
    obtain ⟨rs1, u1, u2, _⟩ := id G1
    obtain ⟨rs2, u3, u4, _⟩ := id G2
    have e1 : (rs1.map V.ref).length = t1.length := by rw [List.length_map, u2]
    have e2 : (rs2.map V.ref).length = t2.length := by rw [List.length_map, u4]
    refine ⟨_, rfl, g2, _, rfl, .inr (.of u3), (by show 0 ≤ sizeLine; decide), fun L nL => ?_⟩
    rw [e2]
    have s2 := Same.upd (H := H) (o := .lst []) nL
    have eNi : (t1.length : Int) * (t2.length : Int) = ((t1.length * t2.length : Nat) : Int) := by push_cast; rfl
    refine ⟨_, rfl, g1, _, rfl, .inr (.of (s2 _ _ u1)), _, rfl, _, _, rfl, rfl, .inl ⟨by rw [e1]; omega, by rw [e1]; omega⟩, _, rfl, by rw [e1, eNi]; omega, by rw [e1, eNi]; omega, ?_⟩
    rw [e1, eNi, Int.toNat_natCast]
    refine for_range (fun x σ' H' => ∃ (rs : List Addr) (v4 v5 v6 v7 v8 v9 : Option V), σ' = [some (.ref g1), some (.ref g2), some (.int (t2.length : Nat)), some (.ref L), v4, v5, v6, v7, v8, v9] ∧ Same H H' ∧ RowsAt H' L rs (fun x => (List.range (t1.length * t2.length)).map (ptE t1 t2 x)) ∧ rs.length = x)
      ⟨[], _, _, _, _, _, _, rfl, s2, ⟨upd_same, fun i r hr => by cases hr⟩, rfl⟩ ?_ ?_
    · rintro x σ' H2 hx ⟨rs, v4, v5, v6, v7, v8, v9, rfl, sm, R, rl⟩
      rw [show (0 : Int) + (x : Int) = (x : Int) by omega]
      have eA : V.int ((x : Int) / ((t2.length : Nat) : Int)) = V.int ((x / t2.length : Nat) : Int) := congrArg V.int (by push_cast; rfl)
      have eS : V.int ((x : Int) % ((t2.length : Nat) : Int)) = V.int ((x % t2.length : Nat) : Int) := congrArg V.int (by push_cast; rfl)
      refine ⟨_, rfl, _, rfl, _, _, rfl, rfl, ⟨(by show (0 : Int) < (t2.length : Nat); omega), (by show ((t2.length : Nat) : Int) < 1073741824; omega)⟩, _, rfl, _, rfl, _, _, rfl, rfl, (by show (0 : Int) < (t2.length : Nat); omega), _, _, rfl, ?_⟩
      dsimp only
      rw [eA, eS]
      have xa : x / t2.length < t1.length := Nat.div_lt_of_lt_mul (by rw [Nat.mul_comm]; exact hx)
      have xb : x % t2.length < t2.length := Nat.mod_lt _ (by omega)
      refine ⟨(by show 0 ≤ sizeLine; decide), fun l nl => ?_⟩
      have s3 := Same.upd (H := H2) (o := .lst []) nl
      refine ⟨_, rfl, g1, _, rfl, .inr (.of ((sm.trans s3) _ _ u1)), _, rfl, _, _, rfl, rfl, .inl ⟨by rw [e1]; omega, by rw [e1]; omega⟩, _, rfl, by rw [e1, eNi]; omega, by rw [e1, eNi]; omega, ?_⟩
      rw [e1, eNi, Int.toNat_natCast]
      refine for_range (fun y σ'' H' => ∃ (w8 w9 : Option V), σ'' = [some (.ref g1), some (.ref g2), some (.int (t2.length : Nat)), some (.ref L), some (.int x), some (.int (x / t2.length : Nat)), some (.int (x % t2.length : Nat)), some (.ref l), w8, w9] ∧ Same H2 H' ∧ H' l = some (.lst (((List.range y).map (ptE t1 t2 x)).map nV)))
        ⟨_, _, rfl, s3, upd_same⟩ ?_ ?_
      · rintro y σ'' H' hy ⟨w8, w9, rfl, sm', hl⟩
        rw [show (0 : Int) + (y : Int) = (y : Int) by omega]
        have ya : y / t2.length < t1.length := Nat.div_lt_of_lt_mul (by rw [Nat.mul_comm]; exact hy)
        have yb : y % t2.length < t2.length := Nat.mod_lt _ (by omega)
        obtain ⟨q1, q2, q3, _, q4, q5, q6⟩ := (G1.mono (sm.trans sm')).at P1 xa
        obtain ⟨p1, p2, p3, _, p4, p5, p6⟩ := (G2.mono (sm.trans sm')).at P2 xb
        have l1 := P1.lt _ _ xa ya
        refine ⟨_, rfl, _, rfl, g1, _, _, _, rfl, rfl, .of q3, q4, _, rfl, _, rfl, _, _, rfl, rfl, ⟨(by show (0 : Int) < (t2.length : Nat); omega), (by show ((t2.length : Nat) : Int) < 1073741824; omega)⟩, q2, _, _, _, rfl, rfl, q5.sq, q6 _ ya, _, rfl, _, _, rfl, rfl, .inl ⟨by omega, by omega⟩, ?_⟩
        refine ⟨_, rfl, .inl ⟨rfl, _, .of hl⟩, _, rfl, _, rfl, _, rfl, g2, _, _, _, rfl, rfl, .of p3, p4, _, rfl, _, rfl, _, _, rfl, rfl, (by show (0 : Int) < (t2.length : Nat); omega), p2, _, _, _, rfl, rfl, p5.sq, p6 _ yb, _, _, rfl, rfl, l, _, _, rfl, rfl, hl, by rw [List.length_map, List.length_map, List.length_range]; omega, ?_⟩
        refine ⟨_, _, rfl, sm'.updr nl, ?_⟩
        rw [upd_same, List.range_succ, List.map_append, List.map_append]
        rfl
      · rintro σ'' H3 ⟨w8, w9, rfl, sm', hl⟩
        have R3 := R.mono sm'
        refine ⟨_, rfl, .inl ⟨rfl, _, .of R3.1⟩, _, rfl, l, _, rfl, .of hl, fun tr H4 nt s4 hz => ?_⟩
        have R4 := R3.mono s4
        refine ⟨L, _, _, rfl, rfl, R4.1, by rw [List.length_map]; omega, ?_⟩
        exact ⟨rs ++ [tr], _, _, _, _, _, _, rfl, ((sm.trans sm').trans s4).updr nL, R4.push (by rw [rl]; exact hz), by rw [List.length_append, List.length_singleton, rl]⟩
    · rintro σ' H2 ⟨rs, v4, v5, v6, v7, v8, v9, rfl, sm, R, rl⟩
      refine ⟨_, rfl, L, _, rfl, .inl ⟨.of R.1, fun gg ngg => ?_⟩⟩
      exact q gg _ (sm.trans (Same.upd ngg)) (GT_of R rl (Same.upd ngg) upd_same)
end
end C7

set_option maxHeartbeats 4000000
namespace L2
open PySem PySem.Spec PyProof.Rows
theorem pe_bmK {X : Cx} (K : PySem.W.Frag) {o e : Expr} {es : List Expr} {to : TE} {t : TA} {name : Str} {apos cpos : Pos} {T id : String} {r : V → List V → Hp → VK → Prop} (pa : PlainAttrs T) (slot : Slot T name id) (hty : typeOf (.builtin id) = pure (.type "method_descriptor")) (hm : MtR X id r) (ho : PE X o to) (ha : PA X (e :: es) t)
    (hK : X.K = K := by rfl) (hbase : attributeBase o name X.env (eval o X.env) = eval o X.env := by rfl)
    (hfew : ((backTo cpos (starEach (e :: es) X.env)).all (fun x => !x.1) && (backToKw cpos (keywordEach [] X.env)).all (fun x => x.1.isSome)
      && decide ((e :: es).length + ([] : List Keyword).length + (if ([] : List Keyword).isEmpty then 0 else 1) < 30)) = true := by rfl)
    (hline : (apos.endLine == cpos.line) = true := by rfl) (hs : starEach (e :: es) X.env = (false, eval e X.env) :: starEach es X.env := by rfl) (hplain : (backTo cpos (starEach es X.env)).any (·.1) = false := by rfl) :
    PE X (.Call (.Attribute o name apos) (e :: es) [] cpos) (tBM K T r to t) := hK ▸ pe_bm pa slot hty hm ho ha hbase hfew hline hs hplain
end L2
namespace C7
open PySem L2 PySem.Spec PyProof.Rows
open Tb
abbrev sRen : Stmt := top 12
theorem eqv_int (i j : Int) : PyData.eqv (.int i) (.int j) = decide (i = j) := by
  first | rfl | simp [PyData.eqv]
theorem ixN_natC {n i : Nat} (h : i < n) : ixN n (i : Int) = some i := by
  unfold ixN
  rw [if_pos (Int.natCast_nonneg _), if_pos (by omega), Int.toNat_natCast]
theorem era_perm {α : Type} : ∀ (l : List α) (i : Nat) (h : i < l.length), (l[i] :: l.eraseIdx i).Perm l
  | x :: l, 0, h => List.Perm.refl _
  | x :: l, i + 1, h => by
    show ((l[i]'(Nat.lt_of_succ_lt_succ h)) :: x :: l.eraseIdx i).Perm (x :: l)
    exact (List.Perm.swap x _ _).trans (List.Perm.cons x (era_perm l i (Nat.lt_of_succ_lt_succ h)))
theorem erase_mapN : ∀ (xs : List Nat) (j : Nat), (xs.map nV).eraseIdx j = (xs.eraseIdx j).map nV
  | [], j => rfl
  | x :: xs, 0 => rfl
  | x :: xs, j + 1 => by
    show nV x :: (xs.map nV).eraseIdx j = nV x :: (xs.eraseIdx j).map nV
    rw [erase_mapN xs j]
def spRen : Sp := fun vs H Q _ => ∃ (p g : Addr) (t : List (List Nat)), vs = [.ref p, .ref g] ∧ Feed H p ∧ GT H g t ∧ PW t ∧ ∀ g' t' H', Dr p H H' → GT H' g' t' → PW t' → Q (.ref g') H'
def fIdx (t : List (List Nat)) (os : List Nat) (a : Nat) : V → V
  | .int z => .int (pos os (mul t a z.toNat) : Nat)
  | y => y
theorem fIdx_map (t : List (List Nat)) (os : List Nat) (a : Nat) : (os.map nV).map (fIdx t os a) = (os.map fun b => pos os (mul t a b)).map nV := by
  rw [List.map_map, List.map_map]
  refine List.map_congr_left fun b _ => ?_
  show V.int (pos os (mul t a (b : Int).toNat) : Nat) = nV (pos os (mul t a b))
  rw [Int.toNat_natCast]
  rfl
theorem ord_of {n : Nat} {os : List Nat} (n1 : 1 ≤ n) (p : os.Perm (List.range n)) (h0 : os[0]? = some 0) : Ord n os := by
  refine ⟨by rw [p.length_eq, List.length_range], p.nodup_iff.mpr List.nodup_range, fun v hv => p.mem_iff.mpr (List.mem_range.mpr hv), fun v hv => List.mem_range.mp (p.mem_iff.mp hv), ?_⟩
  rw [List.getD_eq_getElem?_getD, h0]
  rfl
theorem nV_get {xs : List Nat} {i : Nat} {y : V} (h : (xs.map nV)[i]? = some y) : ∃ k, xs[i]? = some k ∧ y = .int (k : Nat) := by
  rw [List.getElem?_map] at h
  cases e : xs[i]? with
  | none => rw [e] at h; cases h
  | some k => rw [e] at h; exact ⟨k, rfl, (Option.some.inj h).symm⟩
section
variable {P : Program} {w : World} {K : PySem.W.Frag} {mg : Str → Option Value} {base : Heap}
theorem scRen : FnScope ["_law_feed_here", "_law_group_here", "_law_left", "_law_order", "_law_k", "_law_rows", "_law_a"] ["_law_feed_here", "_law_group_here"] (defScope sRen) := ⟨rfl, rfl, rfl, by decide +kernel, rfl, by decide +kernel, by decide +kernel⟩
theorem ok_ren {f : Addr} {fd : FuncData} (F : Fun K "_law_renamed" "_law_renamed" sRen f fd) (T : Bl mg) (GD : Fn P w K mg base CX0 1 "_law_draw" ["_law_feed_here", "_law_many"] spDraw) : FnOk P w K mg base CX0 2 f fd ["_law_feed_here", "_law_group_here"] spRen := by
  refine F.ok scRen (fun vs H Q E h => ?_) (fun cdv A outer s H vs Q E hr h => ?_)
  · obtain ⟨p, g, t, rfl, _⟩ := h; rfl
  · obtain ⟨p, g, t, rfl, Fd, G, Pt, q⟩ := h
    refine ⟨_, pss_cons (sset 2 rfl (ct (call_list_rng rfl) T.list (pc (ct call_range2 T.range (pc pe_int (pc (cb (lenK K) T.len (pc (vn 1) pa_nil)) pa_nil))) pa_nil)))
      (pss_cons (sset 3 rfl (pe_lst (pc pe_int pa_nil)))
      (pss_cons (ps_for PassesOwn.never rfl (rng1 T.range (pc (pe_op op_sub (cb (lenK K) T.len (pc (vn 1) pa_nil)) pe_int) pa_nil)) (gn 4)
        (pss_one (ps_expr (pe_bm PySem.F.plainAttrs_list PySem.F.slot_list_append PySem.F.type_list_append mt_append (vn 3)
          (pc (pe_bm PySem.F.plainAttrs_list PySem.F.slot_list_pop PySem.F.type_list_pop mt_popAt (vn 2) (pc (fnc GD hr pass0 (pc (vn 0) (pc (cb (lenK K) T.len (pc (vn 2) pa_nil)) pa_nil))) pa_nil)) pa_nil)))))
      (pss_cons (sset 5 rfl (pe_lst pa_nil))
      (pss_cons (ps_for PassesOwn.never rfl (itL K (vn 3)) (gnf 6 rfl)
        (pss_one (ps_expr (pe_bm PySem.F.plainAttrs_list PySem.F.slot_list_append PySem.F.type_list_append mt_append (vn 5)
          (pc (ct call_tupleZ T.tuple (pc (cmp ["_law_b"] [1, 3, 6] ["_law_b", "_law_group_here", "_law_order", "_law_a"] rfl (itL K (vn 3)) (fun _ _ _ _ _ => gn 0) (fun _ _ _ _ _ => pif_nil)
            (fun _ _ _ _ _ => pe_bmK K PySem.F.plainAttrs_list PySem.F.slot_list_index PySem.F.type_list_index (lixK K hr.units) (vn 2) (pc (pe_ix (ixT K) (pe_ix (ixT K) (vn 1) (vn 3) (fun _ _ => rfl)) (vn 0) (fun _ _ => rfl)) pa_nil))) pa_nil)) pa_nil)))))
      (pss_one (ps_ret (ct call_tuple_of T.tuple (pc (vn 5) pa_nil)))))))), ?_⟩
    have sz : (16777216 : Nat) = sizeLine := by decide
    have n1 := Pt.n1
    have n60 := Pt.n60
    obtain ⟨gs, u1, u2, _⟩ := id G
    have el : (gs.map V.ref).length = t.length := by rw [List.length_map, u2]
    refine ⟨_, rfl, g, _, rfl, .inr (.of u1), 1, _, rfl, fun r0 hr0 => ⟨r0, 1, _, rfl, upd_same, ⟨by omega, by omega, by omega, by rw [el]; omega⟩, by rw [el]; omega, fun l hl0 => ?_⟩⟩
    rw [el]
    have e1 : ((t.length : Int) - 1).toNat = t.length - 1 := by omega
    rw [e1]
    refine ⟨(by show 1 ≤ sizeLine; decide), fun fo hfo => ?_⟩
    have s1 : Same H (upd H r0 (.rng 1 (t.length : Int))) := Same.upd hr0
    rw [el] at hl0
    have hl1 : H l = none := s1.free hl0
    have s2 := s1.trans (Same.upd (o := .lst ((rngI 1 (t.length - 1)).map V.int)) hl0)
    have hfo1 : H fo = none := s2.free hfo
    have s3 := s2.trans (Same.upd (o := .lst [.int 0]) hfo)
    have nlf : l ≠ fo := fun z => by rw [← z, upd_same] at hfo; cases hfo
    have np : ∀ {b : Addr}, H b = none → b ≠ p := fun {b} hb => by
      obtain ⟨q0, ns, i, j, k, Fa⟩ := Fd
      exact (ne_of_none Fa.hp hb).symm
    refine ⟨_, rfl, g, _, rfl, .inr (.of (s3 _ _ u1)), _, _, rfl, rfl, _, rfl, by rw [el]; omega, by rw [el]; omega, ?_⟩
    rw [el, e1]
    refine for_range (fun i σ' H' => ∃ (v : Option V) (ls os : List Nat), σ' = [some (.ref p), some (.ref g), some (.ref l), some (.ref fo), v, none, none] ∧ Dr p H H' ∧ H' l = some (.lst (ls.map nV)) ∧ H' fo = some (.lst (os.map nV)) ∧ (os ++ ls).Perm (List.range t.length) ∧ os[0]? = some 0 ∧ ls.length + i = t.length - 1) ?_ ?_ ?_
    · refine ⟨none, (List.range (t.length - 1)).map (· + 1), [0], rfl, Dr.of s3, ?_, upd_same, ?_, rfl, by rw [List.length_map, List.length_range, Nat.add_zero]⟩
      · rw [upd_ne nlf, upd_same]
        unfold rngI
        rw [List.map_map, List.map_map]
        congr 2
        refine List.map_congr_left fun k _ => ?_
        show V.int (1 + (k : Int)) = V.int ((k + 1 : Nat) : Int)
        rw [show (1 : Int) + (k : Int) = ((k + 1 : Nat) : Int) by omega]
      · have : List.range t.length = [0] ++ (List.range (t.length - 1)).map (· + 1) := by
          obtain ⟨k, hk⟩ : ∃ k, t.length = k + 1 := ⟨t.length - 1, by omega⟩
          rw [hk, List.range_succ_eq_map]
          rfl
        rw [this]
    · rintro i σ' H' hi ⟨v, ls, os, rfl, dr, hl', hf', pm, h0, el2⟩
      have hpos : 0 < ls.length := by omega
      refine ⟨_, rfl, .inl ⟨rfl, _, .of hf'⟩, _, rfl, .inl ⟨rfl, _, .of hl'⟩, _, rfl, _, rfl, l, _, rfl, .inl (.of hl'), p, _, rfl, dr.feed Fd, ?_, ?_, fun r H2 r0' r1' dr2 => ?_⟩
      · rw [List.length_map]; omega
      · rw [List.length_map]; exact log_small (by omega) (by omega)
      rw [List.length_map] at r1'
      obtain ⟨j, rfl⟩ := Int.eq_ofNat_of_zero_le r0'
      have hj : j < ls.length := by omega
      have hl2 := dr2.keep l _ hl' (np hl1)
      have hf2 := dr2.keep fo _ hf' (np hfo1)
      have hat : (ls.map nV)[j]? = some (nV ls[j]) := by rw [List.getElem?_map, List.getElem?_eq_getElem hj]; rfl
      obtain ⟨sx, _⟩ := ixN_seq (ixN_natC (n := (ls.map nV).length) (i := j) (by rw [List.length_map]; exact hj))
      refine ⟨l, _, j, j, _, rfl, rfl, hl2, by omega, by omega, sx, hat, fo, _, _, rfl, rfl, by rw [upd_ne nlf.symm]; exact hf2, ?_, ?_⟩
      · rw [List.length_map]
        have := pm.length_eq
        rw [List.length_append, List.length_range] at this
        omega
      · refine ⟨_, ls.eraseIdx j, os ++ [ls[j]], rfl, ((dr.trans dr2).updN hl1).updN hfo1, ?_, ?_, ?_, ?_, ?_⟩
        · rw [upd_ne nlf, upd_same, erase_mapN]
        · rw [upd_same, List.map_append]; rfl
        · rw [List.append_assoc]
          refine (List.Perm.append_left os ?_).trans pm
          exact era_perm ls j hj
        · rw [List.getElem?_append_left]
          · exact h0
          · exact (List.getElem?_eq_some_iff.mp h0).1
        · rw [List.length_eraseIdx, if_pos hj]; omega
    · rintro σ' H1 ⟨v, ls, os, rfl, dr, hl', hf', pm, h0, el2⟩
      have hls : ls = [] := List.eq_nil_of_length_eq_zero (by omega)
      rw [hls, List.append_nil] at pm
      have O := ord_of n1 pm h0
      have G1 := G.dr Fd dr
      refine ⟨(by show 0 ≤ sizeLine; decide), fun L nL => ?_⟩
      have s4 := Same.upd (H := H1) (o := .lst []) nL
      have hf4 := s4 _ _ hf'
      refine ⟨_, rfl, fo, rfl, ⟨_, .of hf4⟩, ?_⟩
      refine for_seq (H0 := H1) ((seq_lst (K := K) (.of hf'))) (fun i σ' H' => ∃ (rs : List Addr) (v6 : Option V), σ' = [some (.ref p), some (.ref g), some (.ref l), some (.ref fo), v, some (.ref L), v6] ∧ Same H1 H' ∧ RowsAt H' L rs (fun i => os.map fun b => pos os (mul t (os.getD i 0) b)) ∧ rs.length = i)
        ⟨[], _, rfl, s4, ⟨upd_same, fun i r hr => by cases hr⟩, rfl⟩ (fun i σ' H' h => h.choose_spec.choose_spec.2.1) ?_ ?_
      · rintro i y σ' H2 hy ⟨rs, v6, rfl, sm, R, rl⟩
        obtain ⟨a, ha, rfl⟩ := nV_get hy
        have hil : i < os.length := (List.getElem?_eq_some_iff.mp ha).1
        have alt : a < t.length := O.lt a (List.mem_of_getElem? ha)
        have hd : os.getD i 0 = a := by rw [List.getD_eq_getElem?_getD, ha]; rfl
        have hf2 := sm _ _ hf'
        refine ⟨_, rfl, .inl ⟨rfl, _, .of R.1⟩, _, rfl, fo, rfl, ⟨_, .of hf2⟩, ?_⟩
        refine comp_map (seq_lst (.of hf2)) [some (.ref g), some (.ref fo), some (.int a)] rfl (fIdx t os a) (by rw [List.length_map, O.len]; omega) (fun j x H' hx s' R' gg => ?_) (fun D H3 nD s3' hD => ?_)
        · obtain ⟨b, hb, rfl⟩ := nV_get hx
          have blt : b < t.length := O.lt b (List.mem_of_getElem? hb)
          obtain ⟨q1, q2, q3, _, q4, q5, q6⟩ := (G1.mono (sm.trans s')).at Pt alt
          have mlt := Pt.lt a b alt blt
          obtain ⟨pl, pv⟩ := pos_lt O mlt
          have hfo' := s' _ _ hf2
          have eo : os.map nV = (os.map fun k : Nat => ((k : Nat) : Int)).map V.int := by rw [List.map_map]; rfl
          refine ⟨_, rfl, .inl ⟨rfl, _, .of hfo'⟩, _, rfl, _, rfl, g, _, _, _, rfl, rfl, .of q3, q4, _, rfl, q2, _, _, _, rfl, rfl, q5.sq, q6 b blt, ?_⟩
          refine ⟨fo, (os.map fun k : Nat => ((k : Nat) : Int)).map V.int, (os.map fun k : Nat => ((k : Nat) : Int)).map PyData.int, .int (mul t a b : Nat), .int (mul t a b : Nat), pos os (mul t a b), rfl, rfl, by rw [← eo]; exact hfo', RdDs.ints _, .int _, canLay_ints _, rfl, by simp [PyData.depth], by rw [List.length_map, List.length_map, O.len]; exact pl, fun d hd' => ?_, fun m d hm hd' => ?_, ?_⟩
          · have ho := getD_lt (o := os) (i := pos os (mul t a b)) (by rw [O.len]; exact pl)
            rw [List.getElem?_map, List.getElem?_map, ho, pv] at hd'
            cases hd'
            rw [eqv_int]
            exact decide_eq_true rfl
          · have hm' : m < os.length := by rw [O.len]; omega
            have ho := getD_lt (o := os) hm'
            rw [List.getElem?_map, List.getElem?_map, ho] at hd'
            cases hd'
            rw [eqv_int]
            refine decide_eq_false fun z => ?_
            have hne := List.not_of_lt_findIdx (p := (· == mul t a b)) (xs := os) hm
            have this' : os[m] = os.getD m 0 := by
              rw [List.getElem?_eq_getElem hm'] at ho
              exact Option.some.inj ho
            rw [this', beq_eq_false_iff_ne] at hne
            have z : ((os.getD m 0 : Nat) : Int) = ((mul t a b : Nat) : Int) := z
            exact hne (by omega)
          · have := gg H' (Same.refl _)
            show R' (.int (pos os (mul t a b) : Nat)) H'
            have e : fIdx t os a (.int (b : Nat)) = V.int (pos os (mul t a b) : Nat) := by
              show V.int (pos os (mul t a (b : Int).toNat) : Nat) = _
              rw [Int.toNat_natCast]
            rw [e] at this
            exact this
        · rw [fIdx_map] at hD
          refine ⟨D, _, rfl, .of hD, fun tr H4 nt s5 hz => ?_⟩
          have R4 := R.mono (s3'.trans s5)
          have ol := O.len
          refine ⟨L, _, _, rfl, rfl, R4.1, by rw [List.length_map]; omega, ?_⟩
          exact ⟨rs ++ [tr], _, rfl, ((sm.trans s3').trans s5).updr nL, R4.push (by rw [rl, hd]; exact hz), by rw [List.length_append, List.length_singleton, rl]⟩
      · rintro σ' H2 ⟨rs, v6, rfl, sm, R, rl⟩
        rw [List.length_map] at rl
        refine ⟨_, rfl, L, _, rfl, .inl ⟨.of R.1, fun gg ngg => ?_⟩⟩
        have GG := GT_of R rl (Same.upd ngg) upd_same
        have er : ((List.range os.length).map fun i => os.map fun b => pos os (mul t (os.getD i 0) b)) = ren t os := by
          unfold ren
          refine List.ext_getElem? fun i => ?_
          rw [List.getElem?_map, List.getElem?_map]
          by_cases hi : i < os.length
          · rw [List.getElem?_range hi, getD_lt hi]
            rfl
          · rw [List.getElem?_eq_none (by rw [List.length_range]; omega), List.getElem?_eq_none (by omega)]
            rfl
        rw [er] at GG
        exact q gg _ _ (dr.same (sm.trans (Same.upd ngg))) GG (pw_ren Pt O)
end
end C7

set_option maxHeartbeats 4000000
namespace C7
open PySem L2 PySem.Spec PyProof.Rows
open Tb
abbrev sByP : Stmt := top 10
def aft (f g : List Nat) : List Nat := g.map fun i => f.getD i 0
def addP (fd : List (List Nat)) (o : List Nat) : List (List Nat) := if fd.contains o then fd else fd ++ [o]
def stepP (cur : List Nat) (ps : List (List Nat)) (fd : List (List Nat)) : List (List Nat) := ps.foldl (fun fd p => addP fd (aft cur p)) fd
def bfs (ps : List (List Nat)) : Nat → Nat → List (List Nat) → List (List Nat)
  | 0, _, fd => fd
  | f + 1, at', fd => if at' < fd.length then bfs ps f (at' + 1) (stepP (fd.getD at' []) ps fd) else fd
def nI (xs : List Nat) : List Int := xs.map fun k : Nat => ((k : Nat) : Int)
theorem nI_V (xs : List Nat) : (nI xs).map V.int = xs.map nV := by unfold nI; rw [List.map_map]; rfl
/-- tuples of numbers, gathered in a list -/
def TupsAt (H : Hp) (L : Addr) (bs : List Addr) (yss : List (List Nat)) : Prop := H L = some (.lst (bs.map V.ref)) ∧ bs.length = yss.length ∧ ∀ (i : Nat) b, bs[i]? = some b → H b = some (.tup ((yss.getD i []).map nV))
theorem TupsAt.mono {H H' : Hp} {L : Addr} {bs : List Addr} {yss : List (List Nat)} (s : Same H H') (R : TupsAt H L bs yss) : TupsAt H' L bs yss := ⟨s _ _ R.1, R.2.1, fun i b hb => s _ _ (R.2.2 i b hb)⟩
theorem TupsAt.push {H : Hp} {L : Addr} {bs : List Addr} {yss : List (List Nat)} {b : Addr} {ys : List Nat} (R : TupsAt H L bs yss) (h : H b = some (.tup (ys.map nV))) : TupsAt (upd H L (.lst (bs.map V.ref ++ [.ref b]))) L (bs ++ [b]) (yss ++ [ys]) := by
  have ne : ∀ {b ys}, H b = some (.tup ys) → upd H L (.lst (bs.map V.ref ++ [.ref b])) b = some (.tup ys) := fun {b ys} hb => by
    rw [upd_ne (fun z => by rw [z, R.1] at hb; cases hb)]
    exact hb
  refine ⟨by rw [upd_same, List.map_append]; rfl, by rw [List.length_append, List.length_append, R.2.1]; rfl, fun i c hc => ?_⟩
  have nb : c ≠ L → upd H L (.lst (bs.map V.ref ++ [.ref b])) c = H c := fun z => upd_ne z
  by_cases hi : i < bs.length
  · rw [List.getElem?_append_left hi] at hc
    have := R.2.2 i c hc
    rw [nb (fun z => by rw [z, R.1] at this; cases this), List.getD_eq_getElem?_getD, List.getElem?_append_left (by rw [← R.2.1]; exact hi), ← List.getD_eq_getElem?_getD]
    exact this
  · rw [List.getElem?_append_right (by omega)] at hc
    have e0 : i - bs.length = 0 := by
      apply Classical.byContradiction
      intro z
      rw [List.getElem?_eq_none (by rw [List.length_singleton]; omega)] at hc
      cases hc
    rw [e0] at hc
    cases hc
    have : i = yss.length := by rw [← R.2.1]; omega
    rw [nb (fun z => by rw [z, R.1] at h; cases h), this, List.getD_eq_getElem?_getD, List.getElem?_append_right (Nat.le_refl _), Nat.sub_self]
    exact h
theorem rd_tupN {K : PySem.W.Frag} {H : Hp} : ∀ (bs : List Addr) (yss : List (List Nat)), bs.length = yss.length → (∀ (j : Nat) b, bs[j]? = some b → H b = some (.tup ((yss.getD j []).map nV))) → RdDs K H (bs.map V.ref) (yss.map fun ns => PyData.tuple ((nI ns).map PyData.int))
  | [], [], _, _ => .nil
  | [], _ :: _, h, _ => by cases h
  | _ :: _, [], h, _ => by cases h
  | b :: bs, y :: yss, h, g => by
    have hb := g 0 b rfl
    have hb' : H b = some (.tup ((nI y).map V.int)) := by rw [nI_V]; exact hb
    exact .cons (.tup (.of hb') (RdDs.ints _)) (rd_tupN bs yss (Nat.succ.inj h) fun j b' hj => g (j + 1) b' hj)
theorem nI_inj {a b : List Nat} : nI a = nI b ↔ a = b := by
  constructor
  · intro h
    unfold nI at h
    exact (List.map_inj_right (fun x y e => by exact Int.ofNat.inj e)).mp h
  · intro h; rw [h]
theorem eqvTN (a b : List Nat) : PyData.eqv (.tuple ((nI a).map PyData.int)) (.tuple ((nI b).map PyData.int)) = decide (a = b) := by
  have : PyData.eqv (.tuple ((nI a).map PyData.int)) (.tuple ((nI b).map PyData.int)) = decide (nI a = nI b) := by
    show PyData.eqvAll _ _ = _
    exact PySem.W.ked_eqvAll _ _
  rw [this, decide_eq_decide]
  exact nI_inj
theorem any_contains (yss : List (List Nat)) (o : List Nat) : ((yss.map fun ns => PyData.tuple ((nI ns).map PyData.int)).any fun y => y.eqv (.tuple ((nI o).map PyData.int))) = yss.contains o := by
  rw [List.any_map, List.contains_eq_any_beq]
  congr 1
  funext y
  show PyData.eqv _ _ = (o == y)
  rw [eqvTN]
  by_cases h : y = o
  · rw [decide_eq_true h, h, beq_self_eq_true]
  · rw [decide_eq_false h]
    exact (beq_eq_false_iff_ne.mpr (fun z => h z.symm)).symm
def fAft (cur : List Nat) : V → V
  | .int z => nV (cur.getD z.toNat 0)
  | y => y
theorem fAft_map (cur g : List Nat) : (g.map nV).map (fAft cur) = (aft cur g).map nV := by
  unfold aft
  rw [List.map_map, List.map_map]
  refine List.map_congr_left fun b _ => ?_
  show nV (cur.getD (b : Int).toNat 0) = nV (cur.getD b 0)
  rw [Int.toNat_natCast]
/-- the table that comes of sorted perms -/
def tabP (srt : List (List Nat)) : List (List Nat) := srt.map fun a => srt.map fun b => srt.findIdx (· == aft a b)
def srtP (p : Array Nat) (fd : List (List Nat)) : List (List Nat) := p.toList.map fun i => fd.getD i []
/-- what is reckoned of one list of perms of k places -/
structure ByP (k : Nat) (ps : List (List Nat)) (fd : List (List Nat)) (p : Array Nat) (t : List (List Nat)) : Prop where
  k1 : 1 ≤ k
  k9 : k ≤ 9
  p1 : 1 ≤ ps.length
  p9 : ps.length ≤ 9
  pl : ∀ g ∈ ps, g.length = k ∧ ∀ x ∈ g, x < k
  fin : bfs ps 61 0 [List.range k] = fd
  n2 : 2 ≤ fd.length
  n60 : fd.length ≤ 60
  run : PyZ.runB fd.length (fun i j => PyZ.ltB ((fd.map nI).getD i []) ((fd.map nI).getD j [])) (W.kas_sort fd.length) = some p
  ps64 : p.size ≤ 64
  plt : ∀ i ∈ p.toList, i < fd.length
  tab : tabP (srtP p fd) = t
  inS : ∀ a ∈ srtP p fd, ∀ b ∈ srtP p fd, aft a b ∈ srtP p fd
theorem addP_len (fd : List (List Nat)) (o : List Nat) : fd.length ≤ (addP fd o).length := by
  unfold addP
  split
  · exact Nat.le_refl _
  · rw [List.length_append]; omega
theorem stepP_len (cur : List Nat) : ∀ (ps fd : List (List Nat)), fd.length ≤ (stepP cur ps fd).length
  | [], fd => Nat.le_refl _
  | p :: ps, fd => Nat.le_trans (addP_len fd (aft cur p)) (stepP_len cur ps (addP fd (aft cur p)))
theorem bfs_len (ps : List (List Nat)) : ∀ (f at' : Nat) (fd : List (List Nat)), fd.length ≤ (bfs ps f at' fd).length
  | 0, _, fd => Nat.le_refl _
  | f + 1, at', fd => by
    unfold bfs
    split
    · exact Nat.le_trans (stepP_len _ ps fd) (bfs_len ps f (at' + 1) _)
    · exact Nat.le_refl _
end C7

set_option maxHeartbeats 4000000
namespace C7
open PySem L2 PySem.Spec PyProof.Rows
open Tb
abbrev sOne : Stmt := top 13
abbrev sGroup : Stmt := top 14
def spOne : Sp := fun vs H Q _ => ∃ (p : Addr), vs = [.ref p] ∧ Feed H p ∧ ∀ g t H', Dr p H H' → GT H' g t → PW t → Q (.ref g) H'
section
variable {P : Program} {w : World} {K : PySem.W.Frag} {mg : Str → Option Value} {base : Heap}
theorem scGroup : FnScope ["_law_feed_here", "_law_group_here"] ["_law_feed_here"] (defScope sGroup) := ⟨rfl, rfl, rfl, by decide +kernel, rfl, by decide +kernel, by decide +kernel⟩
theorem ok_group {f : Addr} {fd : FuncData} (F : Fun K "_law_group" "_law_group" sGroup f fd) (GO : Fn P w K mg base CX0 2 "_law_one_group" ["_law_feed_here"] spOne) (GD : Fn P w K mg base CX0 1 "_law_draw" ["_law_feed_here", "_law_many"] spDraw)
    (GR : Fn P w K mg base CX0 2 "_law_renamed" ["_law_feed_here", "_law_group_here"] spRen) : FnOk P w K mg base CX0 3 f fd ["_law_feed_here"] spOne := by
  refine F.ok scGroup (fun vs H Q E h => ?_) (fun cdv A outer s H vs Q E hr h => ?_)
  · obtain ⟨p, rfl, _⟩ := h; rfl
  · obtain ⟨p, rfl, F0, q⟩ := h
    refine ⟨_, pss_cons (sset 1 rfl (fnc GO hr pass0 (pc (vn 0) pa_nil))) (pss_one (ps_ret (pe_ifExp (pt_cmpR op_gt (fnc GD hr pass0 (pc (vn 0) (pc pe_int pa_nil))) pe_int (nomark _)) (fnc GR hr pass0 (pc (vn 0) (pc (vn 1) pa_nil))) (vn 1)))), ?_⟩
    refine ⟨_, rfl, p, rfl, F0, fun g t H1 d1 G Pt => ?_⟩
    have F1 := d1.feed F0
    refine ⟨_, rfl, p, 3, rfl, F1, by decide, by decide +kernel, fun r H2 r0 r1 d2 => ⟨_, _, rfl, rfl, _, rfl, ?_⟩⟩
    have F2 := d2.feed F1
    have G2 := G.dr F1 d2
    refine ite2 (fun h1 => ?_) (fun h1 => ?_)
    · exact ⟨_, rfl, _, rfl, p, g, t, rfl, F2, G2, Pt, fun g' t' H3 d3 G3 P3 => q g' t' H3 ((d1.trans d2).trans d3) G3 P3⟩
    · exact ⟨_, rfl, q g t H2 (d1.trans d2) G2 Pt⟩
end
end C7

set_option maxHeartbeats 4000000
namespace C7
open Tb
def fN1 {β : Type} (m : Nat) (k : Nat → β) : β := match m with
  | 0 => k 0
  | m + 1 => k (m + 1)
theorem fN1_eq {β : Type} (m : Nat) (k : Nat → β) : fN1 m k = k m := by cases m <;> rfl
def fNL {β : Type} : List Nat → (List Nat → β) → β
  | [], k => k []
  | x :: xs, k => fN1 x fun y => fNL xs fun ys => k (y :: ys)
theorem fNL_eq {β : Type} : ∀ (a : List Nat) (k : List Nat → β), fNL a k = k a
  | [], k => rfl
  | x :: xs, k => by rw [fNL, fN1_eq, fNL_eq xs]
def fTT {β : Type} : List (List Nat) → (List (List Nat) → β) → β
  | [], k => k []
  | x :: xs, k => fNL x fun y => fTT xs fun ys => k (y :: ys)
theorem fTT_eq {β : Type} : ∀ (a : List (List Nat)) (k : List (List Nat) → β), fTT a k = k a
  | [], k => rfl
  | x :: xs, k => by rw [fTT, fNL_eq, fTT_eq xs]
def pwC (t : List (List Nat)) : Bool := fTT t pwB
theorem pwC_of {t : List (List Nat)} (h : pwC t = true) : PW t := by
  unfold pwC at h
  rw [fTT_eq] at h
  exact pwB_of h
theorem pw_tw1 : ((List.range 12).all fun i => pwC (tw (i + 1) 1 1)) = true := by decide +kernel
theorem pw_tw2 : ((List.range 6).all fun i => pwC (tw (i + 3) 2 (i + 2))) = true := by decide +kernel
theorem pw_eg : ((List.range 4).all fun i => pwC (eg (i + 2))) = true := by decide +kernel
end C7

set_option maxHeartbeats 4000000
namespace C7
open Tb PySem
def addF {β : Type} (fd : List (List Nat)) (o : List Nat) (k : List (List Nat) → β) : β := fNL o fun o' => if fd.contains o' then k fd else fTT (fd ++ [o']) k
theorem addF_eq {β : Type} (fd : List (List Nat)) (o : List Nat) (k : List (List Nat) → β) : addF fd o k = k (addP fd o) := by
  unfold addF addP
  rw [fNL_eq]
  split
  · rfl
  · rw [fTT_eq]
def stepF {β : Type} (cur : List Nat) : List (List Nat) → List (List Nat) → (List (List Nat) → β) → β
  | [], fd, k => k fd
  | p :: ps, fd, k => addF fd (aft cur p) fun fd' => stepF cur ps fd' k
theorem stepF_eq {β : Type} (cur : List Nat) : ∀ (ps fd : List (List Nat)) (k : List (List Nat) → β), stepF cur ps fd k = k (stepP cur ps fd)
  | [], fd, k => rfl
  | p :: ps, fd, k => by
    rw [stepF, addF_eq, stepF_eq cur ps]
    rfl
def bfsF {β : Type} (ps : List (List Nat)) : Nat → Nat → List (List Nat) → (List (List Nat) → β) → β
  | 0, _, fd, k => k fd
  | f + 1, at', fd, k => if at' < fd.length then fNL (fd.getD at' []) fun cur => stepF cur ps fd fun fd' => fN1 (at' + 1) fun a => bfsF ps f a fd' k else k fd
theorem bfsF_eq {β : Type} (ps : List (List Nat)) : ∀ (f at' : Nat) (fd : List (List Nat)) (k : List (List Nat) → β), bfsF ps f at' fd k = k (bfs ps f at' fd)
  | 0, _, fd, k => rfl
  | f + 1, at', fd, k => by
    rw [bfsF, bfs]
    split
    · rw [fNL_eq, stepF_eq, fN1_eq, bfsF_eq ps f]
    · rfl
def psL0 : List (List Nat) := [[1, 0, 2, 3], [1, 2, 3, 0]]
def fdL0 : List (List Nat) := [[0, 1, 2, 3], [1, 0, 2, 3], [1, 2, 3, 0], [0, 2, 3, 1], [2, 1, 3, 0], [2, 3, 0, 1], [2, 0, 3, 1], [2, 3, 1, 0], [1, 3, 0, 2], [3, 2, 0, 1], [3, 0, 1, 2], [0, 3, 1, 2], [3, 2, 1, 0], [3, 1, 0, 2], [3, 0, 2, 1], [2, 0, 1, 3], [3, 1, 2, 0], [2, 1, 0, 3], [0, 3, 2, 1], [0, 2, 1, 3], [0, 1, 3, 2], [1, 3, 2, 0], [1, 2, 0, 3], [1, 0, 3, 2]]
def pL0 : List Nat := [0, 20, 19, 3, 11, 18, 1, 23, 22, 2, 8, 21, 15, 6, 17, 4, 5, 7, 10, 14, 13, 16, 9, 12]
theorem fin0 : bfs psL0 61 0 [List.range 4] = fdL0 := by
  have h : bfsF psL0 61 0 [List.range 4] (fun fd => decide (fd = fdL0)) = true := by decide +kernel
  rw [bfsF_eq] at h
  exact of_decide_eq_true h
theorem run0 : PyZ.runB fdL0.length (fun i j => PyZ.ltB ((fdL0.map nI).getD i []) ((fdL0.map nI).getD j [])) (W.kas_sort fdL0.length) = some pL0.toArray := by decide +kernel
theorem tab0 : pwC (tabP (srtP pL0.toArray fdL0)) = true := by decide +kernel
def psL1 : List (List Nat) := [[1, 2, 0, 3], [1, 0, 3, 2]]
def fdL1 : List (List Nat) := [[0, 1, 2, 3], [1, 2, 0, 3], [1, 0, 3, 2], [2, 0, 1, 3], [2, 1, 3, 0], [0, 3, 1, 2], [0, 2, 3, 1], [1, 3, 2, 0], [3, 1, 0, 2], [3, 0, 2, 1], [2, 3, 0, 1], [3, 2, 1, 0]]
def pL1 : List Nat := [0, 6, 5, 2, 1, 7, 3, 4, 10, 9, 8, 11]
theorem fin1 : bfs psL1 61 0 [List.range 4] = fdL1 := by
  have h : bfsF psL1 61 0 [List.range 4] (fun fd => decide (fd = fdL1)) = true := by decide +kernel
  rw [bfsF_eq] at h
  exact of_decide_eq_true h
theorem run1 : PyZ.runB fdL1.length (fun i j => PyZ.ltB ((fdL1.map nI).getD i []) ((fdL1.map nI).getD j [])) (W.kas_sort fdL1.length) = some pL1.toArray := by decide +kernel
theorem tab1 : pwC (tabP (srtP pL1.toArray fdL1)) = true := by decide +kernel
def psL2 : List (List Nat) := [[1, 0, 2], [1, 2, 0]]
def fdL2 : List (List Nat) := [[0, 1, 2], [1, 0, 2], [1, 2, 0], [0, 2, 1], [2, 1, 0], [2, 0, 1]]
def pL2 : List Nat := [0, 3, 1, 2, 5, 4]
theorem fin2 : bfs psL2 61 0 [List.range 3] = fdL2 := by
  have h : bfsF psL2 61 0 [List.range 3] (fun fd => decide (fd = fdL2)) = true := by decide +kernel
  rw [bfsF_eq] at h
  exact of_decide_eq_true h
theorem run2 : PyZ.runB fdL2.length (fun i j => PyZ.ltB ((fdL2.map nI).getD i []) ((fdL2.map nI).getD j [])) (W.kas_sort fdL2.length) = some pL2.toArray := by decide +kernel
theorem tab2 : pwC (tabP (srtP pL2.toArray fdL2)) = true := by decide +kernel
def psL3 : List (List Nat) := [[1, 2, 3, 4, 0], [1, 2, 0, 3, 4]]
def fdL3 : List (List Nat) := [[0, 1, 2, 3, 4], [1, 2, 3, 4, 0], [1, 2, 0, 3, 4], [2, 3, 4, 0, 1], [2, 3, 1, 4, 0], [2, 0, 3, 4, 1], [2, 0, 1, 3, 4], [3, 4, 0, 1, 2], [3, 4, 2, 0, 1], [3, 1, 4, 0, 2], [3, 1, 2, 4, 0], [0, 3, 4, 1, 2], [0, 3, 2, 4, 1], [0, 1, 3, 4, 2], [4, 0, 1, 2, 3], [4, 0, 3, 1, 2], [4, 2, 0, 1, 3], [4, 2, 3, 0, 1], [1, 4, 0, 2, 3], [1, 4, 3, 0, 2], [1, 2, 4, 0, 3], [3, 4, 1, 2, 0], [3, 2, 4, 1, 0], [3, 2, 0, 4, 1], [1, 3, 4, 2, 0], [1, 3, 0, 4, 2], [0, 1, 4, 2, 3], [0, 3, 1, 2, 4], [2, 0, 4, 1, 3], [2, 3, 0, 1, 4], [4, 0, 2, 3, 1], [4, 3, 0, 2, 1], [4, 3, 1, 0, 2], [2, 4, 0, 3, 1], [2, 4, 1, 0, 3], [4, 1, 2, 0, 3], [4, 1, 3, 2, 0], [2, 4, 3, 1, 0], [3, 0, 4, 2, 1], [3, 0, 1, 4, 2], [1, 4, 2, 3, 0], [3, 1, 0, 2, 4], [0, 4, 1, 3, 2], [0, 4, 2, 1, 3], [3, 0, 2, 1, 4], [0, 2, 3, 1, 4], [0, 2, 4, 3, 1], [4, 1, 0, 3, 2], [1, 3, 2, 0, 4], [4, 3, 2, 1, 0], [0, 4, 3, 2, 1], [4, 2, 1, 3, 0], [1, 0, 2, 4, 3], [1, 0, 3, 2, 4], [0, 2, 1, 4, 3], [1, 0, 4, 3, 2], [3, 2, 1, 0, 4], [2, 1, 3, 0, 4], [2, 1, 4, 3, 0], [2, 1, 0, 4, 3]]
def pL3 : List Nat := [0, 13, 26, 54, 45, 46, 27, 12, 11, 42, 43, 50, 52, 53, 55, 2, 1, 20, 25, 48, 24, 18, 40, 19, 6, 5, 28, 59, 57, 58, 29, 4, 3, 33, 34, 37, 39, 44, 38, 41, 10, 9, 23, 56, 22, 7, 21, 8, 14, 30, 15, 47, 35, 36, 16, 51, 17, 31, 32, 49]
theorem fin3 : bfs psL3 61 0 [List.range 5] = fdL3 := by
  have h : bfsF psL3 61 0 [List.range 5] (fun fd => decide (fd = fdL3)) = true := by decide +kernel
  rw [bfsF_eq] at h
  exact of_decide_eq_true h
theorem run3 : PyZ.runB fdL3.length (fun i j => PyZ.ltB ((fdL3.map nI).getD i []) ((fdL3.map nI).getD j [])) (W.kas_sort fdL3.length) = some pL3.toArray := by decide +kernel
theorem tab3 : pwC (tabP (srtP pL3.toArray fdL3)) = true := by decide +kernel
end C7

set_option maxHeartbeats 4000000
namespace C7
open PySem L2 PySem.Spec PyProof.Rows
open Tb
structure BlS (mg : Str → Option Value) : Prop where
  sorted : mg "sorted" = none
def spByP : Sp := fun vs H Q _ => ∃ (pl : Addr) (prs : List Addr) (ps : List (List Nat)) (k : Nat) (fd : List (List Nat)) (p : Array Nat) (t : List (List Nat)), vs = [.ref pl] ∧ TupsAt H pl prs ps ∧ ByP k ps fd p t ∧ ∀ g H', Same H H' → GT H' g t → Q (.ref g) H'
/-- a row of k numbers below k -/
def Gk (k : Nat) (y : List Nat) : Prop := y.length = k ∧ ∀ x ∈ y, x < k
theorem aft_good {k : Nat} {a g : List Nat} (ha : Gk k a) (hg : Gk k g) : Gk k (aft a g) := by
  unfold aft
  refine ⟨by rw [List.length_map]; exact hg.1, fun x hx => ?_⟩
  obtain ⟨i, hi, rfl⟩ := List.mem_map.mp hx
  have h1 := hg.2 i hi
  have h2 := ha.1
  rw [List.getD_eq_getElem?_getD, List.getElem?_eq_getElem (show i < a.length by omega)]
  exact ha.2 _ (List.getElem_mem _)
theorem addP_good {k : Nat} {fd : List (List Nat)} {o : List Nat} (h : ∀ y ∈ fd, Gk k y) (ho : Gk k o) : ∀ y ∈ addP fd o, Gk k y := by
  unfold addP
  split
  · exact h
  · intro y hy
    rcases List.mem_append.mp hy with z | z
    · exact h y z
    · rw [List.mem_singleton.mp z]; exact ho
theorem addP_at {fd : List (List Nat)} {o : List Nat} {j : Nat} (h : j < fd.length) : (addP fd o).getD j [] = fd.getD j [] := by
  unfold addP
  split
  · rfl
  · rw [List.getD_eq_getElem?_getD, List.getElem?_append_left h, ← List.getD_eq_getElem?_getD]
theorem stepP_at (cur : List Nat) {j : Nat} : ∀ (ps fd : List (List Nat)), j < fd.length → (stepP cur ps fd).getD j [] = fd.getD j []
  | [], fd, _ => rfl
  | p :: ps, fd, h => by
    show (stepP cur ps (addP fd (aft cur p))).getD j [] = _
    rw [stepP_at cur ps _ (Nat.lt_of_lt_of_le h (addP_len fd _)), addP_at h]
theorem stepP_take (cur : List Nat) {ps fd : List (List Nat)} {i : Nat} {g : List Nat} (h : ps[i]? = some g) : stepP cur (ps.take (i + 1)) fd = addP (stepP cur (ps.take i) fd) (aft cur g) := by
  unfold stepP
  rw [List.take_add_one, h, List.foldl_append]
  rfl
theorem stepP_more (cur : List Nat) (ps fd : List (List Nat)) (i : Nat) : (stepP cur (ps.take i) fd).length ≤ (stepP cur ps fd).length := by
  have : stepP cur ps fd = stepP cur (ps.drop i) (stepP cur (ps.take i) fd) := by
    unfold stepP
    rw [← List.foldl_append, List.take_append_drop]
  rw [this]
  exact stepP_len _ _ _
theorem TupsAt.sort {H : Hp} {L D : Addr} {bs : List Addr} {fd : List (List Nat)} {p : Array Nat} (R : TupsAt H L bs fd) (hD : H D = none) (hp : ∀ i ∈ p.toList, i < fd.length) : TupsAt (upd H D (.lst ((p.toList.map fun i => bs.getD i 0).map V.ref))) D (p.toList.map fun i => bs.getD i 0) (srtP p fd) := by
  refine ⟨upd_same, by unfold srtP; rw [List.length_map, List.length_map], fun i b hb => ?_⟩
  rw [List.getElem?_map] at hb
  cases e : p.toList[i]? with
  | none => rw [e] at hb; cases hb
  | some j =>
    rw [e] at hb
    have hj := hp j (List.mem_of_getElem? e)
    have hjb : j < bs.length := by rw [R.2.1]; exact hj
    have hb' : bs[j]? = some b := by
      rw [← Option.some.inj hb]
      show bs[j]? = some (bs.getD j 0)
      rw [List.getD_eq_getElem?_getD, List.getElem?_eq_getElem hjb]
      rfl
    have h1 := R.2.2 j b hb'
    have e2 : (srtP p fd).getD i [] = fd.getD j [] := by
      unfold srtP
      rw [List.getD_eq_getElem?_getD, List.getElem?_map, e]
      rfl
    rw [upd_ne (fun z => by rw [z, hD] at h1; cases h1), e2]
    exact h1
theorem TupsAt.get {H : Hp} {L : Addr} {bs : List Addr} {yss : List (List Nat)} (R : TupsAt H L bs yss) {i : Nat} (hi : i < yss.length) : ∃ b, bs[i]? = some b ∧ atI (bs.map V.ref) (i : Int) = some (.ref b) ∧ H b = some (.tup ((yss.getD i []).map nV)) := by
  have hb : i < bs.length := by rw [R.2.1]; exact hi
  have e : bs[i]? = some bs[i] := List.getElem?_eq_getElem hb
  exact ⟨_, e, atI_nat (by rw [List.getElem?_map, e]; rfl), R.2.2 i _ e⟩
theorem TupsAt.ref {H : Hp} {L : Addr} {bs : List Addr} {yss : List (List Nat)} (R : TupsAt H L bs yss) {i : Nat} {y : V} (h : (bs.map V.ref)[i]? = some y) : ∃ b, y = .ref b ∧ i < yss.length ∧ H b = some (.tup ((yss.getD i []).map nV)) := by
  rw [List.getElem?_map] at h
  cases e : bs[i]? with
  | none => rw [e] at h; cases h
  | some b =>
    rw [e] at h
    refine ⟨b, (Option.some.inj h).symm, ?_, R.2.2 i b e⟩
    rw [← R.2.1]
    exact (List.getElem?_eq_some_iff.mp e).1
theorem Feed.ne_none {p l : Addr} {H : Hp} (F : Feed H p) (h : H l = none) : l ≠ p := by
  obtain ⟨q0, ns, i, j, k, Fa⟩ := F
  exact (ne_of_none Fa.hp h).symm
theorem getL {yss : List (List Nat)} {i : Nat} (h : i < yss.length) : yss[i]? = some (yss.getD i []) := by
  rw [List.getD_eq_getElem?_getD, List.getElem?_eq_getElem h]
  rfl
theorem memL {yss : List (List Nat)} {i : Nat} (h : i < yss.length) : yss.getD i [] ∈ yss := List.mem_of_getElem? (getL h)
theorem nv_at {xs : List Nat} {i : Nat} (h : i < xs.length) : atI (xs.map nV) (i : Int) = some (nV (xs.getD i 0)) := atI_nat (by rw [List.getElem?_map, List.getElem?_eq_getElem h, List.getD_eq_getElem?_getD, List.getElem?_eq_getElem h]; rfl)
section
variable {P : Program} {w : World} {K : PySem.W.Frag} {mg : Str → Option Value} {base : Heap}
theorem scByP : FnScope ["_law_perms", "_law_found", "_law_at", "_law_perm", "_law_other", "_law_rows", "_law_one", "_law_row"] ["_law_perms"] (defScope sByP) := ⟨rfl, rfl, rfl, by decide +kernel, rfl, by decide +kernel, by decide +kernel⟩
theorem ok_byP {f : Addr} {fd : FuncData} (F : Fun K "_law_by_perms" "_law_by_perms" sByP f fd) (T : Bl mg) (TS : BlS mg) : FnOk P w K mg base CX0 1 f fd ["_law_perms"] spByP := by
  refine F.ok scByP (fun vs H Q E h => ?_) (fun cdv A outer s H vs Q E hr h => ?_)
  · obtain ⟨pl, prs, ps, k, fd0, p, t, rfl, _⟩ := h; rfl
  · obtain ⟨pl, prs, ps, k, fd0, p, t, rfl, R0, B, q⟩ := h
    refine ⟨_, pss_cons (sset 1 rfl (pe_lst (pc (ct (call_tuple_rng rfl) T.tuple (pc (ct call_range1 T.range (pc (cb (lenK K) T.len (pc (pe_ix (ixL K) (vn 0) pe_int (fun _ _ => rfl)) pa_nil)) pa_nil)) pa_nil)) pa_nil)))
      (pss_cons (sset 2 rfl pe_int)
      (pss_cons (ps_while PassesOwn.never (pt_cmpR op_lt (vn 2) (cb (lenK K) T.len (pc (vn 1) pa_nil)) (nomark _))
        (pss_cons (ps_for PassesOwn.never rfl (itL K (vn 0)) (gn 3)
          (pss_cons (sset 4 rfl (ct call_tuple_of T.tuple (pc (cmp ["_law_place"] [1, 2] ["_law_place", "_law_found", "_law_at"] rfl (itT K (vn 3)) (fun _ _ _ _ _ => gn 0) (fun _ _ _ _ _ => pif_nil)
            (fun _ _ _ _ _ => pe_ix (ixT K) (pe_ix (ixL K) (vn 1) (vn 2) (fun _ _ => rfl)) (vn 0) (fun _ _ => rfl))) pa_nil)))
          (pss_one (ps_if (pt_cmpR (ninDK K hr.units) (vn 4) (vn 1) (by rfl)) (pss_one (ps_expr (pe_bm PySem.F.plainAttrs_list PySem.F.slot_list_append PySem.F.type_list_append mt_append (vn 1) (pc (vn 4) pa_nil)))) pss_nil))))
        (pss_one (sset 2 rfl (pe_op op_add (vn 2) pe_int)))))
      (pss_cons (sset 1 rfl (cb call_sortT TS.sorted (pc (vn 1) pa_nil)))
      (pss_cons (sset 5 rfl (pe_lst pa_nil))
      (pss_cons (ps_for PassesOwn.never rfl (itL K (vn 1)) (gnf 6 rfl)
        (pss_cons (sset 7 rfl (pe_lst pa_nil))
        (pss_cons (ps_for PassesOwn.never rfl (itL K (vn 1)) (gn 4)
          (pss_one (ps_expr (pe_bm PySem.F.plainAttrs_list PySem.F.slot_list_append PySem.F.type_list_append mt_append (vn 7)
            (pc (pe_bm PySem.F.plainAttrs_list PySem.F.slot_list_index PySem.F.type_list_index (lixK K hr.units) (vn 1)
              (pc (ct call_tuple_of T.tuple (pc (cmp ["_law_place"] [6] ["_law_place", "_law_one"] rfl (itT K (vn 4)) (fun _ _ _ _ _ => gn 0) (fun _ _ _ _ _ => pif_nil)
                (fun _ _ _ _ _ => pe_ix (ixT K) (vn 1) (vn 0) (fun _ _ => rfl))) pa_nil)) pa_nil)) pa_nil)))))
        (pss_one (ps_expr (pe_bm PySem.F.plainAttrs_list PySem.F.slot_list_append PySem.F.type_list_append mt_append (vn 5) (pc (ct call_tupleZ T.tuple (pc (vn 7) pa_nil)) pa_nil)))))))
      (pss_one (ps_ret (ct call_tuple_of T.tuple (pc (vn 5) pa_nil))))))))), ?_⟩
    have sz : (16777216 : Nat) = sizeLine := by decide
    have k1 := B.k1
    have k9 := B.k9
    have p1 := B.p1
    have p9 := B.p9
    have n60 := B.n60
    have gps : ∀ g ∈ ps, Gk k g := B.pl
    obtain ⟨b0, _, hat0, hb0⟩ := R0.get (i := 0) (by omega)
    have e0 : ((ps.getD 0 []).map nV).length = k := by rw [List.length_map]; exact (gps _ (memL (by omega))).1
    refine ⟨_, rfl, pl, _, _, _, rfl, rfl, .of R0.1, hat0, b0, _, rfl, .inr (.of hb0), _, rfl, fun r0 hr0 => ⟨r0, 0, _, rfl, upd_same, ⟨by omega, by omega, by rw [e0]; omega, by rw [e0]; omega⟩, by rw [e0]; omega, fun l hl => ?_⟩⟩
    rw [e0] at hl ⊢
    have ek : ((k : Int) - 0).toNat = k := by omega
    rw [ek] at *
    refine ⟨(by show 1 ≤ sizeLine; decide), fun F0 hF0 => ?_⟩
    have s1 : Same H (upd H r0 (.rng 0 (k : Int))) := Same.upd hr0
    have s2 := s1.trans (Same.upd (o := .tup ((rngI 0 k).map V.int)) hl)
    have s3 := s2.trans (Same.upd (o := .lst [.ref l]) hF0)
    have nF : H F0 = none := s2.free hF0
    have el : (rngI 0 k).map V.int = (List.range k).map nV := by
      unfold rngI
      rw [List.map_map]
      refine List.map_congr_left fun i _ => ?_
      show V.int (0 + (i : Int)) = nV i
      rw [Int.zero_add]
      rfl
    have R1 : TupsAt (upd (upd (upd H r0 (.rng 0 (k : Int))) l (.tup ((rngI 0 k).map V.int))) F0 (.lst [.ref l])) F0 [l] [List.range k] := by
      refine ⟨upd_same, rfl, fun i b hb => ?_⟩
      cases i with
      | zero =>
        cases hb
        rw [upd_ne (fun z => by rw [← z, upd_same] at hF0; cases hF0), upd_same, el]
        rfl
      | succ i => cases hb
    have g0 : ∀ y ∈ [List.range k], Gk k y := fun y hy => by
      rw [List.mem_singleton.mp hy]
      exact ⟨List.length_range, fun x hx => List.mem_range.mp hx⟩
    refine tw_intro (fun m σ' H' => ∃ (at' : Nat) (bs : List Addr) (yss : List (List Nat)) (v3 v4 : Option V), σ' = [some (.ref pl), some (.ref F0), some (.int at'), v3, v4, none, none, none] ∧ Same H H' ∧ TupsAt H' F0 bs yss ∧ (∀ y ∈ yss, Gk k y) ∧ m + at' = 61 ∧ bfs ps m at' yss = fd0)
      (fun σ' H' => ∃ (at' : Nat) (bs : List Addr) (v3 v4 : Option V), σ' = [some (.ref pl), some (.ref F0), some (.int at'), v3, v4, none, none, none] ∧ Same H H' ∧ TupsAt H' F0 bs fd0 ∧ (∀ y ∈ fd0, Gk k y)) ?hend ⟨61, 0, _, _, _, _, rfl, s3, R1, g0, rfl, B.fin⟩ ?turn
    case turn =>
      rintro hend m σ' H' ⟨at', bs, yss, v3, v4, rfl, sm, R, gd, hm, hb⟩
      have bl : (bs.map V.ref).length = yss.length := by rw [List.length_map, R.2.1]
      refine ⟨_, rfl, _, rfl, F0, _, rfl, .inl (.of R.1), _, _, rfl, rfl, _, rfl, ?_⟩
      rw [bl]
      refine ite2 (fun h1 => ?_) (fun h1 => ?_)
      · have hat : at' < yss.length := by
          have := of_decide_eq_true h1
          omega
        cases m with
        | zero =>
          have hb : yss = fd0 := hb
          rw [hb] at hat
          omega
        | succ m =>
          rw [bfs, if_pos hat] at hb
          have hlen : (stepP (yss.getD at' []) ps yss).length ≤ 60 := by
            have := bfs_len ps m (at' + 1) (stepP (yss.getD at' []) ps yss)
            rw [hb] at this
            omega
          have gcur : Gk k (yss.getD at' []) := gd _ (memL hat)
          generalize hcur : yss.getD at' [] = cur at *
          have pll : (prs.map V.ref).length = ps.length := by rw [List.length_map, R0.2.1]
          refine ⟨_, fun _ _ z => z, _, rfl, pl, rfl, ⟨_, .of (sm _ _ R0.1)⟩, ?_⟩
          refine for_seq (H0 := H) (seq_lst (K := K) (.of R0.1)) (fun i τ HH => ∃ (bs' : List Addr) (w3 w4 : Option V), τ = [some (.ref pl), some (.ref F0), some (.int at'), w3, w4, none, none, none] ∧ Same H HH ∧ TupsAt HH F0 bs' (stepP cur (ps.take i) yss) ∧ (∀ y ∈ stepP cur (ps.take i) yss, Gk k y))
            ⟨bs, v3, v4, rfl, sm, R, gd⟩ (fun i τ HH h => h.choose_spec.choose_spec.choose_spec.2.1) ?_ ?_
          · rintro i y τ HH hy ⟨bs', w3, w4, rfl, sH, R', gd'⟩
            obtain ⟨b, rfl, hi, hb0'⟩ := R0.ref hy
            have hbH := sH _ _ hb0'
            have gg : Gk k (ps.getD i []) := gps _ (memL hi)
            have pi : ps[i]? = some (ps.getD i []) := getL hi
            generalize ps.getD i [] = gp at *
            have hcl : (stepP cur (ps.take i) yss).length ≤ 60 := Nat.le_trans (stepP_more cur ps yss i) hlen
            have hat2 : at' < (stepP cur (ps.take i) yss).length := Nat.lt_of_lt_of_le hat (stepP_len cur _ yss)
            have ecur : (stepP cur (ps.take i) yss).getD at' [] = cur := by rw [stepP_at cur _ _ hat, hcur]
            have est := stepP_take cur (fd := yss) pi
            generalize stepP cur (ps.take i) yss = zs at *
            have gl := gg.1
            have cl := gcur.1
            refine ⟨_, rfl, b, rfl, ⟨_, .of hbH⟩, ?_⟩
            refine comp_map (seq_tup (.of hbH)) [some (.ref F0), some (.int at')] rfl (fAft cur) (by rw [List.length_map, gl]; omega) (fun j x HC hx sC R'' g2 => ?_) (fun D HD nD sD hD => ?_)
            · obtain ⟨c, hc, rfl⟩ := nV_get hx
              have hck : c < k := gg.2 c (List.mem_of_getElem? hc)
              obtain ⟨bC, _, hatC, hbC⟩ := (R'.mono sC).get hat2
              rw [ecur] at hbC
              refine ⟨_, rfl, _, rfl, F0, _, _, _, rfl, rfl, .of (sC _ _ R'.1), hatC, _, rfl, bC, _, _, _, rfl, rfl, .of hbC, nv_at (by omega), ?_⟩
              have := g2 HC (Same.refl _)
              have e : fAft cur (.int (c : Nat)) = nV (cur.getD c 0) := by
                show nV (cur.getD (c : Int).toNat 0) = _
                rw [Int.toNat_natCast]
              rw [e] at this
              exact this
            · rw [fAft_map] at hD
              refine ⟨D, _, rfl, .inl ⟨.of hD, fun tp ntp => ?_⟩⟩
              have sE := sD.trans (Same.upd (o := .tup ((aft cur gp).map nV)) ntp)
              have hE : upd HD tp (.tup ((aft cur gp).map nV)) tp = some (.tup ((aft cur gp).map nV)) := upd_same
              generalize upd HD tp (.tup ((aft cur gp).map nV)) = HE at sE hE ⊢
              have RE := R'.mono sE
              have go : Gk k (aft cur gp) := aft_good gcur gg
              have ey : (zs.map fun ns => PyData.tuple ((nI ns).map PyData.int)) = (zs.map nI).map fun ns => PyData.tuple (ns.map PyData.int) := by rw [List.map_map]; rfl
              refine ⟨_, rfl, _, rfl, F0, _, (zs.map fun ns => PyData.tuple ((nI ns).map PyData.int)), .tuple ((nI (aft cur gp)).map PyData.int), rfl, .inl (.of RE.1), rd_tupN _ _ RE.2.1 RE.2.2, .tup (.of (by rw [nI_V]; exact hE)) (RdDs.ints _), by rw [ey]; exact canLay_tups _, canLay_tup _, depth_tup _, _, rfl, ?_⟩
              rw [if_pos rfl, any_contains]
              have zl := RE.2.1
              refine ite2 (fun h2 => ?_) (fun h2 => ?_)
              · have h2 : zs.contains (aft cur gp) = false := by simpa using h2
                have e3 : addP zs (aft cur gp) = zs ++ [aft cur gp] := by
                  unfold addP
                  rw [if_neg (by rw [h2]; decide)]
                refine ⟨_, rfl, .inl ⟨rfl, _, .of RE.1⟩, _, rfl, F0, _, _, rfl, rfl, RE.1, by rw [List.length_map]; omega, ?_⟩
                refine ⟨bs' ++ [tp], _, _, rfl, (sH.trans sE).updr nF, ?_, ?_⟩
                · rw [est, e3]; exact RE.push hE
                · rw [est]; exact addP_good gd' go
              · have h2 : zs.contains (aft cur gp) = true := by simpa using h2
                have e3 : addP zs (aft cur gp) = zs := by
                  unfold addP
                  rw [if_pos h2]
                exact ⟨bs', _, _, rfl, sH.trans sE, by rw [est, e3]; exact RE, by rw [est, e3]; exact gd'⟩
          · rintro τ HH ⟨bs', w3, w4, rfl, sH, R', gd'⟩
            rw [pll, List.take_length] at R' gd'
            exact ⟨_, rfl, _, _, rfl, rfl, m, by omega, at' + 1, bs', _, w3, w4, rfl, sH, R', gd', by omega, hb⟩
      · have hat : ¬ at' < yss.length := fun z => h1 (decide_eq_true (by omega))
        have e : yss = fd0 := by
          cases m with
          | zero => exact hb
          | succ m => rw [bfs, if_neg hat] at hb; exact hb
        subst e
        exact hend _ _ ⟨at', bs, v3, v4, rfl, sm, R, gd⟩
    case hend =>
      rintro σ' H1 ⟨at', bs, v3, v4, rfl, sm, R, gd⟩
      have bl := R.2.1
      have n2 := B.n2
      refine ⟨_, rfl, F0, bs, fd0.map nI, p, rfl, R.1, by rw [List.length_map]; exact bl, by omega, by omega, fun i a hi => ?_, by rw [bl]; exact B.run, B.ps64, by rw [bl]; exact B.plt, fun D nD => ?_⟩
      · have hif : i < fd0.length := by rw [← bl]; exact (List.getElem?_eq_some_iff.mp hi).1
        refine ⟨nI (fd0.getD i []), by rw [List.getElem?_map, getL hif]; rfl, fun z => ?_, by rw [nI_V]; exact R.2.2 i a hi⟩
        have h1 := (gd _ (memL hif)).1
        have h2 := congrArg List.length z
        unfold nI at h2
        rw [List.length_map, h1] at h2
        simp at h2
        omega
      have R2 := R.sort nD B.plt
      have s2 := sm.trans (Same.upd (o := .lst ((p.toList.map fun i => bs.getD i 0).map V.ref)) nD)
      generalize upd H1 D (.lst ((p.toList.map fun i => bs.getD i 0).map V.ref)) = H2 at R2 s2 ⊢
      generalize (p.toList.map fun i => bs.getD i 0) = cs at R2 ⊢
      have gsrt : ∀ y ∈ srtP p fd0, Gk k y := fun y hy => by
        obtain ⟨i, hi, rfl⟩ := List.mem_map.mp hy
        exact gd _ (memL (B.plt i hi))
      have inS := B.inS
      have tab := B.tab
      have sl : (srtP p fd0).length ≤ 64 := by
        unfold srtP
        rw [List.length_map, Array.length_toList]
        exact B.ps64
      generalize srtP p fd0 = srt at *
      have cl := R2.2.1
      refine ⟨(by show 0 ≤ sizeLine; decide), fun L nL => ?_⟩
      have s3 := Same.upd (H := H2) (o := .lst []) nL
      refine ⟨_, rfl, D, rfl, ⟨_, .of (s3 _ _ R2.1)⟩, ?_⟩
      refine for_seq (H0 := H2) (seq_lst (K := K) (.of R2.1)) (fun i τ HH => ∃ (rs : List Addr) (w4 w6 w7 : Option V), τ = [some (.ref pl), some (.ref D), some (.int at'), v3, w4, some (.ref L), w6, w7] ∧ Same H2 HH ∧ RowsAt HH L rs (fun i => srt.map fun b => srt.findIdx (· == aft (srt.getD i []) b)) ∧ rs.length = i)
        ⟨[], _, _, _, rfl, s3, ⟨upd_same, fun i r hr => by cases hr⟩, rfl⟩ (fun i τ HH h => h.choose_spec.choose_spec.choose_spec.choose_spec.2.1) ?_ ?_
      · rintro i y τ HH hy ⟨rs, w4, w6, w7, rfl, sH, RR, rl⟩
        obtain ⟨a, rfl, hi, ha⟩ := R2.ref hy
        have ga := gsrt _ (memL hi)
        have ma := memL hi
        refine ⟨(by show 0 ≤ sizeLine; decide), fun l nl => ?_⟩
        have s4 := Same.upd (H := HH) (o := .lst []) nl
        refine ⟨_, rfl, D, rfl, ⟨_, .of (s4 _ _ (sH _ _ R2.1))⟩, ?_⟩
        refine for_seq (H0 := HH) (seq_lst (K := K) (.of (sH _ _ R2.1))) (fun j τ HI => ∃ (w4 : Option V), τ = [some (.ref pl), some (.ref D), some (.int at'), v3, w4, some (.ref L), some (.ref a), some (.ref l)] ∧ Same HH HI ∧ HI l = some (.lst (((srt.take j).map fun b => srt.findIdx (· == aft (srt.getD i []) b)).map nV)))
          ⟨_, rfl, s4, upd_same⟩ (fun j τ HI h => h.choose_spec.2.1) ?_ ?_
        · rintro j y τ HI hy ⟨w4', rfl, sI, hl⟩
          obtain ⟨b, rfl, hj, hb⟩ := R2.ref hy
          have gb := gsrt _ (memL hj)
          have mb := memL hj
          have ej : srt[j]? = some (srt.getD j []) := getL hj
          have mo := inS _ ma _ mb
          generalize srt.getD j [] = Bb at *
          generalize hA : srt.getD i [] = Aa at *
          have sHI := sH.trans sI
          have hbI := sHI _ _ hb
          have haI := sHI _ _ ha
          have gbl := gb.1
          have gal := ga.1
          refine ⟨_, rfl, .inl ⟨rfl, _, .of hl⟩, _, rfl, .inl ⟨rfl, _, .of (sHI _ _ R2.1)⟩, _, rfl, b, rfl, ⟨_, .of hbI⟩, ?_⟩
          refine comp_map (seq_tup (.of hbI)) [some (.ref a)] rfl (fAft Aa) (by rw [List.length_map, gbl]; omega) (fun j' x HC hx sC R'' g2 => ?_) (fun D' HD nD' sD hD => ?_)
          · obtain ⟨c, hc, rfl⟩ := nV_get hx
            have hck : c < k := gb.2 c (List.mem_of_getElem? hc)
            refine ⟨_, rfl, _, rfl, a, _, _, _, rfl, rfl, .of (sC _ _ haI), nv_at (by omega), ?_⟩
            have := g2 HC (Same.refl _)
            have e : fAft Aa (.int (c : Nat)) = nV (Aa.getD c 0) := by
              show nV (Aa.getD (c : Int).toNat 0) = _
              rw [Int.toNat_natCast]
            rw [e] at this
            exact this
          · rw [fAft_map] at hD
            refine ⟨D', _, rfl, .inl ⟨.of hD, fun tp ntp => ?_⟩⟩
            have sE := sD.trans (Same.upd (o := .tup ((aft Aa Bb).map nV)) ntp)
            have hE : upd HD tp (.tup ((aft Aa Bb).map nV)) tp = some (.tup ((aft Aa Bb).map nV)) := upd_same
            generalize upd HD tp (.tup ((aft Aa Bb).map nV)) = HE at sE hE ⊢
            have RE := R2.mono (sHI.trans sE)
            have ey : (srt.map fun ns => PyData.tuple ((nI ns).map PyData.int)) = (srt.map nI).map fun ns => PyData.tuple (ns.map PyData.int) := by rw [List.map_map]; rfl
            have fl : srt.findIdx (· == aft Aa Bb) < srt.length := List.findIdx_lt_length.mpr ⟨_, mo, by simp⟩
            refine ⟨D, _, (srt.map fun ns => PyData.tuple ((nI ns).map PyData.int)), .tuple ((nI (aft Aa Bb)).map PyData.int), _, srt.findIdx (· == aft Aa Bb), rfl, rfl, RE.1, rd_tupN _ _ RE.2.1 RE.2.2, .tup (.of (by rw [nI_V]; exact hE)) (RdDs.ints _), by rw [ey]; exact canLay_tups _, canLay_tup _, depth_tup _, by rw [List.length_map]; exact fl, fun d hd => ?_, fun m d hm hd => ?_, ?_⟩
            · rw [List.getElem?_map, List.getElem?_eq_getElem fl] at hd
              cases hd
              rw [eqvTN]
              exact decide_eq_true (eq_of_beq (List.findIdx_getElem (p := (· == aft Aa Bb)) (w := fl)))
            · have hm' : m < srt.length := by omega
              rw [List.getElem?_map, List.getElem?_eq_getElem hm'] at hd
              cases hd
              rw [eqvTN]
              have hne := List.not_of_lt_findIdx (p := (· == aft Aa Bb)) (xs := srt) hm
              exact decide_eq_false (beq_eq_false_iff_ne.mp (by simpa using hne))
            · refine ⟨l, _, _, rfl, rfl, sE _ _ hl, ?_, ?_⟩
              · rw [List.length_map, List.length_map, List.length_take]; omega
              · refine ⟨_, rfl, (sI.trans sE).updr nl, ?_⟩
                rw [upd_same, List.take_add_one, ej, List.map_append, List.map_append]
                rfl
        · rintro τ HI ⟨w4', rfl, sI, hl⟩
          rw [List.length_map, cl, List.take_length] at hl
          have R3 := RR.mono sI
          refine ⟨_, rfl, .inl ⟨rfl, _, .of R3.1⟩, _, rfl, l, _, rfl, .of hl, fun tr H4 nt s5 hz => ?_⟩
          have R4 := R3.mono s5
          refine ⟨L, _, _, rfl, rfl, R4.1, by rw [List.length_map]; omega, ?_⟩
          exact ⟨rs ++ [tr], _, _, _, rfl, ((sH.trans sI).trans s5).updr nL, R4.push (by rw [rl]; exact hz), by rw [List.length_append, List.length_singleton, rl]⟩
      · rintro τ HH ⟨rs, w4, w6, w7, rfl, sH, RR, rl⟩
        rw [List.length_map, cl] at rl
        refine ⟨_, rfl, L, _, rfl, .inl ⟨.of RR.1, fun gg ngg => ?_⟩⟩
        have GG := GT_of RR rl (Same.upd ngg) upd_same
        have er : ((List.range srt.length).map fun i => srt.map fun b => srt.findIdx (· == aft (srt.getD i []) b)) = t := by
          rw [← tab]
          unfold tabP
          refine List.ext_getElem? fun i => ?_
          rw [List.getElem?_map, List.getElem?_map]
          by_cases hi : i < srt.length
          · rw [List.getElem?_range hi, getL hi]
            rfl
          · rw [List.getElem?_eq_none (by rw [List.length_range]; omega), List.getElem?_eq_none (by omega)]
            rfl
        rw [er] at GG
        exact q gg _ ((s2.trans sH).trans (Same.upd ngg)) GG
end
end C7

set_option maxHeartbeats 4000000
namespace L2
open PySem PySem.Spec PyProof.Rows
theorem g3 (K : PySem.W.Frag) (i j l : Nat) {X : Cx} {x y z : Str} {k} {px py pz pos : Pos} (hc : X.calm = true) (hx : PG X (.Name x px) (gName i)) (hy : PG X (.Name y py) (gName j)) (hz : PG X (.Name z pz) (gName l)) (hK : X.K = K := by rfl)
    (hn : (assignEach [.Name x px, .Name y py, .Name z pz] X.env).length = 3 := by rfl) (hst : (assignEach [.Name x px, .Name y py, .Name z pz] X.env).findIdx? (·.1) = none := by rfl) :
    PG X (.Tuple [.Name x px, .Name y py, .Name z pz] k pos) (gTup K 3 (gCons (gName i) (gCons (gName j) (gCons (gName l) gNil)))) := hK ▸ pg_tup hc (pgs_cons hx (pgs_cons hy (pgs_cons hz pgs_nil))) hn hst
end L2
namespace C7
open PySem L2 PySem.Spec PyProof.Rows
open Tb
/-! ### written lists of tuples of numbers -/
def nestN : List (List Nat) → Hp → (List V → Hp → Prop) → Prop
  | [], H, Q => Q [] H
  | x :: r, H, Q => (x.map nV).length ≤ sizeLine ∧ ∀ p, H p = none → nestN r (upd H p (.tup (x.map nV))) fun vs H2 => Q (.ref p :: vs) H2
theorem nestN_intro : ∀ (xss : List (List Nat)) (H : Hp) (Q : List V → Hp → Prop), (∀ x ∈ xss, x.length ≤ 1000) →
    (∀ (bs : List Addr) (H' : Hp), Same H H' → bs.length = xss.length → (∀ (i : Nat) b, bs[i]? = some b → H' b = some (.tup ((xss.getD i []).map nV))) → Q (bs.map V.ref) H') → nestN xss H Q
  | [], H, Q, _, q => q [] H (Same.refl _) rfl fun i b hb => by cases hb
  | x :: r, H, Q, hl, q => by
    have sz : (16777216 : Nat) = sizeLine := by decide
    refine ⟨?_, fun p hp => nestN_intro r _ _ (fun y hy => hl y (List.mem_cons_of_mem _ hy)) fun bs H' s' hb hi => ?_⟩
    · have := hl x List.mem_cons_self
      rw [List.length_map]
      omega
    · refine q (p :: bs) H' ((Same.upd hp).trans s') (by rw [List.length_cons, List.length_cons, hb]) fun i b hib => ?_
      cases i with
      | zero =>
        cases hib
        exact s' _ _ upd_same
      | succ i => exact hi i b hib
def nestL : List (List (List Nat)) → Hp → (List V → Hp → Prop) → Prop
  | [], H, Q => Q [] H
  | xss :: r, H, Q => nestN xss H fun vs H1 => vs.length ≤ sizeLine ∧ ∀ p, H1 p = none → nestL r (upd H1 p (.lst vs)) fun us H2 => Q (.ref p :: us) H2
theorem nestL_intro : ∀ (xsss : List (List (List Nat))) (H : Hp) (Q : List V → Hp → Prop), (∀ xss ∈ xsss, xss.length ≤ 1000 ∧ ∀ x ∈ xss, x.length ≤ 1000) →
    (∀ (ls : List Addr) (H' : Hp), Same H H' → ls.length = xsss.length → (∀ (i : Nat) l, ls[i]? = some l → H l = none ∧ ∃ bs, TupsAt H' l bs (xsss.getD i [])) → Q (ls.map V.ref) H') → nestL xsss H Q
  | [], H, Q, _, q => q [] H (Same.refl _) rfl fun i b hb => by cases hb
  | xss :: r, H, Q, hl, q => by
    have sz : (16777216 : Nat) = sizeLine := by decide
    obtain ⟨h1, h2⟩ := hl xss List.mem_cons_self
    refine nestN_intro xss H _ h2 fun bs H1 s1 hb hi => ⟨by rw [List.length_map]; omega, fun p hp => nestL_intro r _ _ (fun y hy => hl y (List.mem_cons_of_mem _ hy)) fun ls H' s' hls hi' => ?_⟩
    have s2 := s1.trans (Same.upd (o := .lst (bs.map V.ref)) hp)
    refine q (p :: ls) H' (s2.trans s') (by rw [List.length_cons, List.length_cons, hls]) fun i l hil => ?_
    cases i with
    | zero =>
      cases hil
      refine ⟨s1.free hp, bs, TupsAt.mono s' ⟨upd_same, hb, fun i b hib => ?_⟩⟩
      exact Same.upd (o := .lst (bs.map V.ref)) hp _ _ (hi i b hib)
    | succ i =>
      obtain ⟨h3, h4⟩ := hi' i l hil
      exact ⟨s2.free h3, h4⟩
section
variable {X : Cx}
def teT (x : List Nat) : TE := fun _ H Q => (x.map nV).length ≤ sizeLine ∧ ∀ p, H p = none → Q (.ref p) (upd H p (.tup (x.map nV)))
theorem pe_tupN (x : List Nat) {es : List Expr} {t : TA} {x1} {pos : Pos} (h : PA X es t) (e : t = fun _ H Q => Q (x.map nV) H) : PE X (.Tuple es x1 pos) (teT x) := by
  subst e
  exact pe_tup h
def taN (xss : List (List Nat)) : TA := fun _ H Q => nestN xss H Q
theorem pan_nil : PA X [] (taN []) := pa_nil
theorem pan {e : Expr} {es : List Expr} {x : List Nat} {xss : List (List Nat)} (h : PE X e (teT x)) (r : PA X es (taN xss)) (hs : noStar e = true := by rfl) : PA X (e :: es) (taN (x :: xss)) := pc h r hs
def teL (xss : List (List Nat)) : TE := fun _ H Q => nestN xss H fun vs H1 => vs.length ≤ sizeLine ∧ ∀ p, H1 p = none → Q (.ref p) (upd H1 p (.lst vs))
theorem pe_lstN {es : List Expr} {xss : List (List Nat)} {pos : Pos} (h : PA X es (taN xss)) : PE X (.List es pos) (teL xss) := pe_lst h
def taL (xsss : List (List (List Nat))) : TA := fun _ H Q => nestL xsss H Q
theorem pal_nil : PA X [] (taL []) := pa_nil
theorem pal {e : Expr} {es : List Expr} {xss : List (List Nat)} {xsss : List (List (List Nat))} (h : PE X e (teL xss)) (r : PA X es (taL xsss)) (hs : noStar e = true := by rfl) : PA X (e :: es) (taL (xss :: xsss)) := pc h r hs
/-! the same behind a wall: what is written of lists and tuples alone would else be run while it is read -/
structure QE (X : Cx) (e : Expr) (t : TE) : Prop where
  h : PE X e t
structure QA (X : Cx) (es : List Expr) (t : TA) : Prop where
  h : PA X es t
structure QS (X : Cx) (st : Stmt) (t : TS) : Prop where
  h : PS X st t
structure QSs (X : Cx) (sts : List Stmt) (t : TS) : Prop where
  h : PSs X sts t
theorem qi {i : Int} {j} {pos : Pos} : QE X (.Constant (.int i) j pos) (tC (.int i)) := ⟨pe_int⟩
theorem qa_nil : QA X [] tNil := ⟨pa_nil⟩
theorem qa {e : Expr} {es : List Expr} {te : TE} {t : TA} (h : QE X e te) (r : QA X es t) (hs : noStar e = true := by rfl) : QA X (e :: es) (tCons te t) := ⟨pc h.h r.h hs⟩
theorem qtupN (x : List Nat) {es : List Expr} {t : TA} {x1} {pos : Pos} (h : QA X es t) (e : t = fun _ H Q => Q (x.map nV) H) : QE X (.Tuple es x1 pos) (teT x) := ⟨pe_tupN x h.h e⟩
theorem qan_nil : QA X [] (taN []) := ⟨pan_nil⟩
theorem qan {e : Expr} {es : List Expr} {x : List Nat} {xss : List (List Nat)} (h : QE X e (teT x)) (r : QA X es (taN xss)) (hs : noStar e = true := by rfl) : QA X (e :: es) (taN (x :: xss)) := ⟨pan h.h r.h hs⟩
theorem qlstN {es : List Expr} {xss : List (List Nat)} {pos : Pos} (h : QA X es (taN xss)) : QE X (.List es pos) (teL xss) := ⟨pe_lstN h.h⟩
theorem qal_nil : QA X [] (taL []) := ⟨pal_nil⟩
theorem qal {e : Expr} {es : List Expr} {xss : List (List Nat)} {xsss : List (List (List Nat))} (h : QE X e (teL xss)) (r : QA X es (taL xsss)) (hs : noStar e = true := by rfl) : QA X (e :: es) (taL (xss :: xsss)) := ⟨pal h.h r.h hs⟩
theorem qlst {es : List Expr} {t : TA} {pos : Pos} (h : QA X es t) : QE X (.List es pos) (tLst t) := ⟨pe_lst h.h⟩
theorem q_set (i : Nat) {x : Str} {e : Expr} {te : TE} {pos pos' : Pos} (hf : X.fn x = true) (he : QE X e te) (hi : X.N[i]? = some x := by rfl) (hN : nodupS X.N = true := by kernel_rfl) (hx : isLoc X.env.scope x = true := by kernel_rfl)
    (hs : swapsWith e (some (.Name x pos')) pos.line X.env = pure false := by rfl) : QS X (.Assign [.Name x pos'] e pos) (tAsg te (gName i)) := ⟨sset i hf he.h hi hN hx hs⟩
theorem q_cons {st : Stmt} {rest : List Stmt} {t u : TS} (h1 : QS X st t) (h2 : QSs X rest u) : QSs X (st :: rest) (tSeq t u) := ⟨pss_cons h1.h h2.h⟩
theorem q_if {c : Expr} {a b : List Stmt} {tc : TT} {t u : TS} {pos : Pos} (hc : PT X c tc) (ha : QSs X a t) (hb : PSs X b u) : PS X (.If c a b pos) (tIfS tc t u) := ps_if hc ha.h hb
theorem q_ix {r : R2} {a b : Expr} {ta tb : TE} {pos : Pos} (hr : IxR X r) (ha : QE X a ta) (hb : PE X b tb) (hs : PlainIx b) : QE X (.Subscript a b pos) (tOp r ta tb) := ⟨pe_ix hr ha.h hb hs⟩
theorem QSs.out {sts : List Stmt} {t : TS} (h : QSs X sts t) : PSs X sts t := h.h
theorem q_op {op : Operator} {r : R2} {a b : Expr} {ta tb : TE} {pos : Pos} (ho : OpR X (binaryOp op) r) (ha : PE X a ta) (hb : QE X b tb) : PE X (.BinOp a op b pos) (tOp r ta tb) := pe_op ho ha hb.h
theorem seq_asg {te : TE} {g : TG} {u : TS} {D : Ends} {σ : L2.St} {H : Hp} (h : te σ H fun x H1 => g x σ H1 (u D)) : tSeq (tAsg te g) u D σ H := h
theorem op_first {r : R2} {ta tb : TE} {σ : L2.St} {H : Hp} {Q : VK} (h : ta σ H fun x H1 => tb σ H1 fun y H2 => r x y H2 Q) : tOp r ta tb σ H Q := h
theorem tL_intro (xsss : List (List (List Nat))) {σ : L2.St} {H : Hp} {Q : VK} (hl : ∀ xss ∈ xsss, xss.length ≤ 1000 ∧ ∀ x ∈ xss, x.length ≤ 1000) (hk : xsss.length ≤ 1000)
    (q : ∀ (ls : List Addr) (H' : Hp), Same H H' → ls.length = xsss.length → (∀ (i : Nat) l, ls[i]? = some l → H l = none ∧ ∃ bs, TupsAt H' l bs (xsss.getD i [])) → ∀ S, H' S = none → Q (.ref S) (upd H' S (.lst (ls.map V.ref)))) : tLst (taL xsss) σ H Q := by
  have sz : (16777216 : Nat) = sizeLine := by decide
  exact nestL_intro xsss H _ hl fun ls H' s' h1 h2 => ⟨by rw [List.length_map]; omega, q ls H' s' h1 h2⟩
theorem tN_intro (xss : List (List Nat)) {σ : L2.St} {H : Hp} {Q : VK} (hl : ∀ x ∈ xss, x.length ≤ 1000) (hk : xss.length ≤ 1000)
    (q : ∀ (bs : List Addr) (H' : Hp), Same H H' → bs.length = xss.length → (∀ (i : Nat) b, bs[i]? = some b → H' b = some (.tup ((xss.getD i []).map nV))) → ∀ S, H' S = none → Q (.ref S) (upd H' S (.lst (bs.map V.ref)))) : teL xss σ H Q := by
  have sz : (16777216 : Nat) = sizeLine := by decide
  exact nestN_intro xss H _ hl fun bs H' s' h1 h2 => ⟨by rw [List.length_map]; omega, q bs H' s' h1 h2⟩
end
/-! ### the four groups by perms -/
theorem inS_of {srt : List (List Nat)} (Pt : PW (tabP srt)) : ∀ a ∈ srt, ∀ b ∈ srt, aft a b ∈ srt := by
  intro a ha b hb
  obtain ⟨i, hi⟩ := List.getElem?_of_mem ha
  obtain ⟨j, hj⟩ := List.getElem?_of_mem hb
  have hl : (tabP srt).length = srt.length := by unfold tabP; rw [List.length_map]
  have il := (List.getElem?_eq_some_iff.mp hi).1
  have jl := (List.getElem?_eq_some_iff.mp hj).1
  have h := Pt.lt i j (by rw [hl]; exact il) (by rw [hl]; exact jl)
  have e : mul (tabP srt) i j = srt.findIdx (· == aft a b) := by
    unfold mul tabP
    rw [List.getD_eq_getElem?_getD, List.getD_eq_getElem?_getD, List.getElem?_map, hi]
    show (Option.getD (srt.map _)[j]? 0) = _
    rw [List.getElem?_map, hj]
    rfl
  rw [e, hl] at h
  obtain ⟨x, hx, hx2⟩ := List.findIdx_lt_length.mp h
  rw [← eq_of_beq hx2]
  exact hx
def tL0 : List (List Nat) := tabP (srtP pL0.toArray fdL0)
def tL1 : List (List Nat) := tabP (srtP pL1.toArray fdL1)
def tL2 : List (List Nat) := tabP (srtP pL2.toArray fdL2)
def tL3 : List (List Nat) := tabP (srtP pL3.toArray fdL3)
theorem ptL0 : PW tL0 := pwC_of tab0
theorem ptL1 : PW tL1 := pwC_of tab1
theorem ptL2 : PW tL2 := pwC_of tab2
theorem ptL3 : PW tL3 := pwC_of tab3
theorem bp0 : ByP 4 psL0 fdL0 pL0.toArray tL0 := ⟨by decide, by decide, by decide, by decide, by decide +kernel, fin0, by decide +kernel, by decide +kernel, run0, by decide +kernel, by decide +kernel, rfl, inS_of ptL0⟩
theorem bp1 : ByP 4 psL1 fdL1 pL1.toArray tL1 := ⟨by decide, by decide, by decide, by decide, by decide +kernel, fin1, by decide +kernel, by decide +kernel, run1, by decide +kernel, by decide +kernel, rfl, inS_of ptL1⟩
theorem bp2 : ByP 3 psL2 fdL2 pL2.toArray tL2 := ⟨by decide, by decide, by decide, by decide, by decide +kernel, fin2, by decide +kernel, by decide +kernel, run2, by decide +kernel, by decide +kernel, rfl, inS_of ptL2⟩
theorem bp3 : ByP 5 psL3 fdL3 pL3.toArray tL3 := ⟨by decide, by decide, by decide, by decide, by decide +kernel, fin3, by decide +kernel, by decide +kernel, run3, by decide +kernel, by decide +kernel, rfl, inS_of ptL3⟩
theorem TupsAt.dr {H H' : Hp} {p L : Addr} {bs : List Addr} {yss : List (List Nat)} (F : Feed H p) (d : Dr p H H') (hL : L ≠ p) (R : TupsAt H L bs yss) : TupsAt H' L bs yss := ⟨d.keep _ _ R.1 hL, R.2.1, fun i b hb => d.tup F (R.2.2 i b hb)⟩
/-! ### written triples -/
def tri7 : List (List Nat) := [[5, 4, 2], [7, 3, 2], [3, 4, 2], [8, 2, 3], [8, 2, 5], [4, 4, 3], [9, 3, 4]]
def tri6 : List (List Nat) := [[2, 1, 1], [3, 1, 1], [4, 1, 1], [5, 1, 1], [3, 2, 2], [4, 2, 3]]
def triB (x : List Nat) : Bool := decide (x.length = 3) && decide (1 ≤ x.getD 0 0) && decide (1 ≤ x.getD 1 0) && decide (x.getD 0 0 * x.getD 1 0 ≤ 60) && decide (x.getD 2 0 ≤ 60) && decide (x.getD 0 0 ≤ 60) && decide (x.getD 1 0 ≤ 60)
theorem tri7_ok : (tri7.all fun x => triB x && pwC (tw (x.getD 0 0) (x.getD 1 0) (x.getD 2 0))) = true := by decide +kernel
theorem tri6_ok : (tri6.all fun x => triB x && pwC (tw (x.getD 0 0) (x.getD 1 0) (x.getD 2 0)) && ((List.range 3).all fun i => pwC (pt (tw (i + 1) 1 1) (tw (x.getD 0 0) (x.getD 1 0) (x.getD 2 0))) && decide ((tw (i + 1) 1 1).length * (tw (x.getD 0 0) (x.getD 1 0) (x.getD 2 0)).length ≤ 60))) = true := by decide +kernel
theorem tri_of {x : List Nat} (h : triB x = true) : ∃ a b c, x = [a, b, c] ∧ x.getD 0 0 = a ∧ x.getD 1 0 = b ∧ x.getD 2 0 = c ∧ 1 ≤ a ∧ 1 ≤ b ∧ a * b ≤ 60 ∧ c ≤ 60 ∧ a ≤ 60 ∧ b ≤ 60 := by
  unfold triB at h
  simp only [Bool.and_eq_true, decide_eq_true_eq] at h
  obtain ⟨⟨⟨⟨⟨⟨h1, h2⟩, h3⟩, h4⟩, h5⟩, h6⟩, h7⟩ := h
  match x, h1 with
  | [a, b, c], _ => exact ⟨a, b, c, rfl, rfl, rfl, rfl, h2, h3, h4, h5, h6, h7⟩
theorem refs_at {bs : List Addr} {i : Nat} (h : i < bs.length) : ∃ b, bs[i]? = some b ∧ atI (bs.map V.ref) (i : Int) = some (.ref b) := ⟨_, List.getElem?_eq_getElem h, atI_nat (by rw [List.getElem?_map, List.getElem?_eq_getElem h]; rfl)⟩
section
variable {P : Program} {w : World} {K : PySem.W.Frag} {mg : Str → Option Value} {base : Heap}
theorem scOne : FnScope ["_law_feed_here", "_law_way", "_law_some", "_law_m", "_law_many", "_law_u", "_law_one", "_law_other"] ["_law_feed_here"] (defScope sOne) := ⟨rfl, rfl, rfl, by decide +kernel, rfl, by decide +kernel, by decide +kernel⟩
theorem ok_one {f : Addr} {fd : FuncData} (F : Fun K "_law_one_group" "_law_one_group" sOne f fd) (GD : Fn P w K mg base CX0 1 "_law_draw" ["_law_feed_here", "_law_many"] spDraw)
    (GT' : Fn P w K mg base CX0 1 "_law_twined" ["_law_m", "_law_many", "_law_u"] spTw) (GE : Fn P w K mg base CX0 1 "_law_eight" ["_law_m"] spEight) (GB : Fn P w K mg base CX0 1 "_law_by_perms" ["_law_perms"] spByP) (GP : Fn P w K mg base CX0 1 "_law_put" ["_law_one", "_law_other"] spPut) :
    FnOk P w K mg base CX0 2 f fd ["_law_feed_here"] spOne := by
  refine F.ok scOne (fun vs H Q E h => ?_) (fun cdv A outer s H vs Q E hr h => ?_)
  · obtain ⟨p, rfl, _⟩ := h; rfl
  · obtain ⟨p, rfl, F0, q⟩ := h
    refine ⟨_, pss_cons (sset 1 rfl (fnc GD hr pass0 (pc (vn 0) (pc pe_int pa_nil))))
      (pss_cons (ps_if (pt_cmpR op_eq (vn 1) pe_int (nomark _)) (pss_one (ps_ret (fnc GE hr pass0 (pc (pe_op op_add pe_int (fnc GD hr pass0 (pc (vn 0) (pc pe_int pa_nil)))) pa_nil)))) pss_nil)
      (pss_cons (q_if (pt_cmpR op_eq (vn 1) pe_int (nomark _))
        (q_cons (q_set 2 rfl (qlst (qal (qlstN (qan (qtupN [1, 0, 2, 3] (qa qi (qa qi (qa qi (qa qi qa_nil)))) (by rfl)) (qan (qtupN [1, 2, 3, 0] (qa qi (qa qi (qa qi (qa qi qa_nil)))) (by rfl)) qan_nil))) (qal (qlstN (qan (qtupN [1, 2, 0, 3] (qa qi (qa qi (qa qi (qa qi qa_nil)))) (by rfl)) (qan (qtupN [1, 0, 3, 2] (qa qi (qa qi (qa qi (qa qi qa_nil)))) (by rfl)) qan_nil))) (qal (qlstN (qan (qtupN [1, 0, 2] (qa qi (qa qi (qa qi qa_nil))) (by rfl)) (qan (qtupN [1, 2, 0] (qa qi (qa qi (qa qi qa_nil))) (by rfl)) qan_nil))) qal_nil)))))
        ⟨pss_one (ps_ret (fnc GB hr pass0 (pc (pe_ix (ixL K) (q_op op_cat (vn 2) (qlst (qal (qlstN (qan (qtupN [1, 2, 3, 4, 0] (qa qi (qa qi (qa qi (qa qi (qa qi qa_nil))))) (by rfl)) (qan (qtupN [1, 2, 0, 3, 4] (qa qi (qa qi (qa qi (qa qi (qa qi qa_nil))))) (by rfl)) qan_nil))) qal_nil))) (fnc GD hr pass0 (pc (vn 0) (pc pe_int pa_nil))) (fun _ _ => rfl)) pa_nil)))⟩) pss_nil)
      (pss_cons (ps_if (pt_cmpR op_lt (vn 1) pe_int (nomark _)) (pss_one (ps_ret (fnc GT' hr pass0 (pc (pe_op op_add pe_int (fnc GD hr pass0 (pc (vn 0) (pc pe_int pa_nil)))) (pc pe_int (pc pe_int pa_nil)))))) pss_nil)
      (pss_cons (ps_if (pt_cmpR op_lt (vn 1) pe_int (nomark _))
        (pss_cons (sset 3 rfl (pe_op op_add pe_int (fnc GD hr pass0 (pc (vn 0) (pc pe_int pa_nil)))))
        (pss_one (ps_ret (fnc GT' hr pass0 (pc (vn 3) (pc pe_int (pc (pe_op op_sub (vn 3) pe_int) pa_nil))))))) pss_nil)
      (pss_cons (q_if (pt_cmpR op_lt (vn 1) pe_int (nomark _))
        (q_cons (q_set 2 rfl (qlstN (qan (qtupN [5, 4, 2] (qa qi (qa qi (qa qi qa_nil))) (by rfl)) (qan (qtupN [7, 3, 2] (qa qi (qa qi (qa qi qa_nil))) (by rfl)) (qan (qtupN [3, 4, 2] (qa qi (qa qi (qa qi qa_nil))) (by rfl)) (qan (qtupN [8, 2, 3] (qa qi (qa qi (qa qi qa_nil))) (by rfl)) (qan (qtupN [8, 2, 5] (qa qi (qa qi (qa qi qa_nil))) (by rfl)) (qan (qtupN [4, 4, 3] (qa qi (qa qi (qa qi qa_nil))) (by rfl)) (qan (qtupN [9, 3, 4] (qa qi (qa qi (qa qi qa_nil))) (by rfl)) qan_nil)))))))))
        ⟨pss_cons (ps_asg (pe_ix (ixL K) (vn 2) (fnc GD hr pass0 (pc (vn 0) (pc pe_int pa_nil))) (fun _ _ => rfl)) (g3 K 3 4 5 rfl (gn 3) (gn 4) (gn 5)))
        (pss_one (ps_ret (fnc GT' hr pass0 (pc (vn 3) (pc (vn 4) (pc (vn 5) pa_nil))))))⟩) pss_nil)
      (QSs.out (q_cons ⟨sset 6 rfl (fnc GT' hr pass0 (pc (pe_op op_add pe_int (fnc GD hr pass0 (pc (vn 0) (pc pe_int pa_nil)))) (pc pe_int (pc pe_int pa_nil))))⟩
      (q_cons (q_set 7 rfl (q_ix (ixL K) (qlstN (qan (qtupN [2, 1, 1] (qa qi (qa qi (qa qi qa_nil))) (by rfl)) (qan (qtupN [3, 1, 1] (qa qi (qa qi (qa qi qa_nil))) (by rfl)) (qan (qtupN [4, 1, 1] (qa qi (qa qi (qa qi qa_nil))) (by rfl)) (qan (qtupN [5, 1, 1] (qa qi (qa qi (qa qi qa_nil))) (by rfl)) (qan (qtupN [3, 2, 2] (qa qi (qa qi (qa qi qa_nil))) (by rfl)) (qan (qtupN [4, 2, 3] (qa qi (qa qi (qa qi qa_nil))) (by rfl)) qan_nil))))))) (fnc GD hr pass0 (pc (vn 0) (pc pe_int pa_nil))) (fun _ _ => rfl)))
      ⟨pss_one (ps_ret (fnc GP hr pass0 (pc (vn 6) (pc (fnc GT' hr pass0 (pc (pe_ix (ixT K) (vn 7) pe_int (fun _ _ => rfl)) (pc (pe_ix (ixT K) (vn 7) pe_int (fun _ _ => rfl)) (pc (pe_ix (ixT K) (vn 7) pe_int (fun _ _ => rfl)) pa_nil)))) pa_nil))))⟩)))))))), ?_⟩
    have sz : (16777216 : Nat) = sizeLine := by decide
    refine ⟨_, rfl, p, 12, rfl, F0, by decide, by decide +kernel, fun r H1 _ _ d1 => ?_⟩
    have F1 := d1.feed F0
    have np : ∀ {b : Addr}, H1 b = none → b ≠ p := fun {b} hb => F1.ne_none hb
    refine ⟨_, rfl, rfl, _, rfl, ite2 (fun _ => ?_) (fun _ => ?_)⟩
    · refine ⟨_, rfl, p, 4, rfl, F1, by decide, by decide +kernel, fun r2 H2 a0 a1 d2 => ?_⟩
      obtain ⟨j, rfl⟩ := Int.eq_ofNat_of_zero_le a0
      have hj : j < 4 := by omega
      refine ⟨_, _, rfl, rfl, j + 2, ?_, by omega, by omega, fun g H3 s3 G3 => q g _ H3 ((d1.trans d2).same s3) G3 (pwC_of (List.all_eq_true.mp pw_eg j (List.mem_range.mpr hj)))⟩
      show [V.int (2 + (j : Int))] = [V.int ((j + 2 : Nat) : Int)]
      rw [show (2 : Int) + (j : Int) = ((j + 2 : Nat) : Int) by omega]
    refine ⟨_, rfl, rfl, _, rfl, ite2 (fun _ => ?_) (fun _ => ?_)⟩
    · refine seq_asg (tL_intro [psL0, psL1, psL2] (by decide) (by decide) fun ls H2 s2 hl2 hi2 S hS => ⟨_, rfl, ?_⟩)
      have s3 := Same.upd (H := H2) (o := .lst (ls.map V.ref)) hS
      refine tL_intro [psL3] (by decide) (by decide) fun ls' H3 s4 hl3 hi3 S' hS' => ?_
      have s5 := Same.upd (H := H3) (o := .lst (ls'.map V.ref)) hS'
      refine ⟨S, S', _, _, rfl, rfl, s5 _ _ (s4 _ _ upd_same), upd_same, by rw [List.length_map, List.length_map, hl2, hl3]; decide, fun S2 hS2 => ?_⟩
      rw [← List.map_append]
      have s6 := Same.upd (o := .lst ((ls ++ ls').map V.ref)) hS2
      have sA := (((s2.trans s3).trans s4).trans s5).trans s6
      have nS2 : H1 S2 = none := (((s2.trans s3).trans s4).trans s5).free hS2
      have F2 := F1.mono sA
      refine ⟨_, rfl, p, 4, rfl, F2, by decide, by decide +kernel, fun r2 H4 a0 a1 d2 => ?_⟩
      obtain ⟨j, rfl⟩ := Int.eq_ofNat_of_zero_le a0
      have hj : j < 4 := by omega
      have e4 : H4 S2 = some (.lst ((ls ++ ls').map V.ref)) := d2.keep _ _ upd_same (np nS2)
      have hll : (ls ++ ls').length = 4 := by rw [List.length_append, hl2, hl3]; decide
      obtain ⟨l, hlj, hat⟩ := refs_at (bs := ls ++ ls') (i := j) (by omega)
      refine ⟨S2, _, _, _, rfl, rfl, .of e4, hat, ?_⟩
      have get1 : ∀ {i : Nat}, i < 3 → (ls ++ ls')[i]? = some l → ∃ bs, TupsAt H4 l bs ([psL0, psL1, psL2].getD i []) := fun {i} h1 h2 => by
        rw [List.getElem?_append_left (by rw [hl2]; exact h1)] at h2
        obtain ⟨u1, bs, u2⟩ := hi2 i l h2
        exact ⟨bs, (u2.mono (((s3.trans s4).trans s5).trans s6)).dr F2 d2 (np u1)⟩
      have hj4 : j = 0 ∨ j = 1 ∨ j = 2 ∨ j = 3 := by omega
      rcases hj4 with rfl | rfl | rfl | rfl
      · obtain ⟨bs, R⟩ := get1 (i := 0) (by decide) hlj
        exact ⟨l, bs, psL0, 4, _, _, _, rfl, R, bp0, fun g H5 s5' G => q g _ H5 (((d1.same sA).trans d2).same s5') G ptL0⟩
      · obtain ⟨bs, R⟩ := get1 (i := 1) (by decide) hlj
        exact ⟨l, bs, psL1, 4, _, _, _, rfl, R, bp1, fun g H5 s5' G => q g _ H5 (((d1.same sA).trans d2).same s5') G ptL1⟩
      · obtain ⟨bs, R⟩ := get1 (i := 2) (by decide) hlj
        exact ⟨l, bs, psL2, 3, _, _, _, rfl, R, bp2, fun g H5 s5' G => q g _ H5 (((d1.same sA).trans d2).same s5') G ptL2⟩
      · rw [List.getElem?_append_right (by rw [hl2]; decide), hl2] at hlj
        obtain ⟨u1, bs, u2⟩ := hi3 0 l hlj
        have R := (u2.mono (s5.trans s6)).dr F2 d2 (np ((s2.trans s3).free u1))
        exact ⟨l, bs, psL3, 5, _, _, _, rfl, R, bp3, fun g H5 s5' G => q g _ H5 (((d1.same sA).trans d2).same s5') G ptL3⟩
    refine ⟨_, rfl, _, _, rfl, rfl, _, rfl, ite2 (fun _ => ?_) (fun _ => ?_)⟩
    · refine ⟨_, rfl, p, 12, rfl, F1, by decide, by decide +kernel, fun r2 H2 a0 a1 d2 => ?_⟩
      obtain ⟨j, rfl⟩ := Int.eq_ofNat_of_zero_le a0
      have hj : j < 12 := by omega
      refine ⟨_, _, rfl, rfl, j + 1, 1, 1, ?_, by omega, by decide, by omega, by decide, by omega, by decide, fun g H3 s3 G3 => q g _ H3 ((d1.trans d2).same s3) G3 (pwC_of (List.all_eq_true.mp pw_tw1 j (List.mem_range.mpr hj)))⟩
      show [V.int (1 + (j : Int)), V.int 1, V.int 1] = [V.int ((j + 1 : Nat) : Int), V.int 1, V.int 1]
      rw [show (1 : Int) + (j : Int) = ((j + 1 : Nat) : Int) by omega]
    refine ⟨_, rfl, _, _, rfl, rfl, _, rfl, ite2 (fun _ => ?_) (fun _ => ?_)⟩
    · refine ⟨_, rfl, p, 6, rfl, F1, by decide, by decide +kernel, fun r2 H2 a0 a1 d2 => ?_⟩
      obtain ⟨j, rfl⟩ := Int.eq_ofNat_of_zero_le a0
      have hj : j < 6 := by omega
      refine ⟨_, _, rfl, rfl, _, rfl, _, rfl, _, _, rfl, rfl, j + 3, 2, j + 2, ?_, by omega, by decide, by omega, by omega, by omega, by decide, fun g H3 s3 G3 => q g _ H3 ((d1.trans d2).same s3) G3 (pwC_of (List.all_eq_true.mp pw_tw2 j (List.mem_range.mpr hj)))⟩
      show [V.int (3 + (j : Int)), V.int 2, V.int (3 + (j : Int) - 1)] = [V.int ((j + 3 : Nat) : Int), V.int 2, V.int ((j + 2 : Nat) : Int)]
      rw [show (3 : Int) + (j : Int) - 1 = ((j + 2 : Nat) : Int) by omega, show (3 : Int) + (j : Int) = ((j + 3 : Nat) : Int) by omega]
    refine ⟨_, rfl, _, _, rfl, rfl, _, rfl, ite2 (fun _ => ?_) (fun _ => ?_)⟩
    · refine seq_asg (tN_intro tri7 (by decide) (by decide) fun bs H2 s2 hb hi S hS => ?_)
      have s3 := s2.trans (Same.upd (H := H2) (o := .lst (bs.map V.ref)) hS)
      have F2 := F1.mono s3
      refine ⟨_, rfl, _, rfl, p, 7, rfl, F2, by decide, by decide +kernel, fun r2 H4 a0 a1 d2 => ?_⟩
      obtain ⟨j, rfl⟩ := Int.eq_ofNat_of_zero_le a0
      have hj : j < 7 := by omega
      obtain ⟨b, hbj, hat⟩ := refs_at (bs := bs) (i := j) (by rw [hb]; exact hj)
      have e4 : H4 S = some (.lst (bs.map V.ref)) := d2.keep _ _ upd_same (np (s2.free hS))
      have hx := List.all_eq_true.mp tri7_ok _ (memL (yss := tri7) (i := j) hj)
      rw [Bool.and_eq_true] at hx
      obtain ⟨a', b', c', e1, e2, e3, e5, t1, t2, t3, t4, t5, t6⟩ := tri_of hx.1
      have hb4 : H4 b = some (.tup [nV a', nV b', nV c']) := d2.tup F2 (by rw [Same.upd (o := .lst (bs.map V.ref)) hS _ _ (hi j b hbj), e1]; rfl)
      have Pt := hx.2
      rw [e2, e3, e5] at Pt
      exact ⟨S, _, _, _, rfl, rfl, .of e4, hat, b, _, rfl, .of hb4, rfl, _, _, rfl, _, _, rfl, _, _, rfl, rfl, _, rfl, _, rfl, _, rfl, a', b', c', rfl, t1, t2, t3, t4, t5, t6, fun g H3 s3' G3 => q g _ H3 (((d1.same s3).trans d2).same s3') G3 (pwC_of Pt)⟩
    · refine ⟨_, rfl, p, 3, rfl, F1, by decide, by decide +kernel, fun r2 H2 a0 a1 d2 => ?_⟩
      obtain ⟨i, rfl⟩ := Int.eq_ofNat_of_zero_le a0
      have hi3 : i < 3 := by omega
      refine ⟨_, _, rfl, rfl, i + 1, 1, 1, ?_, by omega, by decide, by omega, by decide, by omega, by decide, fun g1 H3 s3 G1 => ?_⟩
      · show [V.int (1 + (i : Int)), V.int 1, V.int 1] = [V.int ((i + 1 : Nat) : Int), V.int 1, V.int 1]
        rw [show (1 : Int) + (i : Int) = ((i + 1 : Nat) : Int) by omega]
      have d3 := (d1.trans d2).same s3
      have F3 := d3.feed F0
      refine seq_asg (op_first (tN_intro tri6 (by decide) (by decide) fun bs H4 s4 hb hi S hS => ?_))
      have s5 := s4.trans (Same.upd (H := H4) (o := .lst (bs.map V.ref)) hS)
      have F5 := F3.mono s5
      refine ⟨_, rfl, p, 6, rfl, F5, by decide, by decide +kernel, fun r2 H6 a0 a1 d6 => ?_⟩
      obtain ⟨j, rfl⟩ := Int.eq_ofNat_of_zero_le a0
      have hj : j < 6 := by omega
      obtain ⟨b, hbj, hat⟩ := refs_at (bs := bs) (i := j) (by rw [hb]; exact hj)
      have e4 : H6 S = some (.lst (bs.map V.ref)) := d6.keep _ _ upd_same (F3.ne_none (s4.free hS))
      have hx := List.all_eq_true.mp tri6_ok _ (memL (yss := tri6) (i := j) hj)
      rw [Bool.and_eq_true, Bool.and_eq_true] at hx
      obtain ⟨a', b', c', e1, e2, e3, e5, t1, t2, t3, t4, t5, t6⟩ := tri_of hx.1.1
      have hb4 : H6 b = some (.tup [nV a', nV b', nV c']) := d6.tup F5 (by rw [Same.upd (o := .lst (bs.map V.ref)) hS _ _ (hi j b hbj), e1]; rfl)
      have Pt := hx.1.2
      have Pp := List.all_eq_true.mp hx.2 i (List.mem_range.mpr hi3)
      rw [e2, e3, e5] at Pt Pp
      rw [Bool.and_eq_true, decide_eq_true_eq] at Pp
      have G6 := (G1.mono s5).dr F5 d6
      refine ⟨S, _, _, _, rfl, rfl, .of e4, hat, _, rfl, _, rfl, b, _, _, _, rfl, rfl, .of hb4, atI_nat (j := 0) rfl, _, rfl, b, _, _, _, rfl, rfl, .of hb4, atI_nat (j := 1) rfl, _, rfl, b, _, _, _, rfl, rfl, .of hb4, atI_nat (j := 2) rfl, a', b', c', rfl, t1, t2, t3, t4, t5, t6, fun g2 H7 s7 G2 => ?_⟩
      exact ⟨g1, g2, _, _, rfl, G6.mono s7, G2, pwC_of (List.all_eq_true.mp pw_tw1 i (List.mem_range.mpr (by omega))), pwC_of Pt, Pp.2, fun g H8 s8 G => q g _ H8 ((((d3.same s5).trans d6).same s7).same s8) G (pwC_of Pp.1)⟩
end
end C7

set_option maxHeartbeats 4000000
namespace L2
open PySem PySem.Spec PyProof.Rows
theorem reprK {X : Cx} (K : PySem.W.Frag) {k : Nat} (hr : Room k X.A) (hK : X.K = K := by rfl) : CallR X (.builtin "repr") (fun xs H Q => ∃ x d, xs = [x] ∧ RdD K H x d ∧ FitD d ∧ Q (.str d.shown) H) := hK ▸ call_repr hr
theorem eqDK {X : Cx} (K : PySem.W.Frag) (hu : X.A.units + 64 < cLine) (hK : X.K = K := by rfl) : OpR X (compareOp .Eq) (fun x y H Q => ∃ dx dy, RdD K H x dx ∧ RdD K H y dy ∧ SeqAt.shaped dx = true ∧ SeqAt.shaped dy = true ∧ Q (.bl (PyData.eqv dx dy)) H) := hK ▸ op_eqD hu
end L2
namespace C7
open PySem L2 PySem.Spec PyProof.Rows
open Tb
abbrev sLaw : Stmt := top 16
def spLaw (K : PySem.W.Frag) : Sp := fun vs H Q _ => ∃ (a : Addr) (ns : List Int), vs = [.ref a] ∧ SqL K H a (ns.map V.int) ∧ ns.length ≤ 63 ∧ ∀ H', Q (.bl true) H'
theorem fit_int {z : Int} (h : z.natAbs < 2 ^ 200) : FitD (.int z) := by
  obtain ⟨h1, _, _, h4, _, _⟩ := showAll_ints (ns := [z]) (fun n hn => by rw [List.mem_singleton.mp hn]; exact h)
  simp only [List.map_cons, List.map_nil, PyData.showableAll, PyData.leavesShortAll, Bool.and_true] at h1 h4
  refine ⟨h1, rfl, by simp only [PyData.depth]; omega, ?_⟩
  have := PyData.shown_le_bulk 300 (by decide) (.int z) h4
  simp only [PyData.bulk] at this
  have e : (16777216 : Nat) = sizeLine := by decide
  omega
theorem fit_nat {k : Nat} (h : k ≤ 1000) : FitD (.int (k : Int)) := fit_int (by
  show k < 2 ^ 200
  exact Nat.lt_of_le_of_lt h (by decide))
theorem filt_map (p : V → Bool) (p' : Int → Bool) (h : ∀ i, p (.int i) = p' i) : ∀ xs : List Int, ((xs.map V.int).filter p).map (fun y => y) = (xs.filter p').map V.int
  | [] => rfl
  | x :: r => by
    have ih := filt_map p p' h r
    rw [List.map_cons, List.filter_cons, List.filter_cons, h x]
    cases p' x with
    | true => rw [if_pos rfl, if_pos rfl, List.map_cons, List.map_cons, ih]
    | false => rw [if_neg Bool.false_ne_true, if_neg Bool.false_ne_true, ih]
theorem mem_map_get {xs : List Int} {i : Nat} {x : V} (h : (xs.map V.int)[i]? = some x) : ∃ z, x = .int z ∧ z ∈ xs := by
  rw [List.getElem?_map] at h
  cases e : xs[i]? with
  | none => rw [e] at h; cases h
  | some z =>
    rw [e] at h
    cases h
    exact ⟨z, rfl, List.mem_of_getElem? e⟩
theorem shapedI (ns : List Int) : SeqAt.shaped (.list (ns.map PyData.int)) = true := shapedL fun d hd => by
  obtain ⟨z, _, rfl⟩ := List.mem_map.mp hd
  exact ⟨rfl, Nat.zero_le _⟩
def fI (p : Int → Bool) : V → Bool
  | .int i => p i
  | _ => false
def lenI (rs : Nat → Nat) (n : Nat) : List Int := (List.range n).map fun a => ((rs a : Nat) : Int)
theorem lenI_V (rs : Nat → Nat) (n : Nat) : (lenI rs n).map V.int = (List.range n).map fun a => nV (rs a) := by
  unfold lenI
  rw [List.map_map]
  rfl
def allD (ls : List Int) (z : Int) : Bool := (ls.filter fun y => decide (¬ z % y = 0)).isEmpty
theorem allD_iff {rs : Nat → Nat} {n k : Nat} : allD (lenI rs n) (k : Int) = true ↔ ∀ a, a < n → k % rs a = 0 := by
  unfold allD lenI
  rw [List.isEmpty_iff, List.filter_eq_nil_iff]
  constructor
  · intro h a ha
    have := h _ (List.mem_map.mpr ⟨a, List.mem_range.mpr ha, rfl⟩)
    simp only [decide_eq_true_eq, Classical.not_not] at this
    omega
  · intro h z hz
    obtain ⟨a, ha, rfl⟩ := List.mem_map.mp hz
    have := h a (List.mem_range.mp ha)
    simp only [decide_eq_true_eq, Classical.not_not]
    omega
/-- the first of 1 .. 60 that all rounds divide -/
theorem least_is {rs : Nat → Nat} {n f N : Nat} (L : Lc rs n f) (hN : 1 ≤ N) (h60 : N ≤ 60) (hd : ∀ a, a < n → N % rs a = 0) : ((rngI 1 60).filter (allD (lenI rs n)))[0]? = some ((f : Nat) : Int) := by
  have fN : f ≤ N := Nat.le_of_dvd (by omega) (Nat.dvd_of_mod_eq_zero (L.mn N hd))
  have f1 := L.f1
  rw [← List.head?_eq_getElem?, List.head?_filter]
  unfold rngI
  rw [List.find?_map]
  have : (List.range 60).find? ((allD (lenI rs n)) ∘ fun i : Nat => (1 : Int) + (i : Int)) = some (f - 1) := by
    rw [List.find?_range_eq_some]
    refine ⟨?_, List.mem_range.mpr (by omega), fun j hj => ?_⟩
    · show allD (lenI rs n) (1 + ((f - 1 : Nat) : Int)) = true
      rw [show (1 : Int) + ((f - 1 : Nat) : Int) = ((f : Nat) : Int) by omega]
      exact allD_iff.mpr L.dv
    · show (!allD (lenI rs n) (1 + (j : Int))) = true
      rw [Bool.not_eq_true']
      cases e : allD (lenI rs n) (1 + (j : Int)) with
      | false => rfl
      | true =>
        rw [show (1 : Int) + (j : Int) = ((j + 1 : Nat) : Int) by omega, allD_iff] at e
        have := Nat.le_of_dvd (by omega) (Nat.dvd_of_mod_eq_zero (L.mn (j + 1) e))
        omega
  rw [this]
  show some ((1 : Int) + ((f - 1 : Nat) : Int)) = _
  rw [show (1 : Int) + ((f - 1 : Nat) : Int) = ((f : Nat) : Int) by omega]
theorem lc_ex {rs : Nat → Nat} {N : Nat} (hN : 1 ≤ N) : ∀ (n : Nat), (∀ a, a < n → N % rs a = 0) → ∃ f, Lc rs n f
  | 0, _ => ⟨1, Nat.le_refl _, fun a ha => absurd ha (Nat.not_lt_zero _), fun x _ => Nat.mod_one x⟩
  | n + 1, h => by
    obtain ⟨f, L⟩ := lc_ex hN n fun a ha => h a (by omega)
    exact ⟨_, L.step hN h (Nat.lt_succ_self N)⟩
theorem ivals {xs : List V} (h : ∀ x ∈ xs, ∃ k : Int, x = .int k) {i : Nat} {y : V} (hy : xs[i]? = some y) : ∃ k : Int, y = .int k := h y (List.mem_of_getElem? hy)
section
variable {P : Program} {w : World} {K : PySem.W.Frag} {mg : Str → Option Value} {base : Heap}
theorem scLaw : FnScope ["_law_script", "_law_feed_here", "_law_turn", "_law_group_here", "_law_lengths", "_law_a", "_law_some", "_law_far", "_law_k", "_law_least"] ["_law_script"] (defScope sLaw) := ⟨rfl, rfl, rfl, by decide +kernel, rfl, by decide +kernel, by decide +kernel⟩
theorem ok_law {f : Addr} {fd : FuncData} (F : Fun K "law" "law" sLaw f fd) (T : Bl mg) (GF : Fn P w K mg base CX0 1 "_law_feed" ["_law_script"] (spFeed K)) (GD : Fn P w K mg base CX0 1 "_law_draw" ["_law_feed_here", "_law_many"] spDraw) (GG : Fn P w K mg base CX0 3 "_law_group" ["_law_feed_here"] spOne)
    (GS : Fn P w K mg base CX0 1 "_law_powers" ["_law_group_here", "_law_a"] spPows) (GB : Fn P w K mg base CX0 1 "back" ["group", "a"] (spBack K)) (GR : Fn P w K mg base CX0 1 "round_of" ["group", "a"] spRound) (GP : Fn P w K mg base CX0 2 "power" ["group", "a", "k"] spPower) (GU : Fn P w K mg base CX0 2 "full_round" ["group"] spFull) :
    FnOk P w K mg base CX0 4 f fd ["_law_script"] (spLaw K) := by
  refine F.ok scLaw (fun vs H Q E h => ?_) (fun cdv A outer s H vs Q E hr h => ?_)
  · obtain ⟨a, ns, rfl, _⟩ := h; rfl
  · obtain ⟨a, ns, rfl, hS, hlen, q⟩ := h
    refine ⟨_, pss_cons (sset 1 rfl (fnc GF hr pass0 (pc (vn 0) pa_nil)))
      (pss_cons (ps_for PassesOwn.never rfl (rng1 T.range (pc pe_int pa_nil)) (gn 2)
        (pss_cons (sset 3 rfl (fnc GG hr pass0 (pc (vn 1) pa_nil)))
        (pss_cons (sset 4 rfl (pe_lst pa_nil))
        (pss_cons (ps_for PassesOwn.never rfl (rng1 T.range (pc (cb (lenK K) T.len (pc (vn 3) pa_nil)) pa_nil)) (gn 5)
          (pss_cons (sset 6 rfl (fnc GS hr pass0 (pc (vn 3) (pc (vn 5) pa_nil))))
          (pss_cons (ps_expr (pe_bm PySem.F.plainAttrs_list PySem.F.slot_list_append PySem.F.type_list_append mt_append (vn 4) (pc (cb (lenK K) T.len (pc (vn 6) pa_nil)) pa_nil)))
          (pss_cons (ps_if (pw_or (pt_cmpR op_ne (cb (reprK K hr) T.repr (pc (fnc GB hr pass0 (pc (vn 3) (pc (vn 5) pa_nil))) pa_nil)) (cb (reprK K hr) T.repr (pc (pe_ix (ixL K) (vn 6) (pe_un un_neg pe_int) (fun _ _ => rfl)) pa_nil)) (nomark _))
            (pw_or1 (pt_cmpR op_ne (cb (reprK K hr) T.repr (pc (fnc GR hr pass0 (pc (vn 3) (pc (vn 5) pa_nil))) pa_nil)) (cb (reprK K hr) T.repr (pc (cb (lenK K) T.len (pc (vn 6) pa_nil)) pa_nil)) (nomark _)))).pt (pss_one (ps_ret pe_bl)) pss_nil)
          (pss_cons (sset 7 rfl (pe_ix (ixL K) (pe_lst (pc pe_int (pc pe_int (pc (pe_op op_pow pe_int pe_int) pa_nil)))) (fnc GD hr pass0 (pc (vn 1) (pc pe_int pa_nil))) (fun _ _ => rfl)))
          (pss_one (ps_for PassesOwn.never rfl (itL K (pe_lst (pc pe_int (pc pe_int (pc (pe_un un_neg pe_int) (pc (fnc GD hr pass0 (pc (vn 1) (pc (vn 7) pa_nil))) (pc (pe_op op_sub pe_int (fnc GD hr pass0 (pc (vn 1) (pc (vn 7) pa_nil)))) pa_nil))))))) (gn 8)
            (pss_one (ps_if (pt_cmpR op_ne (cb (reprK K hr) T.repr (pc (fnc GP hr pass0 (pc (vn 3) (pc (vn 5) (pc (vn 8) pa_nil)))) pa_nil)) (cb (reprK K hr) T.repr (pc (pe_ix (ixL K) (vn 6) (pe_op op_mod (vn 8) (cb (lenK K) T.len (pc (vn 6) pa_nil))) (fun _ _ => rfl)) pa_nil)) (nomark _)) (pss_one (ps_ret pe_bl)) pss_nil)))))))))
        (pss_cons (sset 9 rfl (pe_ix (ixL K) (cmp ["_law_k"] [4] ["_law_k", "_law_lengths"] rfl (rng2 T.range (pc pe_int (pc pe_int pa_nil))) (fun _ _ _ _ _ => gnf 0 rfl)
          (fun _ _ _ _ _ => pif_one (pt_cmpR (eqDK K hr.units) (cmp ["_law_one"] [0] ["_law_one", "_law_k"] rfl (itL K (vn 1)) (fun _ _ _ _ _ => gn 0) (fun _ _ _ _ _ => pif_one (pt_cmpR op_ne (pe_op op_mod (vn 1) (vn 0)) pe_int (nomark _))) (fun _ _ _ _ _ => vn 0)) (pe_lst pa_nil) (nomark _)))
          (fun _ _ _ _ _ => vn 0)) pe_int (fun _ _ => rfl)))
        (pss_one (ps_if (pt_cmpR op_ne (cb (reprK K hr) T.repr (pc (fnc GU hr pass0 (pc (vn 3) pa_nil)) pa_nil)) (cb (reprK K hr) T.repr (pc (vn 9) pa_nil)) (nomark _)) (pss_one (ps_ret pe_bl)) pss_nil)))))))
      (pss_one (ps_ret pe_bl))), ?_⟩
    have sz : (16777216 : Nat) = sizeLine := by decide
    refine ⟨_, rfl, a, ns, rfl, hS, fun p H0 s0 hp F0 => ?_⟩
    refine ⟨4, rfl, by decide, by decide, ?_⟩
    refine for_range (fun i σ' H' => ∃ v2 v3 v4 v5 v6 v7 v8 v9 : Option V, σ' = [some (.ref a), some (.ref p), v2, v3, v4, v5, v6, v7, v8, v9] ∧ Feed H' p) ⟨_, _, _, _, _, _, _, _, rfl, F0⟩ ?_ ?_
    · rintro i0 σ' H1 hi0 ⟨v2, v3, v4, v5, v6, v7, v8, v9, rfl, F1⟩
      refine ⟨_, rfl, p, rfl, F1, fun g t H2 d2 G Pt => ?_⟩
      have F2 := d2.feed F1
      have n1 := Pt.n1
      have n60 := Pt.n60
      obtain ⟨rs, hrs⟩ : ∃ rs : Nat → Nat, ∀ a, a < t.length → Rd t a (rs a) := by
        refine ⟨fun a => if h : a < t.length then Classical.choose (Pt.rd a h) else 0, fun a h => ?_⟩
        show Rd t a (if h : a < t.length then Classical.choose (Pt.rd a h) else 0)
        rw [dif_pos h]
        exact Classical.choose_spec (Pt.rd a h)
      refine ⟨(by show 0 ≤ sizeLine; decide), fun L nL => ?_⟩
      have nLp : L ≠ p := F2.ne_none nL
      have s3 := Same.upd (H := H2) (o := .lst []) nL
      obtain ⟨gs, u1, u2, _⟩ := id (G.mono s3)
      have el : (gs.map V.ref).length = t.length := by rw [List.length_map, u2]
      refine ⟨_, rfl, g, _, rfl, .inr (.of u1), _, rfl, by rw [el]; omega, by rw [el]; omega, ?_⟩
      rw [el, Int.toNat_natCast]
      refine for_range (fun i σ' H' => ∃ w2 w5 w6 w7 w8 : Option V, σ' = [some (.ref a), some (.ref p), w2, some (.ref g), some (.ref L), w5, w6, w7, w8, v9] ∧ Dr p H2 H' ∧ H' L = some (.lst ((lenI rs i).map V.int)))
        ⟨_, _, _, _, _, rfl, Dr.of s3, upd_same⟩ ?_ ?_
      · rintro i σ'' H3 hi ⟨w2, w5, w6, w7, w8, rfl, d3, hL3⟩
        rw [show (0 : Int) + (i : Int) = (i : Int) by omega]
        have G3 := G.dr F2 d3
        have Ri := hrs i hi
        have r1 := Ri.r1
        have rn := Ri.rn
        refine ⟨_, rfl, _, rfl, g, t, i, rs i, rfl, G3, Pt, hi, Ri, fun l H4 s4 hl => ?_⟩
        have ll : ((List.range (rs i)).map fun k => nV (it t i k)).length = rs i := by rw [List.length_map, List.length_range]
        have hL4 := s4 _ _ hL3
        have nlL : l ≠ L := fun z => by
          rw [z, hL4, lenI_V] at hl
          have hh := Option.some.inj hl
          injection hh with hh
          have h0 := congrArg (fun xs : List V => xs[0]?) hh
          obtain ⟨m, hm⟩ : ∃ m, rs i = m + 1 := ⟨rs i - 1, by omega⟩
          rw [hm] at h0
          cases i with
          | zero =>
            have e2 : ((List.range (m + 1)).map fun k => nV (it t 0 k))[0]? = some (nV 0) := by rw [List.getElem?_map, List.getElem?_range (by omega)]; rfl
            rw [e2] at h0
            cases h0
          | succ i =>
            have e1 : ((List.range (i + 1)).map fun a => nV (rs a))[0]? = some (nV (rs 0)) := by rw [List.getElem?_map, List.getElem?_range (by omega)]; rfl
            have e2 : ((List.range (m + 1)).map fun k => nV (it t (i + 1) k))[0]? = some (nV 0) := by rw [List.getElem?_map, List.getElem?_range (by omega)]; rfl
            rw [e1, e2] at h0
            have h1 := (hrs 0 (by omega)).r1
            have h2 := Option.some.inj h0
            unfold nV at h2
            injection h2 with h2
            omega
        refine ⟨_, rfl, .inl ⟨rfl, _, .of hL4⟩, _, rfl, l, _, rfl, .inl (.of hl), L, _, _, rfl, rfl, hL4, by rw [List.length_map]; unfold lenI; rw [List.length_map, List.length_range]; omega, ?_⟩
        rw [ll]
        have eL : (lenI rs i).map V.int ++ [V.int ((rs i : Nat) : Int)] = (lenI rs (i + 1)).map V.int := by
          unfold lenI
          rw [List.range_succ, List.map_append, List.map_append]
          rfl
        rw [eL]
        have d5 : Dr p H2 (upd H4 L (.lst ((lenI rs (i + 1)).map V.int))) := (d3.same s4).updN nL
        have hl5 : upd H4 L (.lst ((lenI rs (i + 1)).map V.int)) l = some (.lst ((List.range (rs i)).map fun k => nV (it t i k))) := by rw [upd_ne nlL]; exact hl
        have hL5 : upd H4 L (.lst ((lenI rs (i + 1)).map V.int)) L = some (.lst ((lenI rs (i + 1)).map V.int)) := upd_same
        generalize upd H4 L (.lst ((lenI rs (i + 1)).map V.int)) = H5 at d5 hl5 hL5 ⊢
        have G5 := G.dr F2 d5
        have F5 := d5.feed F2
        have nlp : l ≠ p := fun z => by
          obtain ⟨q0, ns', i', j', k', Fa⟩ := F5
          obtain ⟨m, hm⟩ : ∃ m, rs i = m + 1 := ⟨rs i - 1, by omega⟩
          rw [z, Fa.hp, hm] at hl5
          have hh := Option.some.inj hl5
          injection hh with hh
          have h0 := congrArg (fun xs : List V => xs[0]?) hh
          have e2 : ((List.range (m + 1)).map fun k => nV (it t i k))[0]? = some (nV 0) := by rw [List.getElem?_map, List.getElem?_range (by omega)]; rfl
          rw [e2] at h0
          cases h0
        have hlast : atI ((List.range (rs i)).map fun k => nV (it t i k)) (-1) = some (nV (it t i (rs i - 1))) := by
          obtain ⟨m, hm⟩ : ∃ m, rs i = m + 1 := ⟨rs i - 1, by omega⟩
          rw [hm, List.range_succ, List.map_append]
          exact atI_last _ _
        have bt : ∀ k, it t i k ≤ 1000 := fun k => by have := it_lt Pt hi k; omega
        refine ⟨_, rfl, _, rfl, g, t, i, rs i, rfl, G5, Pt, hi, Ri, _, _, rfl, .int _, fit_nat (bt _), _, rfl, _, rfl, l, _, _, _, rfl, rfl, .of hl5, hlast, _, _, rfl, .int _, fit_nat (bt _), rfl, _, rfl, ?_⟩
        refine iteN (by simp) ?_
        refine ⟨_, rfl, _, rfl, g, t, i, rs i, rfl, G5, Pt, hi, Ri, _, _, rfl, .int _, fit_nat (by omega), _, rfl, l, _, rfl, .inl (.of hl5), _, _, rfl, .int _, (by rw [ll]; exact fit_nat (by omega)), rfl, _, rfl, ?_⟩
        rw [ll]
        refine iteN (by simp) ?_
        refine ⟨_, _, rfl, rfl, ⟨by decide, by decide, by decide⟩, (by show 3 ≤ sizeLine; decide), fun l1 m1 => ?_⟩
        have s6 := Same.upd (H := H5) (o := .lst [.int 5, .int 70, .int (10 ^ (30 : Int).toNat)]) m1
        have n1p : l1 ≠ p := F5.ne_none m1
        have F6 := F5.mono s6
        refine ⟨_, rfl, p, 3, rfl, F6, by decide, by decide +kernel, fun r3 H7 a3 b3 d7 => ?_⟩
        have e7 : H7 l1 = some (.lst [.int 5, .int 70, .int (10 ^ (30 : Int).toNat)]) := d7.keep _ _ upd_same n1p
        have F7 := d7.feed F6
        obtain ⟨fr, hat, f0, flog⟩ : ∃ fr : Int, atI [V.int 5, V.int 70, V.int (10 ^ (30 : Int).toNat)] r3 = some (.int fr) ∧ 0 < fr ∧ fr.natAbs.log2 < 9000 := by
          obtain ⟨v, h1, h2⟩ := ixget (xs := [V.int 5, V.int 70, V.int (10 ^ (30 : Int).toNat)]) a3 (by show r3 < 3; exact b3)
          simp only [List.mem_cons, List.not_mem_nil, or_false] at h2
          rcases h2 with rfl | rfl | rfl
          · exact ⟨5, h1, by decide, by decide +kernel⟩
          · exact ⟨70, h1, by decide, by decide +kernel⟩
          · exact ⟨10 ^ (30 : Int).toNat, h1, by decide +kernel, by decide +kernel⟩
        refine ⟨l1, _, _, _, rfl, rfl, .of e7, hat, ?_⟩
        refine ⟨_, rfl, _, rfl, _, rfl, p, fr, rfl, F7, f0, flog, fun r4 H8 a4 b4 d8 => ?_⟩
        have F8 := d8.feed F7
        refine ⟨_, rfl, _, rfl, p, fr, rfl, F8, f0, flog, fun r5 H9 a5 b5 d9 => ⟨_, _, rfl, rfl, (by show 5 ≤ sizeLine; decide), fun l2 m2 => ?_⟩⟩
        have F9 := d9.feed F8
        refine ⟨l2, rfl, ⟨_, .of upd_same⟩, ?_⟩
        have s10 := Same.upd (H := H9) (o := .lst [.int 0, .int 1, .int (-1), .int r4, .int (0 - r5)]) m2
        have dA : Dr p H5 (upd H9 l2 (.lst [.int 0, .int 1, .int (-1), .int r4, .int (0 - r5)])) := (((Dr.of s6).trans d7).trans (d8.trans d9)).same s10
        have h2A : upd H9 l2 (.lst [.int 0, .int 1, .int (-1), .int r4, .int (0 - r5)]) l2 = some (.lst [.int 0, .int 1, .int (-1), .int r4, .int (0 - r5)]) := upd_same
        generalize upd H9 l2 (.lst [.int 0, .int 1, .int (-1), .int r4, .int (0 - r5)]) = HA at dA h2A ⊢
        have GA := G5.dr F5 dA
        have hlA := dA.keep _ _ hl5 nlp
        have hLA := dA.keep _ _ hL5 nLp
        refine for_seq (H0 := HA) (seq_lst (K := K) (.of h2A)) (fun j τ H' => ∃ y8 : Option V, τ = [some (.ref a), some (.ref p), w2, some (.ref g), some (.ref L), some (.int i), some (.ref l), some (.int fr), y8, v9] ∧ Same HA H')
          ⟨_, rfl, Same.refl _⟩ (fun j τ H' h => h.choose_spec.2) ?_ ?_
        · rintro j y τ HB hy ⟨y8, rfl, sB⟩
          obtain ⟨k, rfl⟩ := ivals (xs := [.int 0, .int 1, .int (-1), .int r4, .int (0 - r5)]) (fun x hx => by
            simp only [List.mem_cons, List.not_mem_nil, or_false] at hx
            rcases hx with rfl | rfl | rfl | rfl | rfl <;> exact ⟨_, rfl⟩) hy
          refine ⟨_, rfl, _, rfl, _, rfl, g, t, i, rs i, k, rfl, GA.mono sB, Pt, hi, Ri, fun HC sC => ?_⟩
          have hlC := (sB.trans sC) _ _ hlA
          have b1 := Int.emod_nonneg k (show ((rs i : Nat) : Int) ≠ 0 by omega)
          have b2 := Int.emod_lt_of_pos k (show (0 : Int) < ((rs i : Nat) : Int) by omega)
          have hk : atI ((List.range (rs i)).map fun k => nV (it t i k)) (k % ((rs i : Nat) : Int)) = some (nV (it t i (k % ((rs i : Nat) : Int)).toNat)) := by
            obtain ⟨m, hm⟩ := Int.eq_ofNat_of_zero_le b1
            rw [hm, Int.toNat_natCast]
            exact atI_nat (by rw [List.getElem?_map, List.getElem?_range (by omega)]; rfl)
          refine ⟨_, _, rfl, .int _, fit_nat (bt _), _, rfl, _, rfl, _, rfl, l, _, rfl, .inl (.of hlC), ?_⟩
          rw [ll]
          refine ⟨_, _, rfl, rfl, (by show (0 : Int) < ((rs i : Nat) : Int); omega), l, _, _, _, rfl, rfl, .of hlC, hk, _, _, rfl, .int _, fit_nat (bt _), rfl, _, rfl, ?_⟩
          refine iteN (by simp) ?_
          exact ⟨_, rfl, sB.trans sC⟩
        · rintro τ HB ⟨y8, rfl, sB⟩
          exact ⟨_, _, _, _, _, rfl, (d5.trans dA).same sB, sB _ _ hLA⟩
      · rintro σ'' H3 ⟨w2, w5, w6, w7, w8, rfl, d3, hL3⟩
        have F3 := d3.feed F2
        have dvN : ∀ a, a < t.length → t.length % rs a = 0 := fun a ha => (hrs a ha).dv
        obtain ⟨f0, L0⟩ := lc_ex n1 t.length dvN
        have least := fun f (Lf : Lc rs t.length f) => least_is Lf n1 n60 dvN
        have rpos : ∀ z ∈ lenI rs t.length, (0 : Int) < z := fun z hz => by
          obtain ⟨a', ha', rfl⟩ := List.mem_map.mp hz
          have := (hrs a' (List.mem_range.mp ha')).r1
          omega
        refine ⟨1, 61, rfl, ⟨by decide, by decide, by decide, by decide⟩, ?_⟩
        refine comp_filt (seq_rng 1 60) [some (.ref L)] rfl (fI (allD (lenI rs t.length))) (fun y => y) (by rw [List.length_map, rngI_len]; decide) ?_ ?_
        · intro i x H' hx s' R R' g1 g2
          obtain ⟨z, rfl, hz⟩ := mem_map_get hx
          have hL' := s' _ _ hL3
          refine ⟨_, rfl, L, rfl, ⟨_, .of hL'⟩, ?_⟩
          refine comp_filt (seq_lst (K := K) (.of hL')) [some (.int z)] rfl (fI fun y => decide (¬ z % y = 0)) (fun y => y) (by rw [List.length_map]; unfold lenI; rw [List.length_map, List.length_range]; omega) ?_ ?_
          · intro i2 x2 H2' hx2 s2 R2 R2' k1 k2
            obtain ⟨y, rfl, hy⟩ := mem_map_get hx2
            have yp := rpos y hy
            refine ⟨_, rfl, _, rfl, _, _, rfl, rfl, (by show (0 : Int) < y; omega), rfl, _, rfl, ?_⟩
            by_cases hc : z % y = 0
            · exact iteN (by rw [dec_int, hc]; simp) (k2 (decide_eq_false (fun h => h hc)) H2' (Same.refl _))
            · exact iteP (by rw [dec_int]; simpa using hc) ⟨_, rfl, k1 (decide_eq_true hc) H2' (Same.refl _)⟩
          · intro D2 H4 hD2 s4 hD4
            rw [filt_map _ (fun y => decide (¬ z % y = 0)) (fun _ => rfl)] at hD4
            refine ⟨Nat.zero_le _, fun e0 he0 => ⟨_, _, .lst (.of (Same.upd he0 _ _ hD4)) (RdDs.ints _), .lst (.of upd_same) .nil, shapedI _, rfl, _, rfl, ?_⟩⟩
            have e : PyData.eqv (.list ((List.filter (fun y => decide (¬ z % y = 0)) (lenI rs t.length)).map PyData.int)) (.list []) = allD (lenI rs t.length) z := by
              rw [eqvNil]
              unfold allD
              exact isEmpty_of_len (List.length_map ..)
            rw [e]
            refine ite2 (fun hc => ⟨_, rfl, g1 hc _ (s4.trans (Same.upd he0))⟩) (fun hc => g2 (show allD (lenI rs t.length) z = false by simpa using hc) _ (s4.trans (Same.upd he0)))
        · intro D H4 hD s4 hD4
          rw [filt_map _ (allD (lenI rs t.length)) (fun _ => rfl)] at hD4
          have hat : atI (((rngI 1 60).filter (allD (lenI rs t.length))).map V.int) (0 : Int) = some (.int ((f0 : Nat) : Int)) := atI_nat (j := 0) (by rw [List.getElem?_map, least f0 L0]; rfl)
          refine ⟨D, _, _, _, rfl, rfl, .of hD4, hat, ?_⟩
          have G4 := (G.dr F2 d3).mono s4
          refine ⟨_, rfl, g, t, rs, rfl, G4, Pt, hrs, fun f5 H5 s5 L5 => ?_⟩
          have ef : f5 = f0 := by
            have h1 := least f5 L5
            rw [least f0 L0] at h1
            have := Option.some.inj h1
            omega
          subst ef
          have f60 : f5 ≤ 1000 := by
            have := Nat.le_of_dvd (by omega) (Nat.dvd_of_mod_eq_zero (L5.mn t.length dvN))
            omega
          refine ⟨_, _, rfl, .int _, fit_nat f60, _, rfl, _, _, rfl, .int _, fit_nat f60, rfl, _, rfl, ?_⟩
          refine iteN (by simp) ?_
          exact ⟨_, _, _, _, _, _, _, _, rfl, (F3.mono s4).mono s5⟩
    · rintro σ' H1 ⟨v2, v3, v4, v5, v6, v7, v8, v9, rfl, F1⟩
      exact q H1
end
end C7

set_option maxHeartbeats 4000000
namespace C7
open PySem L2 PySem.Spec PyProof.Rows
theorem all_mk {l : PySem.W.OpenLaw} {w : World} {K : PySem.W.Frag} {h : Heap} {mg : Str → Option Value} {fa : Addr} (X : K.In h) (G : h.Ns mainGlobals mg) (hfa : mg "law" = some (.ref fa))
    (d1 : DefIn K "back" sBack) (d2 : DefIn K "round_of" sRound) (d3 : DefIn K "power" sPower) (d4 : DefIn K "full_round" sFull) (d5 : DefIn K "_law_feed" sFeed) (d6 : DefIn K "_law_draw" sDraw) (d7 : DefIn K "_law_twined" sTw) (d8 : DefIn K "_law_eight" sEight) (d9 : DefIn K "_law_by_perms" sByP) (d10 : DefIn K "_law_put" sPut) (d11 : DefIn K "_law_renamed" sRen) (d12 : DefIn K "_law_one_group" sOne) (d13 : DefIn K "_law_group" sGroup) (d14 : DefIn K "_law_powers" sPows) (d15 : DefIn K "law" sLaw)
    (z1 : PySem.W.nsIn K mainGlobals "list" = some none) (z2 : PySem.W.nsIn K mainGlobals "len" = some none) (z3 : PySem.W.nsIn K mainGlobals "abs" = some none) (z4 : PySem.W.nsIn K mainGlobals "range" = some none) (z5 : PySem.W.nsIn K mainGlobals "tuple" = some none) (z6 : PySem.W.nsIn K mainGlobals "isinstance" = some none) (z7 : PySem.W.nsIn K mainGlobals "all" = some none) (z8 : PySem.W.nsIn K mainGlobals "set" = some none) (z9 : PySem.W.nsIn K mainGlobals "repr" = some none) (z10 : PySem.W.nsIn K mainGlobals "any" = some none) (z11 : PySem.W.nsIn K mainGlobals "int" = some none) (z12 : PySem.W.nsIn K mainGlobals "bool" = some none) (z13 : PySem.W.nsIn K mainGlobals "sorted" = some none) :
    ∃ fd : FuncData, (∀ (s : Shared) (v : Value), BindsTo s fd ⟨[v], []⟩ [("_law_script", v)]) ∧ ∀ base : Heap, K.In base → base.Ns mainGlobals mg → FnOk l.prog w K mg base CX0 4 fa fd ["_law_script"] (spLaw K) := by
  have T : Bl mg := ⟨PySem.W.mg_none_of X G z1, PySem.W.mg_none_of X G z2, PySem.W.mg_none_of X G z3, PySem.W.mg_none_of X G z4, PySem.W.mg_none_of X G z5, PySem.W.mg_none_of X G z6, PySem.W.mg_none_of X G z7, PySem.W.mg_none_of X G z8, PySem.W.mg_none_of X G z9, PySem.W.mg_none_of X G z10, PySem.W.mg_none_of X G z11, PySem.W.mg_none_of X G z12⟩
  have TS : BlS mg := ⟨PySem.W.mg_none_of X G z13⟩
  refine d15.law X G hfa (fun base f fd nb kb F => ?_) (fun _ _ _ _ _ _ _ _ => .of_eq rfl)
  have GB : Fn l.prog w K mg base CX0 1 "back" ["group", "a"] (spBack K) := d1.fn X G (fun f fd F => ok_back F) (fun _ _ _ _ _ _ us hl => match us, hl with | [_, _], _ => rfl)
  have GR : Fn l.prog w K mg base CX0 1 "round_of" ["group", "a"] (spRound) := d2.fn X G (fun f fd F => ok_round F) (fun _ _ _ _ _ _ us hl => match us, hl with | [_, _], _ => rfl)
  have GP : Fn l.prog w K mg base CX0 2 "power" ["group", "a", "k"] (spPower) := d3.fn X G (fun f fd F => ok_power F T GR) (fun _ _ _ _ _ _ us hl => match us, hl with | [_, _, _], _ => rfl)
  have GU : Fn l.prog w K mg base CX0 2 "full_round" ["group"] (spFull) := d4.fn X G (fun f fd F => ok_full F T GR) (fun _ _ _ _ _ _ us hl => match us, hl with | [_], _ => rfl)
  have GF : Fn l.prog w K mg base CX0 1 "_law_feed" ["_law_script"] (spFeed K) := d5.fn X G (fun f fd F => ok_feed F T) (fun _ _ _ _ _ _ us hl => match us, hl with | [_], _ => rfl)
  have GD : Fn l.prog w K mg base CX0 1 "_law_draw" ["_law_feed_here", "_law_many"] (spDraw) := d6.fn X G (fun f fd F => ok_draw F T) (fun _ _ _ _ _ _ us hl => match us, hl with | [_, _], _ => rfl)
  have GTw : Fn l.prog w K mg base CX0 1 "_law_twined" ["_law_m", "_law_many", "_law_u"] (spTw) := d7.fn X G (fun f fd F => ok_tw F T) (fun _ _ _ _ _ _ us hl => match us, hl with | [_, _, _], _ => rfl)
  have GE : Fn l.prog w K mg base CX0 1 "_law_eight" ["_law_m"] (spEight) := d8.fn X G (fun f fd F => ok_eight F T) (fun _ _ _ _ _ _ us hl => match us, hl with | [_], _ => rfl)
  have GBy : Fn l.prog w K mg base CX0 1 "_law_by_perms" ["_law_perms"] (spByP) := d9.fn X G (fun f fd F => ok_byP F T TS) (fun _ _ _ _ _ _ us hl => match us, hl with | [_], _ => rfl)
  have GPt : Fn l.prog w K mg base CX0 1 "_law_put" ["_law_one", "_law_other"] (spPut) := d10.fn X G (fun f fd F => ok_put F T) (fun _ _ _ _ _ _ us hl => match us, hl with | [_, _], _ => rfl)
  have GRe : Fn l.prog w K mg base CX0 2 "_law_renamed" ["_law_feed_here", "_law_group_here"] (spRen) := d11.fn X G (fun f fd F => ok_ren F T GD) (fun _ _ _ _ _ _ us hl => match us, hl with | [_, _], _ => rfl)
  have GO : Fn l.prog w K mg base CX0 2 "_law_one_group" ["_law_feed_here"] (spOne) := d12.fn X G (fun f fd F => ok_one F GD GTw GE GBy GPt) (fun _ _ _ _ _ _ us hl => match us, hl with | [_], _ => rfl)
  have GG : Fn l.prog w K mg base CX0 3 "_law_group" ["_law_feed_here"] (spOne) := d13.fn X G (fun f fd F => ok_group F GO GD GRe) (fun _ _ _ _ _ _ us hl => match us, hl with | [_], _ => rfl)
  have GS : Fn l.prog w K mg base CX0 1 "_law_powers" ["_law_group_here", "_law_a"] (spPows) := d14.fn X G (fun f fd F => ok_pows F) (fun _ _ _ _ _ _ us hl => match us, hl with | [_, _], _ => rfl)
  exact ok_law F T GF GD GG GS GB GR GP GU
theorem walk {l : PySem.W.OpenLaw} {q : Program} {loose : List Str} {XP : (Str → Option Value) → Heap → Prop} {YP : World → Heap → Prop} {d : DefRec} {K : Params → PySem.W.Frag} (hn : l.most = some 63) (hdf : d.params.defaults = [])
    (hY : ∀ (w : World) (h : Heap), YP w h → (K w.params).In h)
    (F : ∀ (w : World) (mg : Str → Option Value) (fa : Addr) (h : Heap), (K w.params).In h → h.Ns mainGlobals mg → mg d.name = some (.ref fa) →
      ∃ fd : FuncData, (∀ (s : Shared) (u : Value), BindsTo s fd ⟨[u], []⟩ [("_law_script", u)]) ∧ ∀ base : Heap, (K w.params).In base → base.Ns mainGlobals mg → FnOk l.prog w (K w.params) mg base CX0 4 fa fd ["_law_script"] (spLaw (K w.params))) :
    PySem.W.WalkO q loose XP YP l.row.toRowW d [] (fun f vs => PySem.call f vs) :=
  L2.walk_of (n := 63) (k := 4) (x := "_law_script") (CX := fun _ => CX0) (sp := fun w => spLaw (K w.params)) hn (by decide) hdf ⟨rfl, by decide, by decide, rfl⟩ hY F (fun _ _ a ns hl _ hS => ⟨a, ns, rfl, hS, hl, fun _ => rfl⟩) fun _ _ _ _ _ z => z
end C7

set_option maxHeartbeats 4000000
open PySem PySem.W PyProof.Rows
set_option maxRecDepth 100000 in
set_option maxHeartbeats 0 in
theorem PySem.Challenge.cw_classtab_k07_backs_powers_rounds_holds : PySem.Challenge.rw_classtab_k07_backs_powers_rounds.Holds := by
  w_on; o_law; k_head; (case hw => w_witness2)
  k_fill
  refine C7.walk (l := PySem.Challenge.rw_classtab_k07_backs_powers_rounds) rfl rfl (fun w h Y => PySem.W.kIn_of Y) ?F
  case F =>
    intro w mg fa h KX G hmg
    refine' C7.all_mk KX G hmg (L2.DefIn.mk ?ia1 ?il1 ?ic1 ?ik1) (L2.DefIn.mk ?ia2 ?il2 ?ic2 ?ik2) (L2.DefIn.mk ?ia3 ?il3 ?ic3 ?ik3) (L2.DefIn.mk ?ia4 ?il4 ?ic4 ?ik4) (L2.DefIn.mk ?ia5 ?il5 ?ic5 ?ik5) (L2.DefIn.mk ?ia6 ?il6 ?ic6 ?ik6) (L2.DefIn.mk ?ia7 ?il7 ?ic7 ?ik7) (L2.DefIn.mk ?ia8 ?il8 ?ic8 ?ik8) (L2.DefIn.mk ?ia9 ?il9 ?ic9 ?ik9) (L2.DefIn.mk ?ia10 ?il10 ?ic10 ?ik10) (L2.DefIn.mk ?ia11 ?il11 ?ic11 ?ik11) (L2.DefIn.mk ?ia12 ?il12 ?ic12 ?ik12) (L2.DefIn.mk ?ia13 ?il13 ?ic13 ?ik13) (L2.DefIn.mk ?ia14 ?il14 ?ic14 ?ik14) (L2.DefIn.mk ?ia15 ?il15 ?ic15 ?ik15) ?iz1 ?iz2 ?iz3 ?iz4 ?iz5 ?iz6 ?iz7 ?iz8 ?iz9 ?iz10 ?iz11 ?iz12 ?iz13
    (case ia1 => k_is); (case il1 => k_is); (case ic1 => k_is); (case ik1 => k_is)
    (case ia2 => k_is); (case il2 => k_is); (case ic2 => k_is); (case ik2 => k_is)
    (case ia3 => k_is); (case il3 => k_is); (case ic3 => k_is); (case ik3 => k_is)
    (case ia4 => k_is); (case il4 => k_is); (case ic4 => k_is); (case ik4 => k_is)
    (case ia5 => k_is); (case il5 => k_is); (case ic5 => k_is); (case ik5 => k_is)
    (case ia6 => k_is); (case il6 => k_is); (case ic6 => k_is); (case ik6 => k_is)
    (case ia7 => k_is); (case il7 => k_is); (case ic7 => k_is); (case ik7 => k_is)
    (case ia8 => k_is); (case il8 => k_is); (case ic8 => k_is); (case ik8 => k_is)
    (case ia9 => k_is); (case il9 => k_is); (case ic9 => k_is); (case ik9 => k_is)
    (case ia10 => k_is); (case il10 => k_is); (case ic10 => k_is); (case ik10 => k_is)
    (case ia11 => k_is); (case il11 => k_is); (case ic11 => k_is); (case ik11 => k_is)
    (case ia12 => k_is); (case il12 => k_is); (case ic12 => k_is); (case ik12 => k_is)
    (case ia13 => k_is); (case il13 => k_is); (case ic13 => k_is); (case ik13 => k_is)
    (case ia14 => k_is); (case il14 => k_is); (case ic14 => k_is); (case ik14 => k_is)
    (case ia15 => k_is); (case il15 => k_is); (case ic15 => k_is); (case ik15 => k_is)
    (case iz1 => k_is); (case iz2 => k_is); (case iz3 => k_is); (case iz4 => k_is); (case iz5 => k_is); (case iz6 => k_is); (case iz7 => k_is); (case iz8 => k_is); (case iz9 => k_is); (case iz10 => k_is); (case iz11 => k_is); (case iz12 => k_is); (case iz13 => k_is)

