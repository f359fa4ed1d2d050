import PyProof.Rows.All
import Wide.All
import OpenK.AllK
import Wide.FinOn
import Lean
import PyProof.EqAt
import PyProof.EqKinds
import PyProof.TupleCall
import PyProof.EnumMake
import PyProof.EnumFor
import PyProof.TupleIter
import PyProof.Rows.Range3
import PyProof.ZipIter
import PySem.Challenge.RW_classtab_k04_widened_narrowed_divided
set_option Elab.async false
set_option linter.all false
set_option maxRecDepth 100000
/-! THE HAND LAYER, for ints, bools, texts, own classes, LISTS and tuples (index, slices, in, append, pop ..), calls, loops. Paste it whole ahead of your own text; what your proof does not reach may be deleted. -/
namespace L2
open PySem PySem.Spec PyProof.Rows

/-- a key: an int or a str -/
abbrev Key := Sum Int Str
def keyIs : Key → Value → Bool
  | .inl k, v => Value.isInt k v
  | .inr x, v => Value.isStrOf x v
def keyH (w : World) : Key → Int
  | .inl k => hashInt k
  | .inr x => hashStr w x
theorem keyIs_shape : ∀ {k : Key} {v : Value}, keyIs k v = true → (∃ i t, k = Sum.inl i ∧ v = Value.int i t) ∨ (∃ x t, k = Sum.inr x ∧ v = Value.str x t)
  | .inl i, v, h => by
    obtain ⟨t, e⟩ := Value.isInt_shape (k := i) (v := v) h
    exact .inl ⟨i, t, rfl, e⟩
  | .inr x, v, h => by
    obtain ⟨t, e⟩ := Value.isStrOf_shape (x := x) (v := v) h
    exact .inr ⟨x, t, rfl, e⟩
theorem key_ll (a b : Int) : decide ((Sum.inl a : Key) = Sum.inl b) = (a == b) := by
  by_cases e : a = b
  · subst e; simp
  · have h : ¬ (Sum.inl a : Key) = Sum.inl b := fun q => e (Sum.inl.inj q)
    rw [decide_eq_false h]
    exact (beq_eq_false_iff_ne.mpr e).symm
theorem key_rr (a b : Str) : decide ((Sum.inr a : Key) = Sum.inr b) = decide (a = b) := by
  by_cases e : a = b
  · subst e; simp
  · have h : ¬ (Sum.inr a : Key) = Sum.inr b := fun q => e (Sum.inr.inj q)
    rw [decide_eq_false h, decide_eq_false e]
theorem key_lr (a : Int) (b : Str) : decide ((Sum.inl a : Key) = Sum.inr b) = false := decide_eq_false (fun q => nomatch q)
theorem key_rl (a : Str) (b : Int) : decide ((Sum.inr a : Key) = Sum.inl b) = false := decide_eq_false (fun q => nomatch q)

def mixKind (prog : Program) (w : World) : PySem.KeyKind prog w Key where
  is := keyIs
  hash := keyH w
  inj := fun v a b ha hb => by
    rcases keyIs_shape ha with ⟨i, t, rfl, rfl⟩ | ⟨x, t, rfl, rfl⟩
    · rcases keyIs_shape hb with ⟨j, u, rfl, e⟩ | ⟨y, u, rfl, e⟩
      · injection e with e1 _; rw [e1]
      · exact nomatch e
    · rcases keyIs_shape hb with ⟨j, u, rfl, e⟩ | ⟨y, u, rfl, e⟩
      · exact nomatch e
      · injection e with e1 _; rw [e1]
  byValue := fun k v h => by
    rcases keyIs_shape h with ⟨i, t, rfl, rfl⟩ | ⟨x, t, rfl, rfl⟩ <;> rfl
  pyHash := fun hv h => by
    rcases keyIs_shape hv with ⟨i, t, rfl, rfl⟩ | ⟨x, t, rfl, rfl⟩
    · exact wpAny_pyHash_int h
    · exact wpAny_pyHash_str h
  eqBool := fun hu hv h => by
    rcases keyIs_shape hu with ⟨i, t, rfl, rfl⟩ | ⟨x, t, rfl, rfl⟩
    · rcases keyIs_shape hv with ⟨j, u, rfl, rfl⟩ | ⟨y, u, rfl, rfl⟩
      · rw [key_ll] at h; exact wpAny_eqBool_int h
      · rw [key_lr] at h; exact SeqAt.EqAt.int_str i t y u _ _ _ _ h
    · rcases keyIs_shape hv with ⟨j, u, rfl, rfl⟩ | ⟨y, u, rfl, rfl⟩
      · rw [key_rl] at h; exact SeqAt.EqAt.str_int x t j u _ _ _ _ h
      · rw [key_rr] at h; exact wpAny_eqBool_str h
  «strs» := fun k x t v h => by
    rcases keyIs_shape h with ⟨i, u, rfl, e⟩ | ⟨y, u, rfl, e⟩
    · exact nomatch e
    · injection e with e1 _
      subst e1
      cases v <;> rfl

end L2

namespace L2
open PySem PySem.Spec PyProof.Rows

/-- a value, without the heap -/
inductive V where
  | non | bl (b : Bool) | int (i : Int) | str (x : Str) | byt (b : Array UInt8) | flt (b : UInt64) | ref (a : Addr) | ty (n : String)
  deriving DecidableEq

def RelV : V → Value → Prop
  | .non, u => u = Value.none
  | .bl b, u => u = Value.bool b
  | .int i, u => ∃ t, u = Value.int i t
  | .str x, u => ∃ t, u = Value.str x t
  | .byt b, u => ∃ t, u = Value.bytes b t
  | .flt b, u => ∃ t, u = Value.float b t
  | .ref a, u => u = Value.ref a
  | .ty n, u => u = Value.type n

abbrev Vals : List V → List Value → Prop := Paired RelV
theorem Vals.length {xs : List V} {us : List Value} (r : Vals xs us) : xs.length = us.length := Paired.length r
theorem Vals.get : ∀ {xs : List V} {us : List Value} {i : Nat} {x : V}, Vals xs us → xs[i]? = some x → ∃ u, us[i]? = some u ∧ RelV x u
  | _, _, _, _, .nil, e => by simp at e
  | _, _, 0, _, .cons r _, e => by simp at e; subst e; exact ⟨_, rfl, r⟩
  | _, _, i + 1, x, .cons _ t, e => by
    obtain ⟨u, h1, h2⟩ := Vals.get (i := i) (x := x) t (by simpa using e)
    exact ⟨u, by simpa using h1, h2⟩
theorem Vals.set {x : V} {u : Value} (r : RelV x u) : ∀ {xs : List V} {us : List Value} (i : Nat), Vals xs us → Vals (xs.set i x) (us.set i u)
  | _, _, _, .nil => .nil
  | _, _, 0, .cons _ t => .cons r t
  | _, _, i + 1, .cons q t => .cons q (Vals.set r i t)
theorem Vals.append : ∀ {xs ys : List V} {us ws : List Value}, Vals xs us → Vals ys ws → Vals (xs ++ ys) (us ++ ws)
  | _, _, _, _, .nil, s => s
  | _, _, _, _, .cons r t, s => .cons r (Vals.append t s)
theorem Vals.take : ∀ {xs : List V} {us : List Value} (n : Nat), Vals xs us → Vals (xs.take n) (us.take n)
  | _, _, 0, _ => .nil
  | _, _, _ + 1, .nil => .nil
  | _, _, n + 1, .cons r t => .cons r (Vals.take n t)
theorem Vals.drop : ∀ {xs : List V} {us : List Value} (n : Nat), Vals xs us → Vals (xs.drop n) (us.drop n)
  | _, _, 0, r => r
  | _, _, _ + 1, .nil => .nil
  | _, _, n + 1, .cons _ t => Vals.drop n t
def RelO : Option V → Option Value → Prop
  | some v, some u => RelV v u
  | none, none => True
  | _, _ => False
def KV {κ : Type} : List (κ × V) → List (κ × Value) → Prop := Paired fun (p : κ × V) (q : κ × Value) => p.1 = q.1 ∧ RelV p.2 q.2

/-- a key of a dict (00_mix): an int or a text -/
def kV : Key → V
  | .inl i => .int i
  | .inr x => .str x

/-- what stands at a tracked address -/
inductive HO where
  /-- a list -/
  | lst (xs : List V)
  /-- a tuple (never changes) -/
  | tup (xs : List V)
  /-- a dict whose keys are ints and texts; one whose keys are tuples of ints and texts (the empty one is both) -/
  | dK (kvs : List (Key × V)) | dT (kvs : List (List Key × V))
  /-- a set of ints: its members, its size -/
  | set (S : Int → Bool) (n : Nat)
  /-- an instance of the class at C, its dict at dx, its attributes -/
  | ins (C dx : Addr) (fs : List (Str × V))
  /-- the dict of the instance at x -/
  | own (x : Addr)
  /-- the dict of an exception -/
  | xd (fs : List (Str × V))
  /-- a bound method, f of x -/
  | met (f x : Addr)
  /-- a range object lo, lo + 1, .. below hi -/
  | rng (lo hi : Int)
  /-- a thing that is known to the object (the script; a dict while a loop walks it): read, never written while it is so -/
  | frz (o : Obj) (u : HO)
  /-- a code object's table -/
  | tbl (ps : Array Value)
  /-- any other thing, by what is true of its one object (a def of one's own: SetO a S n := HO.ext fun h => ..) -/
  | ext (φ : Heap → Prop)

abbrev Hp := Addr → Option HO
def upd (H : Hp) (a : Addr) (o : HO) : Hp := fun b => if b = a then some o else H b
theorem upd_same {H : Hp} {a : Addr} {o : HO} : upd H a o a = some o := by unfold upd; rw [if_pos rfl]
theorem upd_ne {H : Hp} {a b : Addr} {o : HO} (h : b ≠ a) : upd H a o b = H b := by unfold upd; rw [if_neg h]
theorem upd_upd {H : Hp} {a : Addr} {o u : HO} : upd (upd H a o) a u = upd H a u := by
  funext b; unfold upd; split <;> rfl
theorem ne_of_none {H : Hp} {a b : Addr} {o : HO} (h : H a = some o) (h' : H b = none) : a ≠ b := by
  intro e; subst e; rw [h] at h'; cases h'

section
variable (P : Program) (w : World)
def ObjOk (H : Hp) (h : Heap) (a : Addr) : HO → Prop
  | .lst xs => xs.length ≤ sizeLine ∧ ∃ (its : List Value) (n : Nat), Vals xs its ∧ h.get? a = some { cls := .type "list", data := .seq its.toArray n }
  | .tup xs => xs.length ≤ sizeLine ∧ ∃ its : List Value, Vals xs its ∧ IsTup h a its.toArray
  | .dK kvs => kvs.length ≤ sizeLine ∧ (a == sysModules) = false ∧ ∃ vs, KV kvs vs ∧ h.DictOf (mixKind P w) a vs
  | .dT kvs => kvs.length ≤ sizeLine ∧ (a == sysModules) = false ∧ ∃ xs : List (List Key × Addr × Value),
      Paired (fun (p : List Key × V) (q : List Key × Addr × Value) => p.1 = q.1 ∧ H q.2.1 = some (.tup (p.1.map kV)) ∧ RelV p.2 q.2.2) kvs xs ∧
      ∃ o es ep, h.get? a = some o ∧ o.ExactDict ∧ o.data = .dict es ep ∧ es.toList = xs.map (entryOfKey (tupleKind (mixKind P w))) ∧ (xs.map (·.1)).Nodup
  | .set S n => h.SetOf (intKind P w) a S n
  | .ins C dx fs => H dx = some (.own a) ∧ fs.length ≤ 1000 ∧ dx ≠ a ∧ h.get? a = some (PySem.W.instObj C dx) ∧
      ∃ mA, h.Ns1 dx mA ∧ (∀ f, RelO (fs.lookup f) (mA f)) ∧ PySem.Within mA (fs.map (·.1))
  | .own _ => ∃ o, h.get? a = some o
  | .xd fs => ∃ mA, h.Ns1 a mA ∧ ∀ f, RelO (fs.lookup f) (mA f)
  | .rng lo hi => ∃ t u v, h.get? a = some { cls := .type "range", data := .fields #[.int lo t, .int hi u, .int 1 v] }
  | .frz o u => h.get? a = some o ∧ ObjOk H h a u
  | .tbl ps => h.get? a = some { cls := .none, data := .fields ps }
  | .met f x => h.get? a = some (PySem.W.methodObj (.ref f) (.ref x))
  | .ext φ => φ h ∧ (∃ o, h.get? a = some o) ∧ ∀ h1 h2 : Heap, φ h1 → (∀ o, h1.get? a = some o → h2.get? a = some o) → φ h2
/-- the abstract heap is held -/
def HOk (H : Hp) (h : Heap) : Prop := ∀ a o, H a = some o → ObjOk P w H h a o
end

section
variable {P : Program} {w : World} {H H' : Hp} {h h' : Heap} {a : Addr} {o : HO}
theorem ObjOk.lt (x : ObjOk P w H h a o) : a < h.objs.size := by
  cases o with
  | lst xs => obtain ⟨_, _, _, _, e⟩ := x; exact Heap.lt_size e
  | tup xs => obtain ⟨_, _, _, p⟩ := x; exact p.lt
  | dK kvs => obtain ⟨_, _, _, _, o, _, _, e, _⟩ := x; exact Heap.lt_size e
  | dT kvs => obtain ⟨_, _, _, _, o, _, _, e, _⟩ := x; exact Heap.lt_size e
  | set S n => obtain ⟨o, _, _, _, e, _⟩ := x; exact Heap.lt_size e
  | ins C dx fs => obtain ⟨_, _, _, e, _⟩ := x; exact Heap.lt_size e
  | own y => obtain ⟨_, e⟩ := x; exact Heap.lt_size e
  | xd fs => obtain ⟨_, ⟨_, _, _, e, _⟩, _⟩ := x; exact Heap.lt_size e
  | rng lo hi => obtain ⟨_, _, _, e⟩ := x; exact Heap.lt_size e
  | frz ob u => obtain ⟨e, _⟩ := x; exact Heap.lt_size e
  | tbl ps => exact Heap.lt_size (show h.get? a = some _ from x)
  | met f y => exact Heap.lt_size (show h.get? a = some _ from x)
  | ext φ => obtain ⟨_, ⟨_, e⟩, _⟩ := x; exact Heap.lt_size e
theorem Paired.mapP {α β : Type} {F G : α → β → Prop} : ∀ {l₁ : List α} {l₂ : List β}, Paired F l₁ l₂ → (∀ a b, F a b → G a b) → Paired G l₁ l₂
  | _, _, .nil, _ => .nil
  | _, _, .cons r t, f => .cons (f _ _ r) (Paired.mapP t f)
/-- what an object's description leans on: its own object, its own dict, the tuples -/
theorem ObjOk.stay (x : ObjOk P w H h a o) (k : ∀ b u, (b = a ∨ H b = some (.own a)) → h.get? b = some u → h'.get? b = some u)
    (ho : ∀ b, H b = some (.own a) → H' b = some (.own a)) (ht : ∀ b xs, H b = some (.tup xs) → H' b = some (.tup xs)) : ObjOk P w H' h' a o := by
  induction o with
  | lst xs => obtain ⟨z, its, n, r, e⟩ := x; exact ⟨z, its, n, r, k _ _ (.inl rfl) e⟩
  | tup xs => obtain ⟨z, its, r, ob, e, c⟩ := x; exact ⟨z, its, r, ob, k _ _ (.inl rfl) e, c⟩
  | dK kvs => obtain ⟨z, y, vs, r, ob, es, ep, e, c⟩ := x; exact ⟨z, y, vs, r, ob, es, ep, k _ _ (.inl rfl) e, c⟩
  | dT kvs =>
    obtain ⟨z, y, xs, r, ob, es, ep, e, c⟩ := x
    exact ⟨z, y, xs, Paired.mapP r fun p q z => ⟨z.1, ht _ _ z.2.1, z.2.2⟩, ob, es, ep, k _ _ (.inl rfl) e, c⟩
  | set S n => obtain ⟨ob, es, ep, t, e, c⟩ := x; exact ⟨ob, es, ep, t, k _ _ (.inl rfl) e, c⟩
  | ins C dx fs =>
    obtain ⟨d, z, ne, e, mA, ⟨od, es, ep, e2, c⟩, r⟩ := x
    exact ⟨ho _ d, z, ne, k _ _ (.inl rfl) e, mA, ⟨od, es, ep, k _ _ (.inr d) e2, c⟩, r⟩
  | own y => obtain ⟨ob, e⟩ := x; exact ⟨ob, k _ _ (.inl rfl) e⟩
  | xd fs => obtain ⟨mA, ⟨od, es, ep, e, c⟩, r⟩ := x; exact ⟨mA, ⟨od, es, ep, k _ _ (.inl rfl) e, c⟩, r⟩
  | rng lo hi => obtain ⟨t, u, v, e⟩ := x; exact ⟨t, u, v, k _ _ (.inl rfl) e⟩
  | frz ob u ih => obtain ⟨e, q⟩ := x; exact ⟨k _ _ (.inl rfl) e, ih q⟩
  | tbl ps =>
    have e : h.get? a = some { cls := .none, data := .fields ps } := x
    show h'.get? a = some { cls := .none, data := .fields ps }
    exact k a _ (.inl rfl) e
  | met f y =>
    have e : h.get? a = some (PySem.W.methodObj (.ref f) (.ref y)) := x
    show h'.get? a = some (PySem.W.methodObj (.ref f) (.ref y))
    exact k a _ (.inl rfl) e
  | ext φ => obtain ⟨p, ⟨o, e⟩, st⟩ := x; exact ⟨st _ _ p fun o q => k _ _ (.inl rfl) q, ⟨o, k _ _ (.inl rfl) e⟩, st⟩
theorem HOk.lt (x : HOk P w H h) (e : H a = some o) : a < h.objs.size := (x a o e).lt
theorem HOk.fresh (x : HOk P w H h) (e : h.objs.size ≤ a) : H a = none := by
  cases q : H a with
  | none => rfl
  | some u => exact absurd (Nat.lt_of_lt_of_le (x.lt q) e) (Nat.lt_irrefl _)
/-- every object of the heap is kept -/
theorem HOk.kept (x : HOk P w H h) (k : ∀ b u, h.get? b = some u → h'.get? b = some u) : HOk P w H h' := fun a o e =>
  (x a o e).stay (fun b u _ q => k b u q) (fun _ q => q) fun _ _ q => q
/-- a new object is laid and tracked -/
theorem HOk.laid (x : HOk P w H h) (k : ∀ b u, h.get? b = some u → h'.get? b = some u) (hp : h.objs.size ≤ a) (new : ObjOk P w (upd H a o) h' a o) : HOk P w (upd H a o) h' := fun b u e => by
  have hn := x.fresh hp
  by_cases hb : b = a
  · subst hb; rw [upd_same] at e; cases e; exact new
  · rw [upd_ne hb] at e
    exact (x b u e).stay (fun c v _ q => k c v q) (fun c q => by rw [upd_ne (ne_of_none q hn)]; exact q) fun c xs q => by rw [upd_ne (ne_of_none q hn)]; exact q
end

/-- what may be read as u: it is u, or a known u -/
def Rd (H : Hp) (a : Addr) (u : HO) : Prop := H a = some u ∨ ∃ o, H a = some (.frz o u)
theorem Rd.ok {P : Program} {w : World} {H : Hp} {h : Heap} {a : Addr} {u : HO} (r : Rd H a u) (x : HOk P w H h) : ObjOk P w H h a u := by
  rcases r with r | ⟨o, r⟩
  · exact x a u r
  · obtain ⟨_, q⟩ := x a _ r
    exact q
/-- what may be written -/
def Mut : Option HO → Prop
  | some (.lst _) => True
  | some (.dK _) => True
  | some (.dT _) => True
  | some (.set _ _) => True
  | some (.ins _ _ _) => True
  | some (.ext _) => True
  | _ => False
section
variable {P : Program} {w : World} {H : Hp} {h h' : Heap} {x e : Addr} {o' : HO}
/-- the object at e is changed: x itself, or the dict of the instance x -/
theorem HOk.write (ok : HOk P w H h) (mu : Mut (H x)) (he : e = x ∨ H e = some (.own x)) (k : ∀ b u, b ≠ e → h.get? b = some u → h'.get? b = some u) (heo : ∃ u, h'.get? e = some u)
    (new : ObjOk P w (upd H x o') h' x o') : HOk P w (upd H x o') h' := fun b u q => by
  have nown : ∀ c y, H c = some (.own y) → c ≠ x := fun c y r z => by subst z; rw [r] at mu; exact mu
  have ntup : ∀ c xs, H c = some (.tup xs) → c ≠ x := fun c xs r z => by subst z; rw [r] at mu; exact mu
  by_cases hb : b = x
  · subst hb; rw [upd_same] at q; cases q; exact new
  · rw [upd_ne hb] at q
    by_cases hbe : b = e
    · have q' : H b = some (.own x) := by
        rcases he with z | z
        · exact absurd (hbe.trans z) hb
        · rw [hbe]; exact z
      rw [q] at q'; cases q'
      obtain ⟨v, hv⟩ := heo
      exact ⟨v, by rw [hbe]; exact hv⟩
    · refine (ok b u q).stay (fun c v hc r => k c v ?_ r) (fun c r => by rw [upd_ne (nown c b r)]; exact r) fun c xs r => by rw [upd_ne (ntup c xs r)]; exact r
      rcases hc with rfl | hc
      · exact hbe
      · rintro rfl
        rcases he with z | z
        · exact nown c b hc z
        · rw [hc] at z; cases z; exact hb rfl
end

/-! ### kept unless tracked; of the frames at fs (the callers') the slots may change (an exception that passes writes there); of the records at ex (iterators) nothing is said -/
structure Un (fs ex : List Addr) (H H' : Hp) (h h' : Heap) : Prop where
  keep : ∀ b o, h.get? b = some o → H b = none → b ∉ fs → b ∉ ex → h'.get? b = some o
  slot : ∀ b o, h.get? b = some o → H b = none → b ∈ fs → b ∉ ex → ∃ sl, h'.get? b = some { o with slots := sl }
  free : ∀ b o, h.get? b = some o → H b = none → b ∉ ex → H' b = none
  there : ∀ b o, h.get? b = some o → b ∉ ex → ∃ o', h'.get? b = some o'
  tups : ∀ b xs, H b = some (.tup xs) → H' b = some (.tup xs)
  frzs : ∀ b o u, H b = some (.frz o u) → H' b = some (.frz o u)
  tbls : ∀ b ps, H b = some (.tbl ps) → ∃ more, H' b = some (.tbl (ps ++ more))
section
variable {fs fs' ex ex' : List Addr} {H H1 H2 : Hp} {h h1 h2 h' : Heap} {a x e : Addr} {o : HO}
theorem Un.any (u : Un fs ex H H1 h h1) {b : Addr} {ob : Obj} (q : h.get? b = some ob) (n : H b = none) (hx : b ∉ ex) : ∃ sl, h1.get? b = some { ob with slots := sl } := by
  by_cases hb : b ∈ fs
  · exact u.slot b ob q n hb hx
  · exact ⟨ob.slots, u.keep b ob q n hb hx⟩
theorem Un.kept (k : ∀ b u, h.get? b = some u → h'.get? b = some u) : Un fs ex H H h h' :=
  ⟨fun b ob q _ _ _ => k b ob q, fun b ob q _ _ _ => ⟨ob.slots, k b ob q⟩, fun _ _ _ n _ => n, fun b ob q _ => ⟨ob, k b ob q⟩, fun _ _ q => q, fun _ _ _ q => q, fun _ ps q => ⟨#[], by rw [q]; simp⟩⟩
theorem Un.refl : Un fs ex H H h h := Un.kept fun _ _ q => q
theorem Un.laid (k : ∀ b u, h.get? b = some u → h'.get? b = some u) (hp : h.objs.size ≤ a) (hn : H a = none) : Un fs ex H (upd H a o) h h' where
  keep := fun b u q _ _ _ => k b u q
  slot := fun b u q _ _ _ => ⟨u.slots, k b u q⟩
  free := fun b u q n _ => by rw [upd_ne (Nat.ne_of_lt (Nat.lt_of_lt_of_le (Heap.lt_size q) hp))]; exact n
  there := fun b u q _ => ⟨u, k b u q⟩
  tups := fun b xs q => by rw [upd_ne (ne_of_none q hn)]; exact q
  frzs := fun b u xs q => by rw [upd_ne (ne_of_none q hn)]; exact q
  tbls := fun b ps q => ⟨#[], by rw [upd_ne (ne_of_none q hn), q]; simp⟩
theorem Un.write (mu : Mut (H x)) (he : e = x ∨ H e = some (.own x)) (k : ∀ b u, b ≠ e → h.get? b = some u → h'.get? b = some u) (heo : ∃ u, h'.get? e = some u) : Un fs ex H (upd H x o) h h' := by
  have hx : ∀ b, H b = none → b ≠ x := fun b n z => by subst z; rw [n] at mu; exact mu
  have hb : ∀ b, H b = none → b ≠ e := fun b n z => by
    subst z
    rcases he with r | r
    · exact hx b n r
    · rw [n] at r; cases r
  have hm : ∀ b u, H b = some u → ¬ Mut (some u) → b ≠ x := fun b u q nm z => by subst z; rw [q] at mu; exact nm mu
  refine ⟨fun b u q n _ _ => k b u (hb b n) q, fun b u q n _ _ => ⟨u.slots, k b u (hb b n) q⟩, fun b u q n _ => by rw [upd_ne (hx b n)]; exact n, fun b u q _ => ?_,
    fun b xs q => by rw [upd_ne (hm b _ q fun z => z)]; exact q, fun b u xs q => by rw [upd_ne (hm b _ q fun z => z)]; exact q, fun b ps q => ⟨#[], by rw [upd_ne (hm b _ q fun z => z), q]; simp⟩⟩
  by_cases hbe : b = e
  · subst hbe; exact heo
  · exact ⟨u, k b u hbe q⟩
end

/-! ### the heap without what is tracked -/
def trk (h : Heap) (H : Hp) : List Addr := (List.range h.objs.size).filter fun a => (H a).isSome
def hidT (h : Heap) (H : Hp) : Heap := PySem.W.hideAll h (trk h H)
theorem hidT_size (h : Heap) (H : Hp) : (hidT h H).objs.size = h.objs.size := PySem.W.hideAll_size _ _
theorem hidT_get {h : Heap} {H : Hp} {b : Addr} {o : Obj} (e : h.get? b = some o) (n : H b = none) : (hidT h H).get? b = some o :=
  PySem.W.hideAll_get _ e fun hm => by
    have q : (H b).isSome = true := (List.mem_filter.mp hm).2
    rw [n] at q; simp at q
theorem of_hidT {h : Heap} {H : Hp} {b : Addr} {o : Obj} (e : (hidT h H).get? b = some o) : h.get? b = some o ∧ H b = none := by
  have e' : h.get? b = some o := PySem.W.of_hideAll (trk h H) e
  refine ⟨e', ?_⟩
  cases q : H b with
  | none => rfl
  | some x =>
    have hm : b ∈ trk h H := List.mem_filter.mpr ⟨List.mem_range.mpr (Heap.lt_size e'), by simp [q]⟩
    have z : (hidT h H).get? b = none := PySem.W.hideAll_none (trk h H) hm
    rw [z] at e; cases e

/-! ### OpenK's ledger, filled with every new object but one -/
def allNews (g h : Heap) (L : Addr) : List (Addr × Obj) := (List.range h.objs.size).filterMap fun a => if a = L ∨ (g.get? a).isSome = true then none else (h.get? a).map fun o => (a, o)
def rest (g h : Heap) (L d : Addr) : List (Addr × Obj) := (allNews g h L).filter fun p => decide (p.1 ≠ d)
end L2

namespace L2
open PySem PySem.Spec PyProof.Rows

/-- the module's facts, over the base: the heap at the law's entry without what is tracked there -/
structure Mod (K : PySem.W.Frag) (mg : Str → Option Value) (base : Heap) : Prop where
  kin : K.In base
  glob : base.Ns mainGlobals mg
  blt : ∃ mb, base.Ns builtinsNs mb ∧ ∀ x : Str, x ≠ "__name__" → mb x = bootBuiltins x
  nolimit : base.NoLimit

/-- the context: a def's body (or a comprehension's block) running. base: fixed through the whole law; s₀, H₀: the entry; outer: the frames whose slots others may change (a def's callers); stack: all frames that run;
   ex: iterators that were made ahead of the entry and are walked here (a comprehension's); fn: the names whose cells were made at the entry (a def: all; a comprehension's block: its own); calm: not within an except suite; pn: pins that every state bears; xe: what is wanted of an exception that leaves the code -/
structure Cx where
  prog : Program
  w : World
  K : PySem.W.Frag
  mg : Str → Option Value
  base : Heap
  A : Around
  N : List Str
  s₀ : Shared
  H₀ : Hp
  env : Env
  outer : List Env
  stack : List Env
  ex : List Addr
  fn : Str → Bool
  calm : Bool
  pn : List (Addr × Obj)
  xe : Value → Shared → Prop
/-- the callers' frames -/
def frs (l : List Env) : List Addr := l.filterMap (·.frame)
abbrev Cx.fs (X : Cx) : List Addr := frs X.outer

def Vis (sc : Scope) (x : Str) : Prop := sc.names.lookup x = some .local ∨ sc.names.lookup x = some .cell ∨ sc.names.lookup x = some .free
def Loc (sc : Scope) (x : Str) : Prop := sc.names.lookup x = some .local ∨ sc.names.lookup x = some .cell
def Look (env : Env) (h : Heap) (m : Str → Option Value) (x : Str) (u : Value) : Prop :=
  (env.kindOf x = some .local ∧ m x = some u) ∨ ((env.kindOf x = some .cell ∨ env.kindOf x = some .free) ∧ ∃ c, env.cells.lookup x = some c ∧ h.IsCell c (some u))

structure Cx.Ok (X : Cx) : Prop where
  mod : Mod X.K X.mg X.base
  kind : X.env.scope.kind = .function
  glob : X.env.globals = mainGlobals
  blt : X.env.builtins = builtinsNs
  above : X.s₀.heap.objs.size ≤ X.env.locals
  inj : ∀ x y c, X.env.cells.lookup x = some c → X.env.cells.lookup y = some c → x = y
  has : ∀ x, (X.env.kindOf x = some .cell ∨ X.env.kindOf x = some .free) → ∃ c, X.env.cells.lookup x = some c
  cab : ∀ x c, X.fn x = true → X.env.cells.lookup x = some c → X.s₀.heap.objs.size ≤ c
  hd : X.calm = true → X.A.handled = none
  frames : X.A.frames = some X.stack
  stk : X.stack = X.outer ∨ (X.stack = X.env :: X.outer ∧ X.env.frame = some X.env.locals)
  exf : ∀ b ∈ X.ex, b ≠ X.env.locals ∧ ∀ x c, X.env.cells.lookup x = some c → c ≠ b
  bs : ∀ b o, X.base.get? b = some o → X.s₀.heap.get? b = some o ∧ X.H₀ b = none
  bsz : X.base.objs.size ≤ X.s₀.heap.objs.size
  noex : ∀ b o, X.base.get? b = some o → b ∉ X.ex
  exfs : ∀ b ∈ X.ex, b ∉ X.fs
  funs : X.s₀.heap.FunFrames X.base X.outer
  frf : ∀ b ∈ X.fs, X.H₀ b = none

structure Inv (X : Cx) (pins : List (Addr × Obj)) (σ : List (Option V)) (H : Hp) (s : Shared) : Prop where
  ok : X.Ok
  os : s.os = X.s₀.os
  bare : AllBare s.gens
  base : Un X.fs X.ex X.H₀ H X.s₀.heap s.heap
  loc : ∃ m, s.heap.Ns X.env.locals m ∧ ∀ (i : Nat) (x : Str) (v : V), X.N[i]? = some x → σ[i]? = some (some v) → Vis X.env.scope x → ∃ u, RelV v u ∧ Look X.env s.heap m x u
  cell : ∀ x c, X.env.cells.lookup x = some c → ∃ v, s.heap.IsCell c v
  free : H X.env.locals = none
  freeC : ∀ x c, X.env.cells.lookup x = some c → H c = none
  pin : ∀ p ∈ X.pn ++ pins, s.heap.get? p.1 = some p.2 ∧ H p.1 = none ∧ p.1 ≠ X.env.locals ∧ p.1 ∉ X.fs ∧ ∀ v, p.2.data ≠ .cell v
  hok : HOk X.prog X.w H s.heap
  len : σ.length = X.N.length

section
variable {X : Cx} {pins : List (Addr × Obj)} {σ : List (Option V)} {H H' : Hp} {s : Shared} {h' : Heap}

theorem Cx.Ok.nofr (ok : X.Ok) {b : Addr} {o : Obj} (e : X.base.get? b = some o) : b ∉ X.fs := fun hb => by
  have := (ok.funs.mem hb).1
  rw [e] at this; cases this
theorem Inv.bs (I : Inv X pins σ H s) : ∀ b o, X.base.get? b = some o → s.heap.get? b = some o ∧ H b = none := fun b o e =>
  ⟨I.base.keep b o (I.ok.bs b o e).1 (I.ok.bs b o e).2 (I.ok.nofr e) (I.ok.noex b o e), I.base.free b o (I.ok.bs b o e).1 (I.ok.bs b o e).2 (I.ok.noex b o e)⟩
theorem Inv.bk (I : Inv X pins σ H s) : ∀ b o, X.base.get? b = some o → s.heap.get? b = some o := fun b o e => (I.bs b o e).1
theorem Inv.mod (I : Inv X pins σ H s) : Mod X.K X.mg X.base := I.ok.mod
theorem Inv.kIn (I : Inv X pins σ H s) : X.K.In s.heap := I.ok.mod.kin.keeps I.bk
theorem Inv.lt (I : Inv X pins σ H s) : X.env.locals < s.heap.objs.size := let ⟨_, hn, _⟩ := I.loc; hn.lt
theorem Inv.sz (I : Inv X pins σ H s) : X.s₀.heap.objs.size ≤ s.heap.objs.size := Nat.le_trans I.ok.above (Nat.le_of_lt I.lt)
theorem Inv.nofs (I : Inv X pins σ H s) {a : Addr} (h : s.heap.objs.size ≤ a) : a ∉ X.fs := fun hb => by
  obtain ⟨_, o, ho, _⟩ := I.ok.funs.mem hb
  exact absurd (Nat.lt_of_lt_of_le (Heap.lt_size ho) (Nat.le_trans I.sz h)) (Nat.lt_irrefl _)
theorem Inv.cne (I : Inv X pins σ H s) : ∀ x c, X.env.cells.lookup x = some c → c ≠ X.env.locals := fun x c e z => by
  obtain ⟨v, o, ho, hd⟩ := I.cell x c e
  obtain ⟨m, ⟨o', es, ep, ho', hd', _⟩, _⟩ := I.loc
  rw [z, ho'] at ho; cases ho; rw [hd'] at hd; cases hd
theorem Inv.funs (I : Inv X pins σ H s) : s.heap.FunFrames X.base X.outer := by
  have all : ∀ (l : List Env), (∀ b ∈ frs l, b ∈ X.fs) → X.s₀.heap.FunFrames X.base l → s.heap.FunFrames X.base l := by
    intro l
    induction l with
    | nil => intro _ _; trivial
    | cons env r ih =>
      intro hs hl
      obtain ⟨hk, ⟨L, o, hf, hn, ho, hd⟩, hr⟩ := hl
      have hL : L ∈ X.fs := hs L (by unfold frs; rw [List.filterMap_cons, hf]; exact List.mem_cons_self)
      obtain ⟨sl, e⟩ := I.base.slot L o ho (I.ok.frf L hL) hL fun z => I.ok.exfs L z hL
      exact ⟨hk, ⟨L, _, hf, hn, e, hd⟩, ih (fun b hb => hs b (by unfold frs; rw [List.filterMap_cons, hf]; exact List.mem_cons_of_mem _ hb)) hr⟩
  exact all X.outer (fun _ hb => hb) I.ok.funs

/-- the frames that run, for a call -/
theorem Inv.stack (I : Inv X pins σ H s) : s.heap.FunFrames X.base X.stack := by
  rcases I.ok.stk with e | ⟨e, hf⟩
  · rw [e]; exact I.funs
  · rw [e]
    obtain ⟨m, hn, _⟩ := I.loc
    refine .cons (by rw [I.ok.kind]; decide) hf hn ?_ I.funs
    exact Heap.get?_none_of_le (Nat.le_trans I.ok.bsz I.ok.above)
theorem Inv.stkSub (I : Inv X pins σ H s) : ∀ b ∈ frs X.stack, b ∈ X.env.locals :: X.fs := fun b hb => by
  rcases I.ok.stk with e | ⟨e, hf⟩
  · rw [e] at hb; exact List.mem_cons_of_mem _ hb
  · rw [e] at hb
    unfold frs at hb
    rw [List.filterMap_cons, hf] at hb
    exact hb
theorem Inv.stkFree (I : Inv X pins σ H s) : ∀ b ∈ frs X.stack, H b = none := fun b hb => by
  rcases List.mem_cons.mp (I.stkSub b hb) with e | hb
  · rw [e]; exact I.free
  · obtain ⟨_, o, ho, _⟩ := I.ok.funs.mem hb
    exact I.base.free b o ho (I.ok.frf b hb) fun z => I.ok.exfs b z hb

/-- THE STEP: the untracked objects but the frame and the records at ch are kept (the callers' frames up to slots), the frame's map is kept, the new abstract heap is held -/
theorem Inv.step {g' : Array GenState} {t' : Nat} {d' : Drawn} {ch : List Addr} (I : Inv X pins σ H s)
    (hch : ∀ b ∈ ch, (b ∈ X.ex ∨ X.s₀.heap.objs.size ≤ b) ∧ b ≠ X.env.locals ∧ (∀ x c, X.env.cells.lookup x = some c → c ≠ b) ∧ ∀ p ∈ X.pn ++ pins, p.1 ≠ b)
    (keep : ∀ b o, b ≠ X.env.locals → b ∉ X.fs → b ∉ ch → s.heap.get? b = some o → H b = none → h'.get? b = some o)
    (slot : ∀ b o, b ≠ X.env.locals → b ∈ X.fs → b ∉ ch → s.heap.get? b = some o → H b = none → ∃ sl, h'.get? b = some { o with slots := sl }) (free : ∀ b o, b ∉ ch → s.heap.get? b = some o → H b = none → H' b = none)
    (there : ∀ b o, b ∉ ch → s.heap.get? b = some o → ∃ o', h'.get? b = some o')
    (tups : ∀ b xs, H b = some (.tup xs) → H' b = some (.tup xs)) (frzs : ∀ b o u, H b = some (.frz o u) → H' b = some (.frz o u)) (tbls : ∀ b ps, H b = some (.tbl ps) → ∃ more, H' b = some (.tbl (ps ++ more)))
    (ns : ∀ m, s.heap.Ns X.env.locals m → h'.Ns X.env.locals m) (hok : HOk X.prog X.w H' h') (hg : AllBare g') :
    Inv X pins σ H' { s with heap := h', gens := g', drawn := d', toks := t' } := by
  have neL : ∀ b o, X.s₀.heap.get? b = some o → b ≠ X.env.locals := fun b o e => Nat.ne_of_lt (Nat.lt_of_lt_of_le (Heap.lt_size e) I.ok.above)
  have neC : ∀ b o, X.s₀.heap.get? b = some o → b ∉ X.ex → b ∉ ch := fun b o e hx hb => by
    rcases (hch b hb).1 with z | z
    · exact hx z
    · exact absurd (Nat.lt_of_lt_of_le (Heap.lt_size e) z) (Nat.lt_irrefl _)
  have cellK : ∀ x c, X.env.cells.lookup x = some c → ∀ v, s.heap.IsCell c v → h'.IsCell c v := fun x c e v ⟨o, ho, hd⟩ => by
    have nch : c ∉ ch := fun z => (hch c z).2.2.1 x c e rfl
    by_cases hc : c ∈ X.fs
    · obtain ⟨sl, q⟩ := slot c o (I.cne x c e) hc nch ho (I.freeC x c e)
      exact ⟨_, q, hd⟩
    · exact ⟨o, keep c o (I.cne x c e) hc nch ho (I.freeC x c e), hd⟩
  refine ⟨I.ok, I.os, hg, ⟨fun b o e n hb hx => ?_, fun b o e n hb hx => ?_, fun b o e n hx => ?_, fun b o e hx => ?_, fun b xs e => tups b xs (I.base.tups b xs e), fun b o xs e => frzs b o xs (I.base.frzs b o xs e), fun b ps e => ?_⟩, ?_, fun x c e => ?_, ?_, fun x c e => ?_, fun p hp => ?_, hok, I.len⟩
  · exact keep b o (neL b o e) hb (neC b o e hx) (I.base.keep b o e n hb hx) (I.base.free b o e n hx)
  · obtain ⟨sl, e1⟩ := I.base.slot b o e n hb hx
    obtain ⟨sl', e2⟩ := slot b _ (neL b o e) hb (neC b o e hx) e1 (I.base.free b o e n hx)
    exact ⟨sl', e2⟩
  · obtain ⟨o', e1⟩ := I.base.there b o e hx
    exact free b o' (neC b o e hx) e1 (I.base.free b o e n hx)
  · obtain ⟨o', e1⟩ := I.base.there b o e hx
    exact there b o' (neC b o e hx) e1
  · obtain ⟨m1, e1⟩ := I.base.tbls b ps e
    obtain ⟨m2, e2⟩ := tbls b _ e1
    exact ⟨m1 ++ m2, by rw [e2, Array.append_assoc]⟩
  · obtain ⟨m, hn, hl⟩ := I.loc
    refine ⟨m, ns m hn, fun i x v e1 e2 e3 => ?_⟩
    obtain ⟨u, r, l⟩ := hl i x v e1 e2 e3
    refine ⟨u, r, ?_⟩
    rcases l with l | ⟨k, c, e, z⟩
    · exact .inl l
    · exact .inr ⟨k, c, e, cellK x c e _ z⟩
  · obtain ⟨v, z⟩ := I.cell x c e
    exact ⟨v, cellK x c e v z⟩
  · obtain ⟨m, ⟨o, _, _, ho, _⟩, _⟩ := I.loc
    exact free _ o (fun z => (hch _ z).2.1 rfl) ho I.free
  · obtain ⟨v, o, ho, hd⟩ := I.cell x c e
    exact free c o (fun z => (hch c z).2.2.1 x c e rfl) ho (I.freeC x c e)
  · obtain ⟨e, n, ne, nf, d⟩ := I.pin p hp
    have nch : p.1 ∉ ch := fun z => (hch p.1 z).2.2.2 p hp rfl
    exact ⟨keep p.1 p.2 ne nf nch e n, free p.1 p.2 nch e n, ne, nf, d⟩
/-- .. where the frame's own object is kept too -/
theorem Inv.un {t' : Nat} (I : Inv X pins σ H s) (u : Un X.fs [] H H' s.heap h') (hok : HOk X.prog X.w H' h') : Inv X pins σ H' { s with heap := h', toks := t' } := by
  obtain ⟨m, ⟨o, es, ep, ho, r⟩, _⟩ := id I.loc
  obtain ⟨sl, hL⟩ := u.any ho I.free (by simp)
  exact I.step (g' := s.gens) (d' := s.drawn) (ch := []) (fun _ z => nomatch z) (fun b o _ hb _ e n => u.keep b o e n hb (by simp)) (fun b o _ hb _ e n => u.slot b o e n hb (by simp)) (fun b o _ e n => u.free b o e n (by simp)) (fun b o _ e => u.there b o e (by simp)) u.tups u.frzs u.tbls (fun m' hm => by
    obtain ⟨o', es', ep', ho', r'⟩ := hm
    rw [ho] at ho'; cases ho'
    exact ⟨_, es', ep', hL, r'⟩) hok I.bare
/-- behind a call (or a comprehension's block): the slots of this frame may have changed too, the records at ch may have turned -/
theorem Inv.call {g' : Array GenState} {t' : Nat} {d' : Drawn} {ch : List Addr} (I : Inv X pins σ H s) (u : Un (frs X.stack) ch H H' s.heap h') (hok : HOk X.prog X.w H' h') (hg : AllBare g')
    (hch : ∀ b ∈ ch, (b ∈ X.ex ∨ X.s₀.heap.objs.size ≤ b) ∧ b ≠ X.env.locals ∧ (∀ x c, X.env.cells.lookup x = some c → c ≠ b) ∧ ∀ p ∈ X.pn ++ pins, p.1 ≠ b) :
    Inv X pins σ H' { s with heap := h', gens := g', drawn := d', toks := t' } := by
  obtain ⟨m, ⟨o, es, ep, ho, r⟩, _⟩ := id I.loc
  obtain ⟨sl, hL⟩ := u.any ho I.free fun z => (hch _ z).2.1 rfl
  exact I.step (ch := ch) hch (fun b o hL hb hc e n => u.keep b o e n (fun z => (List.mem_cons.mp (I.stkSub b z)).elim hL hb) hc) (fun b o _ _ hc e n => u.any e n hc) (fun b o hc e n => u.free b o e n hc) (fun b o hc e => u.there b o e hc) u.tups u.frzs u.tbls (fun m' hm => by
    obtain ⟨o', es', ep', ho', r'⟩ := hm
    rw [ho] at ho'; cases ho'
    exact ⟨_, es', ep', hL, r'⟩) hok hg
/-- an untracked record of ours (an iterator) has turned -/
theorem Inv.turned {t' : Nat} {it : Addr} (I : Inv X pins σ H s) (k : ∀ b o, b ≠ it → s.heap.get? b = some o → h'.get? b = some o) (hn : H it = none) (hL : it ≠ X.env.locals)
    (h1 : it ∈ X.ex ∨ X.s₀.heap.objs.size ≤ it) (h2 : ∀ x c, X.env.cells.lookup x = some c → c ≠ it) (h3 : ∀ p ∈ X.pn ++ pins, p.1 ≠ it) : Inv X pins σ H { s with heap := h', toks := t' } := by
  have nit : ∀ b u, H b = some u → b ≠ it := fun b u e z => by rw [z, hn] at e; cases e
  refine I.step (g' := s.gens) (d' := s.drawn) (ch := [it]) (fun b hb => ?_) (fun b o _ _ hc e _ => k b o (fun z => hc (by simp [z])) e) (fun b o _ _ hc e _ => ⟨o.slots, k b o (fun z => hc (by simp [z])) e⟩) (fun _ _ _ _ n => n)
    (fun b o hc e => ⟨o, k b o (fun z => hc (by simp [z])) e⟩) (fun _ _ e => e) (fun _ _ _ e => e) (fun b ps e => ⟨#[], by rw [e]; simp⟩) (fun m hm => ?_) (fun b u e => ?_) I.bare
  · have e : b = it := by simpa using hb
    subst e
    exact ⟨h1, hL, h2, h3⟩
  · obtain ⟨o, es, ep, ho, r⟩ := hm
    exact ⟨o, es, ep, k _ o (Ne.symm hL) ho, r⟩
  · refine (I.hok b u e).stay (fun c v hc q => k c v ?_ q) (fun _ q => q) fun _ _ q => q
    rcases hc with z | z
    · rw [z]; exact nit b u e
    · exact nit c _ z
theorem Inv.tok (I : Inv X pins σ H s) (t : Nat) : Inv X pins σ H { s with toks := t } := I.un (h' := s.heap) (t' := t) Un.refl I.hok
/-- all objects kept -/
theorem Inv.kept {t' : Nat} (I : Inv X pins σ H s) (k : ∀ b u, s.heap.get? b = some u → h'.get? b = some u) : Inv X pins σ H { s with heap := h', toks := t' } := I.un (Un.kept k) (I.hok.kept k)
/-- a new object laid and tracked -/
theorem Inv.laid {a : Addr} {o : HO} {t' : Nat} (I : Inv X pins σ H s) (k : ∀ b u, s.heap.get? b = some u → h'.get? b = some u) (hp : s.heap.objs.size ≤ a) (new : ObjOk X.prog X.w (upd H a o) h' a o) :
    Inv X pins σ (upd H a o) { s with heap := h', toks := t' } := I.un (Un.laid k hp (I.hok.fresh hp)) (I.hok.laid k hp new)
/-- an object written -/
theorem Inv.write {x e : Addr} {o : HO} {t' : Nat} (I : Inv X pins σ H s) (mu : Mut (H x)) (he : e = x ∨ H e = some (.own x)) (k : ∀ b u, b ≠ e → s.heap.get? b = some u → h'.get? b = some u) (heo : ∃ u, h'.get? e = some u)
    (new : ObjOk X.prog X.w (upd H x o) h' x o) : Inv X pins σ (upd H x o) { s with heap := h', toks := t' } := I.un (Un.write mu he k heo) (I.hok.write mu he k heo new)
theorem Inv.pins_of {pins' : List (Addr × Obj)} (I : Inv X pins σ H s) (h : ∀ p ∈ pins', s.heap.get? p.1 = some p.2 ∧ H p.1 = none ∧ p.1 ≠ X.env.locals ∧ p.1 ∉ X.fs ∧ ∀ v, p.2.data ≠ .cell v) : Inv X pins' σ H s :=
  ⟨I.ok, I.os, I.bare, I.base, I.loc, I.cell, I.free, I.freeC, fun p hp => (List.mem_append.mp hp).elim (fun z => I.pin p (List.mem_append_left _ z)) (h p), I.hok, I.len⟩

theorem nodup_ix {N : List Str} (hN : N.Nodup) {i j : Nat} {x : Str} (a : N[i]? = some x) (b : N[j]? = some x) : i = j := by
  obtain ⟨h1, e1⟩ := List.getElem?_eq_some_iff.mp a
  obtain ⟨h2, e2⟩ := List.getElem?_eq_some_iff.mp b
  exact (List.getElem_inj hN).mp (e1.trans e2.symm)

/-- a name is stored; what changed -/
theorem store_ok2 {M : Model} {A : Around} {E : Value → Shared → Prop} {i : Nat} {x : Str} {v : V} {u : Value} {Q : Unit → Shared → Prop} (I : Inv X pins σ H s) (hN : X.N.Nodup) (hi : X.N[i]? = some x) (hx : Loc X.env.scope x) (r : RelV v u)
    (h : ∀ s', Inv X pins (σ.set i (some v)) H s' → (∃ a, Heap.SameBut a s.heap s'.heap ∧ (a = X.env.locals ∨ X.env.cells.lookup x = some a)) → Q () s') (hf : X.fn x = true ∨ X.env.scope.names.lookup x = some .local := by first | exact .inl rfl | exact .inr rfl | assumption) : wpAny M A (storeName X.env x u) Q E s := by
  obtain ⟨m, hn, hl⟩ := id I.loc
  have hcls : (X.env.scope.kind == .class || (X.env.scope.kind == .module && X.env.locals != X.env.globals)) = false := by rw [I.ok.kind]; rfl
  have hiσ : i < σ.length := by rw [I.len]; exact (List.getElem?_eq_some_iff.mp hi).1
  have cne := I.cne
  have tracked : ∀ {a : Addr} {h' : Heap}, (∃ o, s.heap.get? a = some o ∧ H a = none) → Heap.SameBut a s.heap h' → HOk X.prog X.w H h' := fun {a h'} ha hs b ob e => by
    obtain ⟨_, _, hfree⟩ := ha
    refine (I.hok b ob e).stay (fun c w' hc q => (hs.2 c ?_).trans q) (fun _ q => q) fun _ _ q => q
    rintro rfl
    rcases hc with rfl | hc
    · rw [hfree] at e; cases e
    · rw [hfree] at hc; cases hc
  rcases hx with hk | hk
  · refine wpAny_storeName_local hk hn (fun h' hn' hs => ?_) hcls
    obtain ⟨oL, _, _, hoL, _⟩ := id hn
    refine h _ ⟨I.ok, I.os, I.bare, ⟨fun b o e n hb hx => ?_, fun b o e n hb hx => ?_, I.base.free, fun b o e hx => ?_, I.base.tups, I.base.frzs, I.base.tbls⟩, ⟨_, hn', fun j y v' e1 e2 e3 => ?_⟩, fun y c e => ?_, I.free, I.freeC, fun p hp => ?_, tracked ⟨oL, hoL, I.free⟩ hs, by simpa using I.len⟩ ⟨_, hs, .inl rfl⟩
    · exact (hs.2 b (Nat.ne_of_lt (Nat.lt_of_lt_of_le (Heap.lt_size e) I.ok.above))).trans (I.base.keep b o e n hb hx)
    · obtain ⟨sl, e1⟩ := I.base.slot b o e n hb hx
      exact ⟨sl, (hs.2 b (Nat.ne_of_lt (Nat.lt_of_lt_of_le (Heap.lt_size e) I.ok.above))).trans e1⟩
    · obtain ⟨o', e1⟩ := I.base.there b o e hx
      exact ⟨o', (hs.2 b (Nat.ne_of_lt (Nat.lt_of_lt_of_le (Heap.lt_size e) I.ok.above))).trans e1⟩
    · by_cases hj : j = i
      · subst hj
        rw [hi] at e1; cases e1
        rw [List.getElem?_set_self hiσ] at e2
        cases e2
        exact ⟨u, r, .inl ⟨hk, by simp⟩⟩
      · rw [List.getElem?_set_ne (Ne.symm hj)] at e2
        obtain ⟨u', r', q⟩ := hl j y v' e1 e2 e3
        refine ⟨u', r', ?_⟩
        rcases q with ⟨k, e⟩ | ⟨k, c, e, z⟩
        · refine .inl ⟨k, ?_⟩
          have : y ≠ x := fun e => hj (nodup_ix hN e1 (e ▸ hi))
          simp [this, e]
        · exact .inr ⟨k, c, e, z.sameBut hs (cne y c e)⟩
    · obtain ⟨w', z⟩ := I.cell y c e
      exact ⟨w', z.sameBut hs (cne y c e)⟩
    · obtain ⟨e, n, ne, nf, d⟩ := I.pin p hp
      exact ⟨(hs.2 p.1 ne).trans e, n, ne, nf, d⟩
  · have hfn : X.fn x = true := by
      rcases hf with z | z
      · exact z
      · rw [z] at hk; cases hk
    obtain ⟨c, hc⟩ := I.ok.has x (.inl hk)
    obtain ⟨w', z⟩ := I.cell x c hc
    refine wpAny_storeName_cell I.ok.kind hk hc z (fun h' hc' hs => ?_)
    obtain ⟨oc, hoc, hocd⟩ := id z
    refine h { s with heap := h' } ⟨I.ok, I.os, I.bare, ⟨fun b o e n hb hx => ?_, fun b o e n hb hx => ?_, I.base.free, fun b o e hx => ?_, I.base.tups, I.base.frzs, I.base.tbls⟩, ⟨m, hn.sameBut hs (Ne.symm (cne x c hc)), fun j y v' e1 e2 e3 => ?_⟩, fun y c' e => ?_, I.free, I.freeC, fun p hp => ?_, tracked ⟨oc, hoc, I.freeC x c hc⟩ hs, by simpa using I.len⟩ ⟨c, hs, .inr hc⟩
    · exact (hs.2 b (Nat.ne_of_lt (Nat.lt_of_lt_of_le (Heap.lt_size e) (I.ok.cab x c hfn hc)))).trans (I.base.keep b o e n hb hx)
    · obtain ⟨sl, e1⟩ := I.base.slot b o e n hb hx
      exact ⟨sl, (hs.2 b (Nat.ne_of_lt (Nat.lt_of_lt_of_le (Heap.lt_size e) (I.ok.cab x c hfn hc)))).trans e1⟩
    · obtain ⟨o', e1⟩ := I.base.there b o e hx
      exact ⟨o', (hs.2 b (Nat.ne_of_lt (Nat.lt_of_lt_of_le (Heap.lt_size e) (I.ok.cab x c hfn hc)))).trans e1⟩
    · by_cases hj : j = i
      · subst hj
        rw [hi] at e1; cases e1
        rw [List.getElem?_set_self hiσ] at e2
        cases e2
        exact ⟨u, r, .inr ⟨.inl hk, c, hc, hc'⟩⟩
      · rw [List.getElem?_set_ne (Ne.symm hj)] at e2
        obtain ⟨u', r', q⟩ := hl j y v' e1 e2 e3
        refine ⟨u', r', ?_⟩
        rcases q with q | ⟨k, c', e, z'⟩
        · exact .inl q
        · refine .inr ⟨k, c', e, z'.sameBut hs ?_⟩
          rintro rfl
          exact hj (nodup_ix hN e1 (I.ok.inj _ _ _ e hc ▸ hi))
    · by_cases hcc : c' = c
      · subst hcc; exact ⟨_, hc'⟩
      · obtain ⟨w2, z2⟩ := I.cell y c' e
        exact ⟨w2, z2.sameBut hs hcc⟩
    · obtain ⟨e, n, ne, nf, d⟩ := I.pin p hp
      refine ⟨(hs.2 p.1 ?_).trans e, n, ne, nf, d⟩
      intro q
      rw [q, hoc] at e
      have q' : oc = p.2 := Option.some.inj e
      exact d w' (by rw [← q']; exact hocd)
theorem store_ok {M : Model} {A : Around} {E : Value → Shared → Prop} {i : Nat} {x : Str} {v : V} {u : Value} {Q : Unit → Shared → Prop} (I : Inv X pins σ H s) (hN : X.N.Nodup) (hi : X.N[i]? = some x) (hx : Loc X.env.scope x) (r : RelV v u)
    (h : ∀ s', Inv X pins (σ.set i (some v)) H s' → Q () s') (hf : X.fn x = true ∨ X.env.scope.names.lookup x = some .local := by first | exact .inl rfl | exact .inr rfl | assumption) : wpAny M A (storeName X.env x u) Q E s :=
  store_ok2 I hN hi hx r (fun s' I' _ => h s' I') hf
/-- behind a call or a block, the state as it is -/
theorem Inv.call' {s' : Shared} {ch : List Addr} (I : Inv X pins σ H s) (ho : s'.os = s.os) (u : Un (frs X.stack) ch H H' s.heap s'.heap) (hok : HOk X.prog X.w H' s'.heap) (hg : AllBare s'.gens)
    (hch : ∀ b ∈ ch, (b ∈ X.ex ∨ X.s₀.heap.objs.size ≤ b) ∧ b ≠ X.env.locals ∧ (∀ x c, X.env.cells.lookup x = some c → c ≠ b) ∧ ∀ p ∈ X.pn ++ pins, p.1 ≠ b) : Inv X pins σ H' s' := by
  obtain ⟨h', g', d', t', o'⟩ := s'
  have e : o' = s.os := ho
  subst e
  exact I.call (g' := g') (t' := t') (d' := d') u hok hg hch
end

/-! ### the judgements -/
/-- an exception: its class, its own dict's address (where it has one), the abstract heap behind it -/
abbrev XK := Value → Option Addr → Hp → Prop
abbrev St := List (Option V)
abbrev VK := V → Hp → Prop
/-- an expression's reading; a test's; an argument list's -/
abbrev TE := St → Hp → VK → Prop
abbrev TT := St → Hp → (Bool → Hp → Prop) → Prop
abbrev TA := St → Hp → (List V → Hp → Prop) → Prop
/-- what is wanted behind a statement -/
structure Ends where
  nx : St → Hp → Prop
  rt : VK
  bk : St → Hp → Prop := fun _ _ => False
  ct : St → Hp → Prop := fun _ _ => False
abbrev TS := Ends → St → Hp → Prop

def EP (X : Cx) (pins : List (Addr × Obj)) (σ : St) (Q : VK) (u : Value) (s' : Shared) : Prop := ∃ v H', Inv X pins σ H' s' ∧ RelV v u ∧ Q v H'
def TP (X : Cx) (pins : List (Addr × Obj)) (σ : St) (Q : Bool → Hp → Prop) (b : Bool) (s' : Shared) : Prop := ∃ H', Inv X pins σ H' s' ∧ Q b H'
def AP (X : Cx) (pins : List (Addr × Obj)) (σ : St) (Q : List V → Hp → Prop) (us : List Value) (s' : Shared) : Prop := ∃ vs H', Inv X pins σ H' s' ∧ Vals vs us ∧ Q vs H'
def SP (X : Cx) (pins : List (Addr × Obj)) (D : Ends) (f : Flow) (s' : Shared) : Prop :=
  match f with
  | .next => ∃ σ' H', Inv X pins σ' H' s' ∧ D.nx σ' H'
  | .brk => ∃ σ' H', Inv X pins σ' H' s' ∧ D.bk σ' H'
  | .cont => ∃ σ' H', Inv X pins σ' H' s' ∧ D.ct σ' H'
  | .ret u => ∃ v σ' H', Inv X pins σ' H' s' ∧ RelV v u ∧ D.rt v H'

def PE (X : Cx) (e : Expr) (t : TE) : Prop :=
  ∀ (pins : List (Addr × Obj)) (s : Shared) (σ : St) (H : Hp) (Q : VK), Inv X pins σ H s → t σ H Q → wpAny (model X.prog X.w) X.A (eval e X.env) (EP X pins σ Q) X.xe s
def PT (X : Cx) (e : Expr) (t : TT) : Prop :=
  ∀ (pins : List (Addr × Obj)) (s : Shared) (σ : St) (H : Hp) (Q : Bool → Hp → Prop), Inv X pins σ H s → t σ H Q → wpAny (model X.prog X.w) X.A (isTrue e X.env (eval e X.env)) (TP X pins σ Q) X.xe s
/-- a test whatever its 'whole' is (and, or) -/
def PW (X : Cx) (e : Expr) (t : TT) : Prop :=
  ∀ (whole : Sem Value) (pins : List (Addr × Obj)) (s : Shared) (σ : St) (H : Hp) (Q : Bool → Hp → Prop), Inv X pins σ H s → t σ H Q → wpAny (model X.prog X.w) X.A (isTrue e X.env whole) (TP X pins σ Q) X.xe s
theorem PW.pt {X : Cx} {e : Expr} {t : TT} (h : PW X e t) : PT X e t := h _
/-- an argument list (no star), from the left -/
def PA (X : Cx) (es : List Expr) (t : TA) : Prop :=
  ∀ (pos : Pos) (pins : List (Addr × Obj)) (s : Shared) (σ : St) (H : Hp) (Q : List V → Hp → Prop), Inv X pins σ H s → t σ H Q → wpAny (model X.prog X.w) X.A (spliced (backTo pos (starEach es X.env))) (AP X pins σ Q) X.xe s
def PS (X : Cx) (st : Stmt) (t : TS) : Prop :=
  ∀ (pins : List (Addr × Obj)) (s : Shared) (σ : St) (H : Hp) (D : Ends), Inv X pins σ H s → t D σ H → wpAny (model X.prog X.w) X.A (exec st X.env) (SP X pins D) X.xe s
def PSs (X : Cx) (st : List Stmt) (t : TS) : Prop :=
  ∀ (pins : List (Addr × Obj)) (s : Shared) (σ : St) (H : Hp) (D : Ends), Inv X pins σ H s → t D σ H → wpAny (model X.prog X.w) X.A (execs st X.env) (SP X pins D) X.xe s
/-- weaken the end -/
theorem thn {α : Type} {t : Sem α} {Q Q' : α → Shared → Prop} {M : Model} {A : Around} {E : Value → Shared → Prop} {s : Shared} (h : wpAny M A t Q E s) (hQ : ∀ a s, Q a s → Q' a s) : wpAny M A t Q' E s := wpAny_mono h hQ fun _ _ x => x
end L2

namespace L2
open PySem PySem.Spec PyProof.Rows
section
variable {X : Cx}

/-! ### names and constants -/
def tVar (i : Nat) : TE := fun σ H Q => ∃ v, σ[i]? = some (some v) ∧ Q v H
def tC (v : V) : TE := fun _ H Q => Q v H
theorem pe_var {i : Nat} {x : Str} {pos : Pos} (hN : X.N[i]? = some x) (hv : Vis X.env.scope x) (hd : (x == ("__debug__" : Str)) = false := by decide) (hcd : (x == ("__classdict__" : Str)) = false := by decide) : PE X (.Name x pos) (tVar i) := by
  intro pins s σ H Q I h
  obtain ⟨v, e, h⟩ := h
  obtain ⟨m, hn, hl⟩ := I.loc
  obtain ⟨u, r, l⟩ := hl i x v hN e hv
  have fin : EP X pins σ Q u s := ⟨v, H, I, r, h⟩
  rcases l with ⟨hk, hm⟩ | ⟨hk, c, hc, hcell⟩
  · exact wpAny_Name (wpAny_loadName_local I.ok.kind hk hn hm fin) hd
  · rcases hk with hk | hk
    · exact wpAny_Name (wpAny_loadName_cell I.ok.kind hk hc hcell fin) hd
    · exact wpAny_Name (wpAny_loadName_free I.ok.kind hk hc hcell fin hcd) hd
theorem pe_int {i j pos} : PE X (.Constant (.int i) j pos) (tC (.int i)) := fun _ _ _ H _ I h => wpAny_Constant_int ⟨.int i, H, I.tok _, ⟨_, rfl⟩, h⟩
theorem pe_bl {b j pos} : PE X (.Constant (.bool b) j pos) (tC (.bl b)) := fun _ _ _ H _ I h => Constant_bool ⟨.bl b, H, I, rfl, h⟩
theorem pe_non {j pos} : PE X (.Constant .none j pos) (tC .non) := fun _ _ _ H _ I h => Constant_none ⟨.non, H, I, rfl, h⟩
theorem pe_str {x j pos} : PE X (.Constant (.str x) j pos) (tC (.str x)) := fun _ _ _ H _ I h => Calls.Constant_str ⟨.str x, H, I.tok _, ⟨_, rfl⟩, h⟩

/-- a global name of the def -/
def Gl (X : Cx) (x : Str) : Prop := X.env.kindOf x = some .globalImplicit
theorem ld_glob {E : Value → Shared → Prop} {pins : List (Addr × Obj)} {s : Shared} {σ : St} {H : Hp} {x : Str} {u : Value} {pos : Pos} {Q : Value → Shared → Prop} (I : Inv X pins σ H s) (hg : Gl X x) (hm : X.mg x = some u) (h : Q u s)
    (hd : (x == ("__debug__" : Str)) = false := by decide) : wpAny (model X.prog X.w) X.A (eval (.Name x pos) X.env) Q E s :=
  Calls.Name_function_global I.ok.kind hg (Calls.loadGlobal_global (by rw [I.ok.glob]; exact I.mod.glob.keeps I.bk) hm h) hd
theorem ld_blt {E : Value → Shared → Prop} {pins : List (Addr × Obj)} {s : Shared} {σ : St} {H : Hp} {x : Str} {u : Value} {pos : Pos} {Q : Value → Shared → Prop} (I : Inv X pins σ H s) (hg : Gl X x) (hm : X.mg x = none) (hv : bootBuiltins x = some u) (h : Q u s)
    (hn : x ≠ "__name__" := by decide) (hd : (x == ("__debug__" : Str)) = false := by decide) : wpAny (model X.prog X.w) X.A (eval (.Name x pos) X.env) Q E s := by
  obtain ⟨mb, h1, h2⟩ := I.mod.blt
  exact Calls.Name_function_global I.ok.kind hg (Calls.loadGlobal_builtin (by rw [I.ok.glob]; exact I.mod.glob.keeps I.bk) hm (by rw [I.ok.blt]; exact h1.keeps I.bk) ((h2 x hn).trans hv) h) hd
theorem pe_bltn {x : Str} {v : V} {u : Value} {pos : Pos} (hg : Gl X x) (hm : X.mg x = none) (hv : bootBuiltins x = some u) (r : RelV v u) (hn : x ≠ "__name__" := by decide) (hd : (x == ("__debug__" : Str)) = false := by decide) : PE X (.Name x pos) (tC v) :=
  fun _ _ _ H _ I h => ld_blt I hg hm hv ⟨v, H, I, r, h⟩ hn hd

/-! ### arithmetic -/
/-- two ints -/
def t2I (ta tb : TE) (k : Int → Int → Hp → Prop) : St → Hp → Prop := fun σ H => ta σ H fun x H1 => tb σ H1 fun y H2 => ∃ i j, x = .int i ∧ y = .int j ∧ k i j H2
def tAdd (ta tb : TE) : TE := fun σ H Q => t2I ta tb (fun i j H2 => Q (.int (i + j)) H2) σ H
def tSub (ta tb : TE) : TE := fun σ H Q => t2I ta tb (fun i j H2 => Q (.int (i - j)) H2) σ H
/-- the left factor below 2^64 -/
def tMul (ta tb : TE) : TE := fun σ H Q => t2I ta tb (fun i j H2 => (-(2 ^ 64) < i ∧ i < 2 ^ 64) ∧ Q (.int (i * j)) H2) σ H
variable {a b : Expr} {ta tb : TE} {pos : Pos}
/-! ### comparisons -/
def PC (X : Cx) (op : CmpOp) (a b : Expr) (t : TE) : Prop :=
  ∀ (pins : List (Addr × Obj)) (s : Shared) (σ : St) (H : Hp) (Q : VK), Inv X pins σ H s → t σ H Q →
    wpAny (model X.prog X.w) X.A (eval a X.env) (fun v s₁ => wpAny (model X.prog X.w) X.A (eval b X.env) (fun u s₂ => wpAny (model X.prog X.w) X.A (compareOp op v u) (EP X pins σ Q) X.xe s₂) X.xe s₁) X.xe s
def tCmp (p : Int → Int → Bool) (ta tb : TE) : TE := fun σ H Q => t2I ta tb (fun i j H2 => Q (.bl (p i j)) H2) σ H
abbrev tLt : TE → TE → TE := tCmp fun i j => decide (i < j)
abbrev tLe : TE → TE → TE := tCmp fun i j => decide (i ≤ j)
abbrev tGt : TE → TE → TE := tCmp fun i j => decide (j < i)
abbrev tGe : TE → TE → TE := tCmp fun i j => decide (j ≤ i)
abbrev tEqI : TE → TE → TE := tCmp fun i j => decide (i = j)
abbrev tNeI : TE → TE → TE := tCmp fun i j => !decide (i = j)
/-- is None -/
def tIsN (ta : TE) : TE := fun σ H Q => ta σ H fun x H1 => Q (.bl (decide (x = .non))) H1
def tNotN (ta : TE) : TE := fun σ H Q => ta σ H fun x H1 => Q (.bl (!decide (x = .non))) H1
/-- a comparison as a value, as a test -/
def tB (t : TE) : TT := fun σ H Q => t σ H fun x H1 => ∃ c, x = .bl c ∧ Q c H1
/-- an expression whose value is a bool, as a test -/
theorem pt_val {e : Expr} {t : TE} (h : PE X e t) (he : ∀ whole, isTrue e X.env whole = (do let v ← whole; standAt e.pos; holding [v] (truthy v)) := by intro _; rfl) : PT X e (tB t) := by
  intro pins s σ H Q I hw
  refine isTrue_plain (thn (h pins s σ H _ I hw) fun v s1 ⟨x, H1, I1, r1, q1⟩ => ?_) (he _)
  obtain ⟨d, rfl, q⟩ := q1
  cases r1
  exact wpAny_truthy_bool ⟨H1, I1, q⟩

/-! ### and, or, not -/
variable {tA tB' : TT} {rest : List Expr}
def tAnd (t u : TT) : TT := fun σ H Q => t σ H fun c H1 => if c = true then u σ H1 Q else Q false H1
def tOr (t u : TT) : TT := fun σ H Q => t σ H fun c H1 => if c = true then Q true H1 else u σ H1 Q
def tNot (t : TT) : TT := fun σ H Q => t σ H fun c H1 => Q (!c) H1
theorem pw_and1 (ha : PT X a tA) : PW X (.BoolOp .And [a] pos) tA := by
  intro wh pins s σ H Q I h
  refine isTrue_and (thn (ha pins s σ H Q I h) fun c s1 e => ?_)
  cases c with
  | true => exact isTrue_and_nil e
  | false => exact e
theorem pw_or1 (ha : PT X a tA) : PW X (.BoolOp .Or [a] pos) tA := by
  intro wh pins s σ H Q I h
  refine isTrue_or (thn (ha pins s σ H Q I h) fun c s1 e => ?_)
  cases c with
  | false => exact isTrue_or_nil e
  | true => exact e
theorem pw_and (ha : PT X a tA) (hb : PW X (.BoolOp .And (b :: rest) pos) tB') : PW X (.BoolOp .And (a :: b :: rest) pos) (tAnd tA tB') := by
  intro wh pins s σ H Q I h
  refine isTrue_and (thn (ha pins s σ H _ I h) fun c s1 ⟨H1, I1, q1⟩ => ?_)
  cases c with
  | true => exact hb wh pins s1 σ H1 Q I1 q1
  | false => exact ⟨H1, I1, q1⟩
theorem pw_or (ha : PT X a tA) (hb : PW X (.BoolOp .Or (b :: rest) pos) tB') : PW X (.BoolOp .Or (a :: b :: rest) pos) (tOr tA tB') := by
  intro wh pins s σ H Q I h
  refine isTrue_or (thn (ha pins s σ H _ I h) fun c s1 ⟨H1, I1, q1⟩ => ?_)
  cases c with
  | true => exact ⟨H1, I1, q1⟩
  | false => exact hb wh pins s1 σ H1 Q I1 q1
theorem pt_not (ha : PT X a tA) : PT X (.UnaryOp .Not a pos) (tNot tA) := by
  intro pins s σ H Q I h
  exact isTrue_not (ha pins s σ H (fun c H1 => Q (!c) H1) I h)
/-- .. as values (bools) -/
def tAndV (ta tb : TE) : TE := fun σ H Q => ta σ H fun x H1 => ∃ c, x = .bl c ∧ if c = true then tb σ H1 Q else Q (.bl false) H1
def tOrV (ta tb : TE) : TE := fun σ H Q => ta σ H fun x H1 => ∃ c, x = .bl c ∧ if c = true then Q (.bl true) H1 else tb σ H1 Q
def tNotV (ta : TE) : TE := fun σ H Q => ta σ H fun x H1 => ∃ c, x = .bl c ∧ Q (.bl (!c)) H1
theorem pe_one {op} {t : TE} (h : PE X a t) : PE X (.BoolOp op [a] pos) t := fun pins s σ H Q I hw => BoolOp_one (h pins s σ H Q I hw)
theorem pe_and (ha : PE X a ta) (hb : PE X (.BoolOp .And (b :: rest) pos) tb) : PE X (.BoolOp .And (a :: b :: rest) pos) (tAndV ta tb) := by
  intro pins s σ H Q I h
  refine BoolOp_and (thn (ha pins s σ H _ I h) fun v s1 ⟨x, H1, I1, r1, q1⟩ => ?_)
  obtain ⟨c, rfl, q1⟩ := q1
  cases r1
  refine wpAny_truthy_bool ?_
  cases c with
  | true => exact hb pins s1 σ H1 Q I1 q1
  | false => exact ⟨.bl false, H1, I1, rfl, q1⟩
/-- a if t else b -/
def tIf (t : TT) (ta tb : TE) : TE := fun σ H Q => t σ H fun c H1 => if c = true then ta σ H1 Q else tb σ H1 Q
theorem pe_ifExp {c : Expr} (hc : PT X c tA) (ha : PE X a ta) (hb : PE X b tb) : PE X (.IfExp c a b pos) (tIf tA ta tb) := by
  intro pins s σ H Q I h
  refine wpAny_IfExp (thn (hc pins s σ H _ I h) fun d s1 ⟨H1, I1, q1⟩ => ?_)
  cases d with
  | true => exact ha pins s1 σ H1 Q I1 q1
  | false => exact hb pins s1 σ H1 Q I1 q1
end
end L2

namespace L2
open PySem PySem.Spec PyProof.Rows

/-! ### a list, a tuple that is read: tracked, frozen, or an object of the module -/
def SqL (K : PySem.W.Frag) (H : Hp) (a : Addr) (xs : List V) : Prop :=
  Rd H a (.lst xs) ∨
    ∃ (o : Obj) (its : Array Value) (n : Nat), K.lookup a = some o ∧ o.cls = .type "list" ∧ o.dict = none ∧ o.data = .seq its n ∧ its.size ≤ sizeLine ∧ Vals xs its.toList
def SqT (K : PySem.W.Frag) (H : Hp) (a : Addr) (xs : List V) : Prop :=
  Rd H a (.tup xs) ∨
    ∃ (o : Obj) (its : Array Value) (n : Nat), K.lookup a = some o ∧ o.cls = .type "tuple" ∧ o.data = .seq its n ∧ its.size ≤ sizeLine ∧ Vals xs its.toList
def absV : Value → Option V
  | .none => some .non
  | .bool b => some (.bl b)
  | .int i _ => some (.int i)
  | .str x _ => some (.str x)
  | .bytes b _ => some (.byt b)
  | .float b _ => some (.flt b)
  | .ref a => some (.ref a)
  | .type n => some (.ty n)
  | _ => none
theorem RelV.abs {x : V} {u : Value} (r : RelV x u) : absV u = some x := by
  cases x with
  | non => cases r; rfl
  | bl _ => cases r; rfl
  | int _ => obtain ⟨t, rfl⟩ := r; rfl
  | str _ => obtain ⟨t, rfl⟩ := r; rfl
  | byt _ => obtain ⟨t, rfl⟩ := r; rfl
  | flt _ => obtain ⟨t, rfl⟩ := r; rfl
  | ref _ => cases r; rfl
  | ty _ => cases r; rfl
theorem RelV.inj {x y : V} {u : Value} (r : RelV x u) (q : RelV y u) : x = y := Option.some.inj (r.abs.symm.trans q.abs)
theorem Vals.inj : ∀ {xs ys : List V} {us : List Value}, Vals xs us → Vals ys us → xs = ys
  | _, _, _, .nil, .nil => rfl
  | _, _, _, .cons r t, .cons r' t' => by rw [r.inj r', Vals.inj t t']
section
variable {X : Cx} {pins : List (Addr × Obj)} {σ : St} {H : Hp} {s : Shared} {a : Addr} {xs ys : List V}
theorem SqL.of {K : PySem.W.Frag} (h : H a = some (.lst xs)) : SqL K H a xs := .inl (.inl h)
theorem SqT.of {K : PySem.W.Frag} (h : H a = some (.tup xs)) : SqT K H a xs := .inl (.inl h)
theorem Inv.list (I : Inv X pins σ H s) (h : SqL X.K H a xs) : ∃ its : List Value, Vals xs its ∧ PlainL s.heap a its.toArray ∧ xs.length ≤ sizeLine := by
  rcases h with h | ⟨o, its, n, hk, hc, hd, hs, hz, r⟩
  · obtain ⟨z, its, n, r, e⟩ := h.ok I.hok
    exact ⟨its, r, ⟨_, n, e, rfl, rfl, rfl⟩, z⟩
  · refine ⟨its.toList, r, ⟨o, n, I.kIn a o hk, hc, hd, by simpa using hs⟩, ?_⟩
    have e := r.length
    simp only [Array.length_toList] at e
    omega
theorem Inv.tuple (I : Inv X pins σ H s) (h : SqT X.K H a xs) : ∃ its : List Value, Vals xs its ∧ IsTup s.heap a its.toArray ∧ xs.length ≤ sizeLine := by
  rcases h with h | ⟨o, its, n, hk, hc, hs, hz, r⟩
  · obtain ⟨z, its, r, p⟩ := h.ok I.hok
    exact ⟨its, r, p, z⟩
  · refine ⟨its.toList, r, ⟨o, I.kIn a o hk, hc, n, by simpa using hs⟩, ?_⟩
    have e := r.length
    simp only [Array.length_toList] at e
    omega
theorem Inv.list_inj (I : Inv X pins σ H s) (h : SqL X.K H a xs) (h' : SqL X.K H a ys) : xs = ys := by
  obtain ⟨its, r, ⟨o, n, e, _, _, d⟩, _⟩ := I.list h
  obtain ⟨its', r', ⟨o', n', e', _, _, d'⟩, _⟩ := I.list h'
  rw [e] at e'; cases e'
  rw [d] at d'
  injection d' with d1 _
  have : its = its' := by simpa using congrArg Array.toList d1
  subst this
  exact r.inj r'
theorem Inv.tuple_inj (I : Inv X pins σ H s) (h : SqT X.K H a xs) (h' : SqT X.K H a ys) : xs = ys := by
  obtain ⟨its, r, ⟨o, e, _, n, d⟩, _⟩ := I.tuple h
  obtain ⟨its', r', ⟨o', e', _, n', d'⟩, _⟩ := I.tuple h'
  rw [e] at e'; cases e'
  rw [d] at d'
  injection d' with d1 _
  have : its = its' := by simpa using congrArg Array.toList d1
  subst this
  exact r.inj r'
end

/-! ### another wish about exceptions -/
abbrev Cx.wish (X : Cx) (E : Value → Shared → Prop) : Cx := { X with xe := E }
/-- no exception leaves -/
abbrev Cx.nox (X : Cx) : Cx := X.wish fun _ _ => False
theorem Cx.Ok.wish {X : Cx} (ok : X.Ok) (E : Value → Shared → Prop) : (X.wish E).Ok :=
  ⟨ok.mod, ok.kind, ok.glob, ok.blt, ok.above, ok.inj, ok.has, ok.cab, ok.hd, ok.frames, ok.stk, ok.exf, ok.bs, ok.bsz, ok.noex, ok.exfs, ok.funs, ok.frf⟩
theorem Cx.Ok.unwish {X : Cx} {E : Value → Shared → Prop} (ok : (X.wish E).Ok) : X.Ok :=
  ⟨ok.mod, ok.kind, ok.glob, ok.blt, ok.above, ok.inj, ok.has, ok.cab, ok.hd, ok.frames, ok.stk, ok.exf, ok.bs, ok.bsz, ok.noex, ok.exfs, ok.funs, ok.frf⟩
section
variable {X : Cx} {pins : List (Addr × Obj)} {σ : St} {H : Hp} {s : Shared} {E : Value → Shared → Prop}
theorem Inv.wish (I : Inv X pins σ H s) (E : Value → Shared → Prop) : Inv (X.wish E) pins σ H s := ⟨I.ok.wish E, I.os, I.bare, I.base, I.loc, I.cell, I.free, I.freeC, I.pin, I.hok, I.len⟩
theorem Inv.unwish (I : Inv (X.wish E) pins σ H s) : Inv X pins σ H s := ⟨I.ok.unwish, I.os, I.bare, I.base, I.loc, I.cell, I.free, I.freeC, I.pin, I.hok, I.len⟩
theorem SP.unwish {D : Ends} {f : Flow} {s' : Shared} (h : SP (X.wish E) pins D f s') : SP X pins D f s' := by
  cases f with
  | next => obtain ⟨σ', H', I, q⟩ := h; exact ⟨σ', H', I.unwish, q⟩
  | brk => obtain ⟨σ', H', I, q⟩ := h; exact ⟨σ', H', I.unwish, q⟩
  | cont => obtain ⟨σ', H', I, q⟩ := h; exact ⟨σ', H', I.unwish, q⟩
  | ret u => obtain ⟨v, σ', H', I, r, q⟩ := h; exact ⟨v, σ', H', I.unwish, r, q⟩
theorem PSs.nox {st : List Stmt} {t : TS} (h : PSs X.nox st t) : PSs X st t := fun pins s σ H D I hw =>
  wpAny_mono (h pins s σ H D (I.wish _) hw) (fun _ _ q => q.unwish) fun _ _ z => False.elim z
end

/-! ### blocks and small statements -/
section
variable {X : Cx} {st : Stmt} {rest : List Stmt} {t u : TS} {e : Expr} {te : TE} {pos : Pos}
def tNext : TS := fun D σ H => D.nx σ H
def tSeq (t u : TS) : TS := fun D σ H => t { D with nx := u D } σ H
theorem pss_nil : PSs X [] tNext := fun _ _ σ H _ I h => wpAny_execs_nil ⟨σ, H, I, h⟩
theorem pss_cons (h1 : PS X st t) (h2 : PSs X rest u) : PSs X (st :: rest) (tSeq t u) := by
  intro pins s σ H D I h
  refine wpAny_execs_cons (thn (h1 pins s σ H { D with nx := u D } I h) fun f s1 q => ?_)
  cases f with
  | next =>
    obtain ⟨σ', H', I', q⟩ := q
    exact h2 pins s1 σ' H' D I' q
  | ret v => exact q
  | brk => exact q
  | cont => exact q
theorem pss_one (h1 : PS X st t) : PSs X [st] t := by
  intro pins s σ H D I h
  refine wpAny_execs_cons (thn (h1 pins s σ H D I h) fun f s1 q => ?_)
  cases f with
  | next => exact wpAny_execs_nil q
  | ret v => exact q
  | brk => exact q
  | cont => exact q
def tBreak : TS := fun D σ H => D.bk σ H
def tCont : TS := fun D σ H => D.ct σ H
/-- in a def's body nothing is shown -/
theorem Inv.quiet {pins : List (Addr × Obj)} {σ : St} {H : Hp} {s : Shared} (I : Inv X pins σ H s) : interactive X.env = false := by simp [interactive, I.ok.kind]
/-- an expression whose value is dropped -/
def tDrop (te : TE) : TS := fun D σ H => te σ H fun _ H1 => D.nx σ H1
theorem ps_expr (he : PE X e te) (hs : swapsWith e none pos.line X.env = pure false := by rfl) : PS X (.Expr e pos) (tDrop te) := by
  intro pins s σ H D I h
  exact wpAny_Expr_any (thn (he pins s σ H _ I h) fun v s1 ⟨x, H1, I1, r1, q1⟩ => ⟨σ, H1, I1, q1⟩) I.quiet hs
def tRet (te : TE) : TS := fun D σ H => te σ H D.rt
theorem ps_ret (he : PE X e te) : PS X (.Return (some e) pos) (tRet te) := by
  intro pins s σ H D I h
  exact wpAny_Return_some (thn (he pins s σ H _ I h) fun v s1 ⟨x, H1, I1, r1, q1⟩ => ⟨x, σ, H1, I1, r1, q1⟩)
def tRetN : TS := fun D _ H => D.rt .non H
def tIfS (c : TT) (t u : TS) : TS := fun D σ H => c σ H fun b H1 => if b = true then t D σ H1 else u D σ H1
theorem ps_if {c : Expr} {a b : List Stmt} {tc : TT} (hc : PT X c tc) (ha : PSs X a t) (hb : PSs X b u) : PS X (.If c a b pos) (tIfS tc t u) := by
  intro pins s σ H D I h
  refine wpAny_If (thn (hc pins s σ H _ I h) fun d s1 ⟨H1, I1, q1⟩ => ?_)
  cases d with
  | true => exact ha pins s1 σ H1 D I1 q1
  | false => exact hb pins s1 σ H1 D I1 q1
/-- code that the proof never comes to -/
def tNever : TS := fun _ _ _ => False
end

/-! ### targets -/
abbrev TG := V → St → Hp → (St → Hp → Prop) → Prop
abbrev TGs := List V → St → Hp → (St → Hp → Prop) → Prop
def PG (X : Cx) (target : Expr) (t : TG) : Prop :=
  ∀ (pins : List (Addr × Obj)) (s : Shared) (σ : St) (H : Hp) (v : V) (u : Value) (Q : St → Hp → Prop), Inv X pins σ H s → RelV v u → t v σ H Q →
    wpAny (model X.prog X.w) X.A (assign target X.env u) (fun _ s' => ∃ σ' H', Inv X pins σ' H' s' ∧ Q σ' H') X.xe s
/-- several targets, one after another -/
def PGs (X : Cx) (ts : List Expr) (t : TGs) : Prop :=
  ∀ (pins : List (Addr × Obj)) (s : Shared) (σ : St) (H : Hp) (vs : List V) (us : List Value) (Q : St → Hp → Prop), Inv X pins σ H s → Vals vs us → t vs σ H Q →
    wpAny (model X.prog X.w) X.A (assignInOrder ((assignEach ts X.env).map (·.2)) us) (fun _ s' => ∃ σ' H', Inv X pins σ' H' s' ∧ Q σ' H') X.xe s
/-- o[i] = v, by values -/
abbrev TSet := V → V → V → Hp → (Hp → Prop) → Prop
def PSet (X : Cx) (t : TSet) : Prop :=
  ∀ (pins : List (Addr × Obj)) (s : Shared) (σ : St) (H : Hp) (o i v : V) (ov iv u : Value) (Q : Hp → Prop), Inv X pins σ H s → RelV o ov → RelV i iv → RelV v u → t o i v H Q →
    wpAny (model X.prog X.w) X.A (setItem ov iv u) (fun _ s' => ∃ H', Inv X pins σ H' s' ∧ Q H') X.xe s
/-- a op= b, by values -/
abbrev TIp := V → V → Hp → VK → Prop
def PIp (X : Cx) (op : Operator) (t : TIp) : Prop :=
  ∀ (pins : List (Addr × Obj)) (s : Shared) (σ : St) (H : Hp) (x y : V) (v u : Value) (Q : VK), Inv X pins σ H s → RelV x v → RelV y u → t x y H Q →
    wpAny (model X.prog X.w) X.A (inplaceOp op v u) (EP X pins σ Q) X.xe s
section
variable {X : Cx} {pos : Pos}
def gName (i : Nat) : TG := fun v σ H Q => Q (σ.set i (some v)) H
theorem pg_name {i : Nat} {x : Str} (hN : X.N.Nodup) (hi : X.N[i]? = some x) (hx : Loc X.env.scope x) (hf : X.fn x = true ∨ X.env.scope.names.lookup x = some .local := by first | exact .inl rfl | exact .inr rfl | assumption) : PG X (.Name x pos) (gName i) := by
  intro pins s σ H v u Q I r h
  exact wpAny_assign_Name (store_ok I hN hi hx r (fun s' I' => ⟨_, H, I', h⟩) hf)
def gNil : TGs := fun vs σ H Q => vs = [] ∧ Q σ H
def gCons (t : TG) (u : TGs) : TGs := fun vs σ H Q => ∃ v r, vs = v :: r ∧ t v σ H fun σ' H' => u r σ' H' Q
theorem pgs_nil : PGs X [] gNil := by
  intro pins s σ H vs us Q I r h
  obtain ⟨e, h⟩ := h
  subst e
  cases r
  exact assignInOrder_nil ⟨σ, H, I, h⟩
theorem pgs_cons {e : Expr} {es : List Expr} {t : TG} {u : TGs} (h1 : PG X e t) (h2 : PGs X es u)
    (hs : (assignEach (e :: es) X.env).map (·.2) = assign e X.env :: (assignEach es X.env).map (·.2) := by rfl) : PGs X (e :: es) (gCons t u) := by
  intro pins s σ H vs us Q I r h
  obtain ⟨v, vr, e1, h⟩ := h
  subst e1
  cases r with
  | cons r rr =>
    rw [hs]
    refine assignInOrder_cons (thn (h1 pins s σ H _ _ _ I r h) fun _ s1 ⟨σ1, H1, I1, q1⟩ => ?_)
    exact h2 pins s1 σ1 H1 _ _ Q I1 rr q1
/-- (a, b, ..) = a tuple of that length -/
def gTup (K : PySem.W.Frag) (n : Nat) (t : TGs) : TG := fun v σ H Q => ∃ a xs, v = .ref a ∧ SqT K H a xs ∧ xs.length = n ∧ t xs σ H Q
theorem pg_tup {es : List Expr} {k : Nat} {t : TGs} {n : Nat} (hc : X.calm = true) (h : PGs X es t)
    (hn : (assignEach es X.env).length = n := by rfl) (hst : (assignEach es X.env).findIdx? (·.1) = none := by rfl) : PG X (.Tuple es k pos) (gTup X.K n t) := by
  intro pins s σ H v u Q I r hw
  obtain ⟨a, xs, e1, hq, hl, hw⟩ := hw
  subst e1
  cases r
  obtain ⟨its, rv, ht, hz⟩ := I.tuple hq
  refine assign_Tuple_tuple (I.ok.hd hc) ht (by simp [hn, ← hl, rv.length]) hst fun h' hx => ?_
  have I1 : Inv X pins σ H { s with heap := h' } := I.kept (t' := s.toks) fun b o e => hx b o (Nat.ne_of_lt (Heap.lt_size e)) e
  exact h pins _ σ H xs _ Q I1 (by simpa using rv) hw
/-- o[i] = .. -/
def gSub (to ti : TE) (t : TSet) : TG := fun v σ H Q => to σ H fun o H1 => ti σ H1 fun i H2 => t o i v H2 fun H3 => Q σ H3
theorem pg_sub {o i : Expr} {to ti : TE} {t : TSet} (ho : PE X o to) (hi : PE X i ti) (hs : PSet X t)
    (ha : ∀ v, assign (.Subscript o i pos) X.env v = (do
      let ov ← holding [v] (eval o X.env)
      let iv ← holding [v, ov] (eval i X.env)
      standAt pos
      holding [v, ov, iv] (setItem ov iv v)
      release [v, ov, iv] []) := by intro _; rfl) : PG X (.Subscript o i pos) (gSub to ti t) := by
  intro pins s σ H v u Q I r h
  rw [ha]
  refine wpAny_bind (wpAny_holding (thn (ho pins s σ H _ I h) fun ov s1 ⟨x, H1, I1, r1, q1⟩ => ?_))
  refine wpAny_bind (wpAny_holding (thn (hi pins s1 σ H1 _ I1 q1) fun iv s2 ⟨y, H2, I2, r2, q2⟩ => ?_))
  refine wpAny_bind (wpAny_standAt (wpAny_bind (wpAny_holding (thn (hs pins s2 σ H2 x y v ov iv u _ I2 r1 r2 r q2) fun _ s3 ⟨H3, I3, q3⟩ => ?_))))
  exact wpAny_release ⟨σ, H3, I3, q3⟩
/-- target = value -/
def tAsg (te : TE) (g : TG) : TS := fun D σ H => te σ H fun x H1 => g x σ H1 D.nx
theorem ps_asg {tg e : Expr} {te : TE} {g : TG} (he : PE X e te) (hg : PG X tg g) (hs : swapsWithSole [tg] e pos.line X.env = pure false := by rfl) (hw : swappedStores [tg] e X.env = pure none := by rfl)
    (h1 : (assignEach [tg] X.env).map (·.2) = [assign tg X.env] := by rfl) : PS X (.Assign [tg] e pos) (tAsg te g) := by
  intro pins s σ H D I h
  refine wpAny_Assign_stores (thn (he pins s σ H _ I h) fun v s1 ⟨x, H1, I1, r1, q1⟩ => ?_) hs hw
  rw [h1]
  exact thn (hg pins s1 σ H1 x v _ I1 r1 q1) fun _ s2 q => q
/-- name = value -/
theorem ps_set {i : Nat} {x : Str} {e : Expr} {te : TE} {pos' : Pos} (hN : X.N.Nodup) (hi : X.N[i]? = some x) (hx : Loc X.env.scope x) (he : PE X e te) (hs : swapsWith e (some (.Name x pos')) pos.line X.env = pure false := by rfl) (hf : X.fn x = true ∨ X.env.scope.names.lookup x = some .local := by first | exact .inl rfl | exact .inr rfl | assumption) :
    PS X (.Assign [.Name x pos'] e pos) (tAsg te (gName i)) := by
  intro pins s σ H D I h
  refine wpAny_Assign_Name (thn (he pins s σ H _ I h) fun v s1 ⟨y, H1, I1, r1, q1⟩ => ?_) hs
  exact store_ok I1 hN hi hx r1 (fun s2 I2 => ⟨_, H1, I2, q1⟩) hf
/-- a, b = x, y with plain local names: stored from the right; the pair itself is not tracked (the opening rows as in PyProof/Rows/TupAssign.lean:23) -/
def tPar (i j : Nat) (ta : TA) : TS := fun D σ H => ta σ H fun vs H1 => ∃ v w, vs = [v, w] ∧ D.nx ((σ.set i (some v)).set j (some w)) H1
theorem ps_par {i j : Nat} {x y : Str} {a b : Expr} {ta : TA} {px py pt : Pos} {kt k2 pt2} (hc : X.calm = true) (hN : X.N.Nodup) (hi : X.N[i]? = some x) (hj : X.N[j]? = some y) (hij : i ≠ j)
    (hx : X.env.scope.names.lookup x = some .local) (hy : X.env.scope.names.lookup y = some .local) (ha : PA X [a, b] ta)
    (hw : swappedStores [.Tuple [.Name x px, .Name y py] kt pt] (.Tuple [a, b] k2 pt2) X.env = pure (some [x, y]))
    (hs : swapsWithSole [.Tuple [.Name x px, .Name y py] kt pt] (.Tuple [a, b] k2 pt2) pos.line X.env = pure false := by rfl) :
    PS X (.Assign [.Tuple [.Name x px, .Name y py] kt pt] (.Tuple [a, b] k2 pt2) pos) (tPar i j ta) := by
  intro pins s σ H D I h
  rw [exec_Assign_arm]
  refine wpAny_bind (wpAny_standAt ?_)
  rw [hs]
  refine wpAny_bind (wpAny_pure ?_)
  rw [if_neg (by decide)]
  refine wpAny_bind (Tuple_ (thn (ha _ pins s σ H _ I h) fun us s1 ⟨vs, H1, I1, r1, q1⟩ => ?_))
  obtain ⟨v, w, e1, q1⟩ := q1
  subst e1
  obtain ⟨u1, u2, rfl, rv, rw'⟩ : ∃ u1 u2, us = [u1, u2] ∧ RelV v u1 ∧ RelV w u2 := by
    cases r1 with
    | cons p q =>
      cases q with
      | cons p' q' =>
        cases q'
        exact ⟨_, _, rfl, p, p'⟩
  refine wpAny_newObj_type ?_ (by show 2 ≤ sizeLine; decide)
  have I2 : Inv X pins σ H1 { s1 with heap := s1.heap.push { cls := .type "tuple", data := .seq [u1, u2].toArray } } := I1.kept (t' := s1.toks) fun b o e => Heap.get?_push_of_some _ e
  rw [hw]
  refine wpAny_bind (wpAny_pure ?_)
  show wpAny (model X.prog X.w) X.A (do rule "assign.swapped-stores"; let items ← unpackItems (.ref s1.heap.objs.size) 2 none; assignInOrder [fun v => bindName X.env y v, fun v => bindName X.env x v] items.reverse; pure Flow.next) _ _ _
  refine wpAny_bind (wpAny_rule (wpAny_bind (unpackItems_tuple (items := #[u1, u2]) (I.ok.hd hc) (IsTup.new s1.heap _) fun h' hx' => ?_)))
  have I3 := I2.kept (h' := h') (t' := s1.toks) fun b o e => hx' b o (Nat.ne_of_lt (Heap.lt_size e)) e
  show wpAny _ _ (assignInOrder [fun v => bindName X.env y v, fun v => bindName X.env x v] [u2, u1] >>= fun _ => pure Flow.next) _ _ _
  refine wpAny_bind (assignInOrder_cons (wpAny_bindName (store_ok I3 hN hj (.inl hy) rw' (fun s2 I4 => ?_) (.inr hy))))
  refine assignInOrder_cons (wpAny_bindName (store_ok I4 hN hi (.inl hx) rv (fun s3 I5 => assignInOrder_nil (wpAny_pure ?_)) (.inr hx)))
  rw [List.set_comm _ _ (Ne.symm hij)] at I5
  exact ⟨_, H1, I5, q1⟩
/-- name op= e -/
def tAug (i : Nat) (te : TE) (ti : TIp) : TS := fun D σ H => ∃ x, σ[i]? = some (some x) ∧ te σ H fun y H1 => ti x y H1 fun z H2 => D.nx (σ.set i (some z)) H2
theorem ps_aug {i : Nat} {x : Str} {e : Expr} {te : TE} {op : Operator} {ti : TIp} {pos' : Pos} (hN : X.N.Nodup) (hi : X.N[i]? = some x) (hx : Loc X.env.scope x) (he : PE X e te) (ho : PIp X op ti) (hf : X.fn x = true ∨ X.env.scope.names.lookup x = some .local := by first | exact .inl rfl | exact .inr rfl | assumption) :
    PS X (.AugAssign (.Name x pos') op e pos) (tAug i te ti) := by
  intro pins s σ H D I h
  obtain ⟨v, e1, h⟩ := h
  obtain ⟨m, hn, hl⟩ := I.loc
  have vis : Vis X.env.scope x := by rcases hx with k | k; exact .inl k; exact .inr (.inl k)
  obtain ⟨u, r, l⟩ := hl i x v hi e1 vis
  refine wpAny_AugAssign_Name ?_
  have go : wpAny (model X.prog X.w) X.A (eval e X.env) (fun w s₂ => wpAny (model X.prog X.w) X.A (inplaceOp op u w) (fun r s₃ => wpAny (model X.prog X.w) X.A (storeName X.env x r) (fun _ => SP X pins D .next) X.xe s₃) X.xe s₂) X.xe s := by
    refine thn (he pins s σ H _ I h) fun w s1 ⟨y, H1, I1, r1, q1⟩ => ?_
    refine thn (ho pins s1 σ H1 v y u w _ I1 r r1 q1) fun z s2 ⟨zv, H2, I2, r2, q2⟩ => ?_
    exact store_ok I2 hN hi hx r2 (fun s3 I3 => ⟨_, H2, I3, q2⟩) hf
  rcases l with ⟨hk, hm⟩ | ⟨hk, c, hc, hcell⟩
  · exact wpAny_loadName_local I.ok.kind hk hn hm go
  · rcases hk with hk | hk
    · exact wpAny_loadName_cell I.ok.kind hk hc hcell go
    · rcases hx with k | k
      · have : X.env.scope.names.lookup x = some .free := hk
        rw [k] at this; cases this
      · have : X.env.scope.names.lookup x = some .free := hk
        rw [k] at this; cases this
/-- o[i] op= e -/
def tAugS (to ti te : TE) (tget : V → V → Hp → VK → Prop) (tip : TIp) (tset : TSet) : TS := fun D σ H => to σ H fun o H1 => ti σ H1 fun i H2 => tget o i H2 fun x H3 => te σ H3 fun y H4 => tip x y H4 fun z H5 => tset o i z H5 fun H6 => D.nx σ H6
/-- o[i], by values -/
def PGet (X : Cx) (t : V → V → Hp → VK → Prop) : Prop :=
  ∀ (pins : List (Addr × Obj)) (s : Shared) (σ : St) (H : Hp) (o i : V) (ov iv : Value) (Q : VK), Inv X pins σ H s → RelV o ov → RelV i iv → t o i H Q →
    wpAny (model X.prog X.w) X.A (getItem ov iv) (EP X pins σ Q) X.xe s
theorem ps_augS {o i e : Expr} {to ti te : TE} {tget : V → V → Hp → VK → Prop} {tip : TIp} {tset : TSet} {op : Operator} {tpos : Pos} (ho : PE X o to) (hi : PE X i ti) (hg : PGet X tget) (he : PE X e te) (hp : PIp X op tip) (hs : PSet X tset)
    (ha : ∀ ov iv new, augStore i ov iv new = (do holding [new, ov, iv] (setItem ov iv new); release [new, ov, iv] []; pure .next) := by intros; rfl) : PS X (.AugAssign (.Subscript o i tpos) op e pos) (tAugS to ti te tget tip tset) := by
  intro pins s σ H D I h
  refine wpAny_AugAssign_SubscriptAny (thn (ho pins s σ H _ I h) fun ov s1 ⟨x1, H1, I1, r1, q1⟩ => ?_) ha
  refine thn (hi pins s1 σ H1 _ I1 q1) fun iv s2 ⟨x2, H2, I2, r2, q2⟩ => ?_
  refine thn (hg pins s2 σ H2 x1 x2 ov iv _ I2 r1 r2 q2) fun old s3 ⟨x3, H3, I3, r3, q3⟩ => ?_
  refine thn (he pins s3 σ H3 _ I3 q3) fun v s4 ⟨x4, H4, I4, r4, q4⟩ => ?_
  refine thn (hp pins s4 σ H4 x3 x4 old v _ I4 r3 r4 q4) fun new s5 ⟨x5, H5, I5, r5, q5⟩ => ?_
  exact thn (hs pins s5 σ H5 x1 x2 x5 ov iv new _ I5 r1 r2 r5 q5) fun _ s6 ⟨H6, I6, q6⟩ => ⟨σ, H6, I6, q6⟩
/-- ints -/
def ipI (f : Int → Int → Int) : TIp := fun x y H Q => ∃ i j, x = .int i ∧ y = .int j ∧ Q (.int (f i j)) H
theorem ip_add : PIp X .Add (ipI fun i j => i + j) := by
  intro pins s σ H x y v u Q I r1 r2 h
  obtain ⟨i, j, e1, e2, q⟩ := h
  subst e1; subst e2
  obtain ⟨t, rfl⟩ := r1
  obtain ⟨t', rfl⟩ := r2
  exact iadd_int ⟨.int _, H, I.tok _, ⟨_, rfl⟩, q⟩
theorem ip_sub : PIp X .Sub (ipI fun i j => i - j) := by
  intro pins s σ H x y v u Q I r1 r2 h
  obtain ⟨i, j, e1, e2, q⟩ := h
  subst e1; subst e2
  obtain ⟨t, rfl⟩ := r1
  obtain ⟨t', rfl⟩ := r2
  exact isub_int ⟨.int _, H, I.tok _, ⟨_, rfl⟩, q⟩
end

/-! ### while -/
section
variable {X : Cx} {pos : Pos}
/-- the invariant W with its measure -/
def tWhile (c : TT) (tb : TS) : TS := fun D σ H => ∃ W : Nat → St → Hp → Prop, (∃ m, W m σ H) ∧ ∀ m σ H, W m σ H →
  c σ H fun b H1 => if b = true then ∃ N : St → Hp → Prop, (∀ σ' H', N σ' H' → ∃ m', m' < m ∧ W m' σ' H') ∧ tb { D with nx := N, ct := N, bk := D.nx } σ H1 else D.nx σ H1
theorem ps_while {c : Expr} {body : List Stmt} {tc : TT} {tb : TS} (hp : PassesOwn (model X.prog X.w) X.A X.env X.xe) (hc : PT X c tc) (hb : PSs X body tb) : PS X (.While c body [] pos) (tWhile tc tb) := by
  intro pins s σ H D I h
  obtain ⟨W, ⟨m0, w0⟩, turn⟩ := h
  refine wpAny_While (codeAny_whileLoop (fun n s' => ∃ σ' H', Inv X pins σ' H' s' ∧ W n σ' H') ?_ m0 ⟨σ, H, I, w0⟩)
  rintro n s1 ⟨σ1, H1, I1, w1⟩
  refine wpAny_passesOwn hp (thn (hc pins s1 σ1 H1 _ I1 (turn n σ1 H1 w1)) fun b s2 ⟨H2, I2, q2⟩ => ?_)
  cases b with
  | true =>
    obtain ⟨N, hN, q2⟩ := q2
    rw [if_pos rfl]
    refine wpAny_passesOwn hp (thn (hb pins s2 σ1 H2 _ I2 q2) fun f s3 q3 => ?_)
    cases f with
    | next =>
      obtain ⟨σ3, H3, I3, n3⟩ := q3
      obtain ⟨m', hm, w3⟩ := hN σ3 H3 n3
      exact ⟨m', hm, σ3, H3, I3, w3⟩
    | cont =>
      obtain ⟨σ3, H3, I3, n3⟩ := q3
      obtain ⟨m', hm, w3⟩ := hN σ3 H3 n3
      exact ⟨m', hm, σ3, H3, I3, w3⟩
    | brk => exact q3
    | ret v => exact q3
  | false =>
    rw [if_neg Bool.false_ne_true]
    exact wpAny_execs_nil ⟨σ1, H2, I2, q2⟩
end

/-! ### what a loop or a comprehension walks -/
/-- at turn i: it yields x (the heap may grow), or it stops -/
structure It where
  go : Nat → Hp → Prop
  yld : Nat → Hp → V → Hp → Prop
  stop : Nat → Hp → Prop
/-- the iterator's own objects may turn: they are not the frame's, not pinned, younger than the entry (or a comprehension's own) -/
def FpOk (X : Cx) (pins : List (Addr × Obj)) (H : Hp) (b : Addr) : Prop :=
  H b = none ∧ b ≠ X.env.locals ∧ b ∉ X.fs ∧ (b ∈ X.ex ∨ X.s₀.heap.objs.size ≤ b) ∧ (∀ x c, X.env.cells.lookup x = some c → c ≠ b) ∧ ∀ p ∈ X.pn ++ pins, p.1 ≠ b
theorem Inv.fpOk {X : Cx} {pins : List (Addr × Obj)} {σ : St} {H H' : Hp} {s : Shared} {b : Addr} (I : Inv X pins σ H s) (hb : s.heap.objs.size ≤ b) (hn : H' b = none) : FpOk X pins H' b := by
  refine ⟨hn, Nat.ne_of_gt (Nat.lt_of_lt_of_le I.lt hb), I.nofs hb, .inr (Nat.le_trans I.sz hb), fun x c e z => ?_, fun p hp z => ?_⟩
  · obtain ⟨v, q⟩ := I.cell x c e
    exact absurd (Nat.lt_of_lt_of_le q.lt (by rw [z]; exact hb)) (Nat.lt_irrefl _)
  · exact absurd (Nat.lt_of_lt_of_le (Heap.lt_size (I.pin p hp).1) (by rw [z]; exact hb)) (Nat.lt_irrefl _)
structure Turn (P : Program) (w : World) (K : PySem.W.Frag) (tg : Expr) (J : It) (fp : List Addr) (it : Addr) (tn : Nat → Heap → Prop) : Prop where
  mem : it ∈ fp
  obj : ∀ i h, tn i h → ∀ b ∈ fp, ∃ o, h.get? b = some o ∧ ∀ v, o.data ≠ .cell v
  keep : ∀ i h h', tn i h → (∀ b ∈ fp, ∀ o, h.get? b = some o → h'.get? b = some o) → tn i h'
  item : ∀ (X : Cx), X.prog = P → X.w = w → X.K = K → X.calm = true → ∀ (i : Nat) (pins : List (Addr × Obj)) (s : Shared) (σ : St) (H : Hp) (E : Value → Shared → Prop), Inv X pins σ H s → (∀ b ∈ fp, FpOk X pins H b) → tn i s.heap → J.go i H →
    wpAny (model P w) X.A (pyNext (.ref it)) (fun r s1 => ∃ u, r = some u ∧
      wpAny (model P w) X.A (letOwnedTupleGo tg (.ref it) u) (fun _ s2 => ∃ x H', Inv X pins σ H' s2 ∧ RelV x u ∧ J.yld i H x H' ∧ tn (i + 1) s2.heap ∧ ∀ b ∈ fp, H' b = none) E s1) E s
  done : ∀ (X : Cx), X.prog = P → X.w = w → X.K = K → X.calm = true → ∀ (i : Nat) (pins : List (Addr × Obj)) (s : Shared) (σ : St) (H : Hp) (E : Value → Shared → Prop), Inv X pins σ H s → (∀ b ∈ fp, FpOk X pins H b) → tn i s.heap → J.stop i H →
    wpAny (model P w) X.A (pyNext (.ref it)) (fun r s1 => r = none ∧ Inv X pins σ H s1) E s
  self : ∀ (A : Around) (i : Nat) (s : Shared) (Q : Value → Shared → Prop) (E : Value → Shared → Prop), tn i s.heap → Q (.ref it) s → wpAny (model P w) A (pyIter (.ref it)) Q E s
abbrev TI := St → Hp → (It → Hp → Prop) → Prop
/-- an iterator has come -/
def PIE (X : Cx) (pins : List (Addr × Obj)) (σ : St) (tg : Expr) (R : It → Hp → Prop) (itv : Value) (s2 : Shared) : Prop :=
  ∃ (it : Addr) (fp : List Addr) (tn : Nat → Heap → Prop) (J : It) (H' : Hp), itv = .ref it ∧ Inv X pins σ H' s2 ∧ Turn X.prog X.w X.K tg J fp it tn ∧ tn 0 s2.heap ∧ (∀ b ∈ fp, FpOk X pins H' b) ∧ R J H'
def PI (X : Cx) (tg iter : Expr) (wi : TI) : Prop :=
  ∀ (pins : List (Addr × Obj)) (s : Shared) (σ : St) (H : Hp) (R : It → Hp → Prop), Inv X pins σ H s → wi σ H R →
    wpAny (model X.prog X.w) X.A (eval iter X.env) (fun v s1 => wpAny (model X.prog X.w) X.A (pyIter v) (PIE X pins σ tg R) X.xe s1) X.xe s

/-- the step ahead of the store is nothing for an iterator that keeps no tuple -/
theorem go_of {M : Model} {A : Around} {E : Value → Shared → Prop} {s : Shared} {tg : Expr} {it : Addr} {u : Value} {o : Obj} {n : String} {vs : Array Value} {Q : Unit → Shared → Prop} (ho : s.heap.get? it = some o) (hc : o.cls = .type n) (hd : o.data = .fields vs)
    (hn : ["enumerate", "zip", "dict_itemiterator", "dict_reverseitemiterator", "odict_iterator", "itertools.zip_longest", "itertools.pairwise"].contains n = false) (hQ : Q () s) : wpAny M A (letOwnedTupleGo tg (.ref it) u) Q E s := by
  unfold letOwnedTupleGo
  cases tg <;> first
    | exact wpAny_pure hQ
    | (cases u <;> first
        | exact wpAny_pure hQ
        | (refine wpAny_bind (wpAny_load ho ?_)
           rw [hc, hd]
           show wpAny M A (if (["enumerate", "zip", "dict_itemiterator", "dict_reverseitemiterator", "odict_iterator", "itertools.zip_longest", "itertools.pairwise"].contains n && vs[0]? == some (rawInt _)) = true then _ else _) Q E s
           rw [if_neg (by intro h; rw [hn, Bool.false_and] at h; cases h)]
           exact wpAny_pure hQ))

/-- the list at a, as it stands at each turn (a loop may append to it) -/
def Itl (K : PySem.W.Frag) (a : Addr) : It :=
  ⟨fun i H => ∃ xs x, SqL K H a xs ∧ xs[i]? = some x, fun i H x H' => H' = H ∧ ∀ xs, SqL K H a xs → xs[i]? = some x, fun i H => ∃ xs, SqL K H a xs ∧ xs.length ≤ i⟩
def Itt (K : PySem.W.Frag) (a : Addr) : It :=
  ⟨fun i H => ∃ xs x, SqT K H a xs ∧ xs[i]? = some x, fun i H x H' => H' = H ∧ ∀ xs, SqT K H a xs → xs[i]? = some x, fun i H => ∃ xs, SqT K H a xs ∧ xs.length ≤ i⟩
/-- lo, lo + 1, .. (n of them) -/
def Itr (lo : Int) (n : Nat) : It := ⟨fun i _ => i < n, fun i H x H' => H' = H ∧ x = .int (lo + i), fun i _ => n ≤ i⟩
theorem turn_list {P : Program} {w : World} {K : PySem.W.Frag} {tg : Expr} (a it : Addr) : Turn P w K tg (Itl K a) [it] it (fun i h => h.IsListIter it a i) where
  mem := by simp
  obj := fun i h st b hb => by
    have e : b = it := by simpa using hb
    subst e
    obtain ⟨o, e, c, d⟩ := st
    exact ⟨o, e, fun v z => by rw [d] at z; cases z⟩
  keep := fun i h h' st k => st.at fun o e => k it (by simp) o e
  item := by
    intro X hP hw hK hc i pins s σ H E I hf st hg
    subst hP hw hK
    obtain ⟨xs, x, hq, hx⟩ := hg
    obtain ⟨its, rv, p, hz⟩ := I.list hq
    obtain ⟨u, hu, ru⟩ := rv.get hx
    obtain ⟨f0, f1, f2, f3, f4, f5⟩ := hf it (by simp)
    refine wpAny_pyNext_list_item st p.isList (x := u) (by simpa using hu) fun h' st' sb => ?_
    have I1 : Inv X pins σ H { s with heap := h' } := I.turned (t' := s.toks) (fun b o hb e => (sb.2 b hb).trans e) f0 f1 f3 f4 f5
    obtain ⟨o, e, c, d⟩ := id st'
    exact ⟨u, rfl, go_of (s := { s with heap := h' }) e c d (by decide) ⟨x, H, I1, ru, ⟨rfl, fun ys hy => by rw [I.list_inj hy hq]; exact hx⟩, st', fun b hb => (hf b hb).1⟩⟩
  done := by
    intro X hP hw hK hc i pins s σ H E I hf st hg
    subst hP hw hK
    obtain ⟨xs, hq, hx⟩ := hg
    obtain ⟨its, rv, p, hz⟩ := I.list hq
    obtain ⟨f0, f1, f2, f3, f4, f5⟩ := hf it (by simp)
    have hl := rv.length
    exact wpAny_pyNext_list_end (I.ok.hd hc) st p.isList (by simp; omega) fun h' eb => ⟨rfl, I.turned (t' := s.toks) (fun b o hb e => eb b o hb e) f0 f1 f3 f4 f5⟩
  self := fun _ _ _ _ _ st h => wpAny_pyIter_listiter st h
theorem turn_tuple {P : Program} {w : World} {K : PySem.W.Frag} {tg : Expr} (a it : Addr) : Turn P w K tg (Itt K a) [it] it (fun i h => h.IsTupleIter it a i) where
  mem := by simp
  obj := fun i h st b hb => by
    have e : b = it := by simpa using hb
    subst e
    obtain ⟨o, e, c, d⟩ := st
    exact ⟨o, e, fun v z => by rw [d] at z; cases z⟩
  keep := fun i h h' st k => st.at fun o e => k it (by simp) o e
  item := by
    intro X hP hw hK hc i pins s σ H E I hf st hg
    subst hP hw hK
    obtain ⟨xs, x, hq, hx⟩ := hg
    obtain ⟨its, rv, p, hz⟩ := I.tuple hq
    obtain ⟨u, hu, ru⟩ := rv.get hx
    obtain ⟨f0, f1, f2, f3, f4, f5⟩ := hf it (by simp)
    refine wpAny_pyNext_tuple_item st (show s.heap.IsTuple a its.toArray from p) (x := u) (by simpa using hu) fun h' st' sb => ?_
    have I1 : Inv X pins σ H { s with heap := h' } := I.turned (t' := s.toks) (fun b o hb e => (sb.2 b hb).trans e) f0 f1 f3 f4 f5
    obtain ⟨o, e, c, d⟩ := id st'
    exact ⟨u, rfl, go_of (s := { s with heap := h' }) e c d (by decide) ⟨x, H, I1, ru, ⟨rfl, fun ys hy => by rw [I.tuple_inj hy hq]; exact hx⟩, st', fun b hb => (hf b hb).1⟩⟩
  done := by
    intro X hP hw hK hc i pins s σ H E I hf st hg
    subst hP hw hK
    obtain ⟨xs, hq, hx⟩ := hg
    obtain ⟨its, rv, p, hz⟩ := I.tuple hq
    obtain ⟨f0, f1, f2, f3, f4, f5⟩ := hf it (by simp)
    have hl := rv.length
    exact wpAny_pyNext_tuple_end (I.ok.hd hc) st (show s.heap.IsTuple a its.toArray from p) (by simp; omega) fun h' eb => ⟨rfl, I.turned (t' := s.toks) (fun b o hb e => eb b o hb e) f0 f1 f3 f4 f5⟩
  self := fun _ _ _ _ _ st h => wpAny_pyIter_tupleiter st h
theorem turn_range {P : Program} {w : World} {K : PySem.W.Frag} {tg : Expr} (it : Addr) (lo : Int) (n : Nat) : Turn P w K tg (Itr lo n) [it] it (fun i h => IsRangeIter h it (lo + (i : Nat) * 1) ((n : Int) - (i : Nat)) 1) where
  mem := by simp
  obj := fun i h st b hb => by
    have e : b = it := by simpa using hb
    subst e
    exact ⟨_, st, fun v z => by
      have z' : Data.fields _ = Data.cell v := z
      cases z'⟩
  keep := fun i h h' st k => k it (by simp) _ st
  item := by
    intro X hP hw hK hc i pins s σ H E I hf st hg
    subst hP hw hK
    obtain ⟨f0, f1, f2, f3, f4, f5⟩ := hf it (by simp)
    have W := Walks.range (prog := X.prog) (w := X.w) (I.ok.hd hc) it lo 1 n
    refine W.item i s _ _ hg st fun v h' tk hv st' kk => ?_
    obtain ⟨t, rfl⟩ := hv
    have I1 : Inv X pins σ H { s with heap := h', toks := tk } := I.turned (fun b o hb e => kk b o (by simpa using hb) e) f0 f1 f3 f4 f5
    refine ⟨_, rfl, go_of (s := { s with heap := h', toks := tk }) (n := "range_iterator") st' rfl rfl (by decide) ⟨.int (lo + i), H, I1, ⟨t, ?_⟩, ⟨rfl, rfl⟩, st', fun b hb => (hf b hb).1⟩⟩
    rw [Int.mul_one]
  done := by
    intro X hP hw hK hc i pins s σ H E I hf st hg
    subst hP hw hK
    obtain ⟨f0, f1, f2, f3, f4, f5⟩ := hf it (by simp)
    exact wpAny_pyNext_range_end (I.ok.hd hc) st (by have : n ≤ i := hg; omega) fun h' eb => ⟨rfl, I.turned (t' := s.toks) (fun b o hb e => eb b o hb e) f0 f1 f3 f4 f5⟩
  self := fun _ _ _ _ _ st h => wpAny_pyIter_rangeiter st h
end L2

namespace L2
open PySem PySem.Spec PyProof.Rows
section
variable {X : Cx} {tg : Expr}
def iList (K : PySem.W.Frag) (tl : TE) : TI := fun σ H R => tl σ H fun x H1 => ∃ a, x = .ref a ∧ (∃ xs, SqL K H1 a xs) ∧ R (Itl K a) H1
def iTup (K : PySem.W.Frag) (tl : TE) : TI := fun σ H R => tl σ H fun x H1 => ∃ a, x = .ref a ∧ (∃ xs, SqT K H1 a xs) ∧ R (Itt K a) H1
theorem pi_list {l : Expr} {tl : TE} (hl : PE X l tl) : PI X tg l (iList X.K tl) := by
  intro pins s σ H R I h
  refine thn (hl pins s σ H _ I h) fun v s1 ⟨x, H1, I1, r1, q1⟩ => ?_
  obtain ⟨a, e, ⟨xs, hq⟩, q⟩ := q1
  subst e
  cases r1
  obtain ⟨its, rv, p, hz⟩ := I1.list hq
  refine wpAny_pyIter_list p.isList ?_
  refine ⟨s1.heap.objs.size, [s1.heap.objs.size], _, _, H1, rfl, I1.kept (t' := s1.toks) fun b o e => Heap.get?_push_of_some _ e, turn_list a _, ⟨_, Heap.get?_push_size _ rfl, rfl, rfl⟩, fun b hb => ?_, q⟩
  have e : b = s1.heap.objs.size := by simpa using hb
  subst e
  exact I1.fpOk (Nat.le_refl _) (I1.hok.fresh (Nat.le_refl _))
theorem pi_tup {l : Expr} {tl : TE} (hl : PE X l tl) : PI X tg l (iTup X.K tl) := by
  intro pins s σ H R I h
  refine thn (hl pins s σ H _ I h) fun v s1 ⟨x, H1, I1, r1, q1⟩ => ?_
  obtain ⟨a, e, ⟨xs, hq⟩, q⟩ := q1
  subst e
  cases r1
  obtain ⟨its, rv, p, hz⟩ := I1.tuple hq
  refine wpAny_pyIter_tuple (show s1.heap.IsTuple a its.toArray from p) ?_
  refine ⟨s1.heap.objs.size, [s1.heap.objs.size], _, _, H1, rfl, I1.kept (t' := s1.toks) fun b o e => Heap.get?_push_of_some _ e, turn_tuple a _, ⟨_, Heap.get?_push_size _ rfl, rfl, rfl⟩, fun b hb => ?_, q⟩
  have e : b = s1.heap.objs.size := by simpa using hb
  subst e
  exact I1.fpOk (Nat.le_refl _) (I1.hok.fresh (Nat.le_refl _))
/-- a range object just made, walked -/
theorem range_it {pins : List (Addr × Obj)} {σ : St} {H : Hp} {s : Shared} {R : It → Hp → Prop} {E : Value → Shared → Prop} {lo hi : Int} {t u v : Tok} {tk : Nat} (I : Inv X pins σ H s) (h1 : -(2 ^ 62) ≤ lo) (h2 : lo < 2 ^ 62) (h3 : -(2 ^ 62) ≤ hi) (h4 : hi < 2 ^ 62)
    (q : R (Itr lo (hi - lo).toNat) H) : wpAny (model X.prog X.w) X.A (pyIter (.ref s.heap.objs.size)) (PIE X pins σ tg R) E { s with heap := s.heap.push { cls := .type "range", data := .fields #[.int lo t, .int hi u, .int 1 v] }, toks := tk } := by
  refine wpAny_pyIter_range (IsRange.new ..) (small_one h1 h2 h3 h4) ?_
  have I1 : Inv X pins σ H { s with heap := s.heap.push { cls := .type "range", data := .fields #[.int lo t, .int hi u, .int 1 v] }, toks := tk } := I.kept fun b o e => Heap.get?_push_of_some _ e
  refine ⟨(s.heap.push { cls := .type "range", data := .fields #[.int lo t, .int hi u, .int 1 v] }).objs.size, [(s.heap.push { cls := .type "range", data := .fields #[.int lo t, .int hi u, .int 1 v] }).objs.size], _, _, H, rfl,
    I1.kept (t' := tk) fun b o e => Heap.get?_push_of_some _ e, turn_range _ lo (hi - lo).toNat, ?_, fun b hb => ?_, q⟩
  · have e1 : lo + ((0 : Nat) : Int) * 1 = lo := by simp
    have e2 : (((hi - lo).toNat : Nat) : Int) - ((0 : Nat) : Int) = Builtin.Range.rangeSize lo hi 1 := by rw [rangeSize_one]; split <;> omega
    show IsRangeIter _ _ (lo + ((0 : Nat) : Int) * 1) ((((hi - lo).toNat : Nat) : Int) - ((0 : Nat) : Int)) 1
    rw [e1, e2]
    exact Heap.get?_push_size _ rfl
  · have e : b = (s.heap.push { cls := .type "range", data := .fields #[.int lo t, .int hi u, .int 1 v] }).objs.size := by simpa using hb
    subst e
    exact I1.fpOk (Nat.le_refl _) (I1.hok.fresh (Nat.le_refl _))
def iRng1 (ta : TA) : TI := fun σ H R => ta σ H fun vs H1 => ∃ j : Int, vs = [.int j] ∧ -(2 ^ 62) ≤ j ∧ j < 2 ^ 62 ∧ R (Itr 0 j.toNat) H1
def iRng2 (ta : TA) : TI := fun σ H R => ta σ H fun vs H1 => ∃ i j : Int, vs = [.int i, .int j] ∧ (-(2 ^ 62) ≤ i ∧ i < 2 ^ 62 ∧ -(2 ^ 62) ≤ j ∧ j < 2 ^ 62) ∧ R (Itr i (j - i).toNat) H1
theorem pi_range1 {a : Expr} {ta : TA} {p pos : Pos} (hg : Gl X "range") (hm : X.mg "range" = none) (ha : PA X [a] ta) (hs : starEach [a] X.env = [(false, eval a X.env)] := by rfl) : PI X tg (.Call (.Name "range" p) [a] [] pos) (iRng1 ta) := by
  intro pins s σ H R I h
  refine Call_ (ld_blt I hg hm boot_range (PyProof.Rows.callWith_type1 (thn (ha pos pins s σ H _ I h) fun us s1 ⟨vs, H1, I1, r1, q1⟩ => ?_) hs rfl))
  obtain ⟨j, e, q1, q2, q⟩ := q1
  subst e
  cases r1 with
  | cons r rr =>
    cases rr
    obtain ⟨t, rfl⟩ := r
    exact call_range_1 (range_it I1 (by omega) (by omega) q1 q2 (by simpa using q))
theorem pi_range2 {a b : Expr} {ta : TA} {p pos : Pos} (hg : Gl X "range") (hm : X.mg "range" = none) (ha : PA X [a, b] ta) (hs : starEach [a, b] X.env = [(false, eval a X.env), (false, eval b X.env)] := by rfl) (hs2 : starEach [b] X.env = [(false, eval b X.env)] := by rfl) :
    PI X tg (.Call (.Name "range" p) [a, b] [] pos) (iRng2 ta) := by
  intro pins s σ H R I h
  refine Call_ (ld_blt I hg hm boot_range (PyProof.Rows.callWith_type1 (thn (ha pos pins s σ H _ I h) fun us s1 ⟨vs, H1, I1, r1, q1⟩ => ?_) (by rw [hs, hs2]) (by rw [hs2]; rfl)))
  obtain ⟨i, j, e, ⟨q1, q2, q3, q4⟩, q⟩ := q1
  subst e
  cases r1 with
  | cons r rr =>
    cases rr with
    | cons r' rr =>
      cases rr
      obtain ⟨t, rfl⟩ := r
      obtain ⟨t', rfl⟩ := r'
      exact call_range_2 (range_it I1 q1 q2 q3 q4 q)

/-! ### for -/
/-- W: the invariant by the turn and a measure; N: what the body is to reach -/
def tFor (wi : TI) (g : TG) (tb : TS) : TS := fun D σ H => wi σ H fun J H1 => ∃ W : Nat → Nat → St → Hp → Prop, (∃ m, W 0 m σ H1) ∧ ∀ i m σ H, W i m σ H →
  (J.stop i H ∧ D.nx σ H) ∨ (J.go i H ∧ ∃ N : St → Hp → Prop, (∀ σ' H', N σ' H' → ∃ m', m' < m ∧ W (i + 1) m' σ' H') ∧ ∀ x H', J.yld i H x H' → g x σ H' fun σ2 H2 => tb { D with nx := N, ct := N, bk := D.nx } σ2 H2)
/-- the records at fp as they stand -/
def pinsAt (fp : List Addr) (h : Heap) : List (Addr × Obj) := fp.filterMap fun b => (h.get? b).map fun o => (b, o)
theorem mem_pinsAt {fp : List Addr} {h : Heap} {b : Addr} {o : Obj} (hb : b ∈ fp) (e : h.get? b = some o) : (b, o) ∈ pinsAt fp h := List.mem_filterMap.mpr ⟨b, hb, by rw [e]; rfl⟩
theorem of_pinsAt {fp : List Addr} {h : Heap} {p : Addr × Obj} (hp : p ∈ pinsAt fp h) : p.1 ∈ fp ∧ h.get? p.1 = some p.2 := by
  obtain ⟨b, hb, e⟩ := List.mem_filterMap.mp hp
  cases q : h.get? b with
  | none => rw [q] at e; cases e
  | some o =>
    rw [q] at e
    have e' : (b, o) = p := Option.some.inj e
    subst e'
    exact ⟨hb, q⟩
theorem Inv.pinned {pins : List (Addr × Obj)} {σ : St} {H : Hp} {s : Shared} {fp : List Addr} (I : Inv X pins σ H s) (hf : ∀ b ∈ fp, FpOk X pins H b) (ho : ∀ b ∈ fp, ∃ o, s.heap.get? b = some o ∧ ∀ v, o.data ≠ .cell v) : Inv X (pins ++ pinsAt fp s.heap) σ H s :=
  I.pins_of fun p hp => (List.mem_append.mp hp).elim (fun z => I.pin p (List.mem_append_right _ z)) fun z => by
    obtain ⟨hb, e⟩ := of_pinsAt z
    obtain ⟨f0, f1, f2, _⟩ := hf p.1 hb
    obtain ⟨o, e', d⟩ := ho p.1 hb
    rw [e] at e'; cases e'
    exact ⟨e, f0, f1, f2, d⟩
theorem Inv.unpinned {pins pl : List (Addr × Obj)} {σ : St} {H : Hp} {s : Shared} (I : Inv X (pins ++ pl) σ H s) : Inv X pins σ H s := I.pins_of fun p hp => I.pin p (List.mem_append_right _ (List.mem_append_left _ hp))
theorem ps_for {iter : Expr} {body : List Stmt} {wi : TI} {g : TG} {tb : TS} {pos : Pos} (hp : PassesOwn (model X.prog X.w) X.A X.env X.xe) (hc : X.calm = true) (hi : PI X tg iter wi) (hg : PG X tg g) (hb : PSs X body tb)
    (hs : ∀ x, foldedSetIterable iter X.env x = pure x := by intro _; rfl) : PS X (.For tg iter body [] pos) (tFor wi g tb) := by
  intro pins s σ H D I h
  refine wpAny_For (thn (hi pins s σ H _ I h) fun v s1 h1 => thn h1 fun itv s2 h2 => ?_) hs
  obtain ⟨it, fp, tn, J, H2, e, I2, T, st2, f2, W, ⟨m0, w0⟩, turn⟩ := h2
  subst e
  -- what stays true of the iterator's objects through the loop
  have stat : ∀ {H' : Hp}, (∀ b ∈ fp, H' b = none) → ∀ b ∈ fp, FpOk X pins H' b := fun hn b hb => ⟨hn b hb, (f2 b hb).2⟩
  refine codeAny_forLoop_any (fun n s' => ∃ i σ' H', Inv X pins σ' H' s' ∧ tn i s'.heap ∧ (∀ b ∈ fp, H' b = none) ∧ W i n σ' H') ?_ m0 ⟨0, σ, H2, I2, st2, fun b hb => (f2 b hb).1, w0⟩
  rintro n s3 ⟨i, σ3, H3, I3, st3, fr3, w3⟩
  rcases turn i n σ3 H3 w3 with ⟨stop, qn⟩ | ⟨go, N, hN, step⟩
  · refine wpAny_passesOwn hp (thn (T.done X rfl rfl rfl hc i pins s3 σ3 H3 X.xe I3 (stat fr3) st3 stop) fun r s4 ⟨hr, I4⟩ => ?_)
    subst hr
    exact wpAny_execs_nil ⟨σ3, H3, I4, qn⟩
  · refine wpAny_passesOwn hp (thn (T.item X rfl rfl rfl hc i pins s3 σ3 H3 X.xe I3 (stat fr3) st3 go) fun r s4 ⟨u, hr, h4⟩ => ?_)
    subst hr
    refine wpAny_passesOwn hp (thn h4 fun _ s5 ⟨x, H5, I5, r5, y5, st5, fr5⟩ => ?_)
    have I5' := I5.pinned (stat fr5) (T.obj _ _ st5)
    refine wpAny_passesOwn hp (thn (hg _ s5 σ3 H5 x u _ I5' r5 (step x H5 y5)) fun _ s6 ⟨σ6, H6, I6, q6⟩ => ?_)
    refine wpAny_passesOwn hp (thn (hb _ s6 σ6 H6 _ I6 q6) fun f s7 q7 => ?_)
    have again : ∀ {σ7 : St} {H7 : Hp}, Inv X (pins ++ pinsAt fp s5.heap) σ7 H7 s7 → N σ7 H7 → ∃ m, m < n ∧ ∃ i σ' H', Inv X pins σ' H' s7 ∧ tn i s7.heap ∧ (∀ b ∈ fp, H' b = none) ∧ W i m σ' H' := fun {σ7 H7} I7 n7 => by
      obtain ⟨m', hm, w7⟩ := hN σ7 H7 n7
      refine ⟨m', hm, i + 1, σ7, H7, I7.unpinned, T.keep _ _ _ st5 fun b hb o e => (I7.pin (b, o) (List.mem_append_right _ (List.mem_append_right _ (mem_pinsAt hb e)))).1, fun b hb => ?_, w7⟩
      obtain ⟨o, e, d⟩ := T.obj _ _ st5 b hb
      exact (I7.pin (b, o) (List.mem_append_right _ (List.mem_append_right _ (mem_pinsAt hb e)))).2.1
    cases f with
    | next => obtain ⟨σ7, H7, I7, n7⟩ := q7; exact again I7 n7
    | cont => obtain ⟨σ7, H7, I7, n7⟩ := q7; exact again I7 n7
    | brk => obtain ⟨σ7, H7, I7, q7⟩ := q7; exact ⟨σ7, H7, I7.unpinned, q7⟩
    | ret v => obtain ⟨x7, σ7, H7, I7, r7, q7⟩ := q7; exact ⟨x7, σ7, H7, I7.unpinned, r7, q7⟩
end

theorem for_range {lo : Int} {n : Nat} {g : TG} {tb : TS} {D : Ends} {σ : St} {H : Hp} (Pv : Nat → St → Hp → Prop) (h0 : Pv 0 σ H)
    (hs : ∀ i σ H, i < n → Pv i σ H → g (.int (lo + i)) σ H fun σ2 H2 => tb { D with nx := Pv (i + 1), ct := Pv (i + 1), bk := D.nx } σ2 H2) (hd : ∀ σ H, Pv n σ H → D.nx σ H) :
    ∃ W : Nat → Nat → St → Hp → Prop, (∃ m, W 0 m σ H) ∧ ∀ i m σ H, W i m σ H →
      ((Itr lo n).stop i H ∧ D.nx σ H) ∨ ((Itr lo n).go i H ∧ ∃ N : St → Hp → Prop, (∀ σ' H', N σ' H' → ∃ m', m' < m ∧ W (i + 1) m' σ' H') ∧ ∀ x H', (Itr lo n).yld i H x H' → g x σ H' fun σ2 H2 => tb { D with nx := N, ct := N, bk := D.nx } σ2 H2) := by
  refine ⟨fun i m σ H => m = n - i ∧ i ≤ n ∧ Pv i σ H, ⟨n, by simp, Nat.zero_le _, h0⟩, ?_⟩
  rintro i m σ H ⟨rfl, hi, p⟩
  by_cases hlt : i < n
  · refine .inr ⟨hlt, Pv (i + 1), fun σ' H' p' => ⟨n - (i + 1), by omega, rfl, hlt, p'⟩, fun x H' y => ?_⟩
    obtain ⟨e, y⟩ := y
    subst e y
    exact hs i σ _ hlt p
  · have e : i = n := by omega
    subst e
    exact .inl ⟨Nat.le_refl _, hd σ H p⟩
end L2

namespace L2
open PySem PySem.Spec PyProof.Rows

abbrev R2 := V → V → Hp → VK → Prop
/-- a two-place operation on values: f is binaryOp op, inplaceOp op or compareOp op -/
def OpR (X : Cx) (f : Value → Value → Sem Value) (r : R2) : Prop :=
  ∀ (pins : List (Addr × Obj)) (s : Shared) (σ : St) (H : Hp) (x y : V) (v u : Value) (Q : VK), Inv X pins σ H s → RelV x v → RelV y u → r x y H Q →
    wpAny (model X.prog X.w) X.A (f v u) (EP X pins σ Q) X.xe s
/-- a one-place operation -/
def UnR (X : Cx) (f : Value → Sem Value) (r : V → Hp → VK → Prop) : Prop :=
  ∀ (pins : List (Addr × Obj)) (s : Shared) (σ : St) (H : Hp) (x : V) (v : Value) (Q : VK), Inv X pins σ H s → RelV x v → r x H Q →
    wpAny (model X.prog X.w) X.A (f v) (EP X pins σ Q) X.xe s
/-- a call of a value that is known (a builtin, a type) with values -/
def CallR (X : Cx) (f : Value) (r : List V → Hp → VK → Prop) : Prop :=
  ∀ (pins : List (Addr × Obj)) (s : Shared) (σ : St) (H : Hp) (xs : List V) (us : List Value) (Q : VK), Inv X pins σ H s → Vals xs us → r xs H Q →
    wpAny (model X.prog X.w) X.A (call f us) (EP X pins σ Q) X.xe s
/-- a value's truth -/
def TruR (X : Cx) (r : V → Hp → (Bool → Hp → Prop) → Prop) : Prop :=
  ∀ (pins : List (Addr × Obj)) (s : Shared) (σ : St) (H : Hp) (x : V) (v : Value) (Q : Bool → Hp → Prop), Inv X pins σ H s → RelV x v → r x H Q →
    wpAny (model X.prog X.w) X.A (truthy v) (TP X pins σ Q) X.xe s

def tOp (r : R2) (ta tb : TE) : TE := fun σ H Q => ta σ H fun x H1 => tb σ H1 fun y H2 => r x y H2 Q
def tUn (r : V → Hp → VK → Prop) (ta : TE) : TE := fun σ H Q => ta σ H fun x H1 => r x H1 Q
/-- ints in, under C, and a value out -/
def rI (C : Int → Int → Prop) (g : Int → Int → V) : R2 := fun x y H Q => ∃ i j, x = .int i ∧ y = .int j ∧ C i j ∧ Q (g i j) H
def rI0 (g : Int → Int → V) : R2 := fun x y H Q => ∃ i j, x = .int i ∧ y = .int j ∧ Q (g i j) H
def rU (g : Int → V) : V → Hp → VK → Prop := fun x H Q => ∃ i, x = .int i ∧ Q (g i) H

section
variable {X : Cx} {a b c : Expr} {ta tb tc : TE} {pos : Pos}

theorem binT (ha : PE X a ta) (hb : PE X b tb) {pins : List (Addr × Obj)} {s : Shared} {σ : St} {H : Hp} {R : V → V → Hp → Prop} (I : Inv X pins σ H s)
    (h : ta σ H fun x H1 => tb σ H1 fun y H2 => R x y H2) {Q : Value → Shared → Prop} {f : Value → Value → Sem Value}
    (hf : ∀ v u s2 x y H2, Inv X pins σ H2 s2 → RelV x v → RelV y u → R x y H2 → wpAny (model X.prog X.w) X.A (f v u) Q X.xe s2) :
    wpAny (model X.prog X.w) X.A (eval a X.env) (fun v s₁ => wpAny (model X.prog X.w) X.A (eval b X.env) (fun u s₂ => wpAny (model X.prog X.w) X.A (f v u) Q X.xe s₂) X.xe s₁) X.xe s := by
  refine thn (ha pins s σ H _ I h) fun v s1 ⟨x, H1, I1, r1, q1⟩ => ?_
  refine thn (hb pins s1 σ H1 _ I1 q1) fun u s2 ⟨y, H2, I2, r2, q2⟩ => ?_
  exact hf v u s2 x y H2 I2 r1 r2 q2

theorem pe_op {op : Operator} {r : R2} (ho : OpR X (binaryOp op) r) (ha : PE X a ta) (hb : PE X b tb) : PE X (.BinOp a op b pos) (tOp r ta tb) := by
  intro pins s σ H Q I h
  exact wpAny_BinOp (binT ha hb I h fun v u s2 x y H2 I2 rx ry q => ho pins s2 σ H2 x y v u Q I2 rx ry q)
theorem pe_un {op : UnaryOp} {r : V → Hp → VK → Prop} (ho : UnR X (unaryOp op) r) (ha : PE X a ta) : PE X (.UnaryOp op a pos) (tUn r ta) := by
  intro pins s σ H Q I h
  exact UnaryOp_ (thn (ha pins s σ H _ I h) fun v s1 ⟨x, H1, I1, r1, q1⟩ => ho pins s1 σ H1 x v Q I1 r1 q1)
/-! ### ints -/
theorem opI {f : Value → Value → Sem Value} {C : Int → Int → Prop} {g : Int → Int → Int}
    (rule : ∀ (i j : Int) (t u : Tok) (s : Shared) (Q : Value → Shared → Prop) (E : Value → Shared → Prop), C i j → Q (.int (g i j) s.toks) { s with toks := s.toks + 1 } → wpAny (model X.prog X.w) X.A (f (.int i t) (.int j u)) Q E s) :
    OpR X f (rI C fun i j => .int (g i j)) := by
  intro pins s σ H x y v u Q I rx ry h
  obtain ⟨i, j, rfl, rfl, hc, q⟩ := h
  obtain ⟨t, rfl⟩ := rx
  obtain ⟨t', rfl⟩ := ry
  exact rule i j t t' s _ _ hc ⟨.int (g i j), H, I.tok _, ⟨_, rfl⟩, q⟩
theorem opI0 {f : Value → Value → Sem Value} {g : Int → Int → Int}
    (rule : ∀ (i j : Int) (t u : Tok) (s : Shared) (Q : Value → Shared → Prop) (E : Value → Shared → Prop), Q (.int (g i j) s.toks) { s with toks := s.toks + 1 } → wpAny (model X.prog X.w) X.A (f (.int i t) (.int j u)) Q E s) :
    OpR X f (rI0 fun i j => .int (g i j)) := by
  intro pins s σ H x y v u Q I rx ry h
  obtain ⟨i, j, rfl, rfl, q⟩ := h
  obtain ⟨t, rfl⟩ := rx
  obtain ⟨t', rfl⟩ := ry
  exact rule i j t t' s _ _ ⟨.int (g i j), H, I.tok _, ⟨_, rfl⟩, q⟩
theorem opB0 {f : Value → Value → Sem Value} {g : Int → Int → Bool}
    (rule : ∀ (i j : Int) (t u : Tok) (s : Shared) (Q : Value → Shared → Prop) (E : Value → Shared → Prop), Q (.bool (g i j)) s → wpAny (model X.prog X.w) X.A (f (.int i t) (.int j u)) Q E s) :
    OpR X f (rI0 fun i j => .bl (g i j)) := by
  intro pins s σ H x y v u Q I rx ry h
  obtain ⟨i, j, rfl, rfl, q⟩ := h
  obtain ⟨t, rfl⟩ := rx
  obtain ⟨t', rfl⟩ := ry
  exact rule i j t t' s _ _ ⟨.bl (g i j), H, I, rfl, q⟩

def CDiv (i j : Int) : Prop := 0 < j ∧ j < 1073741824
def CDivN (i j : Int) : Prop := j ≠ 0 ∧ j.natAbs < 1073741824
def CPow (i j : Int) : Prop := 0 ≤ j ∧ j ≤ 1000000 ∧ i.natAbs < 2 ^ 64
def CMul (i j : Int) : Prop := (-(2 ^ 64) < i ∧ i < 2 ^ 64) ∨ (-(2 ^ 64) < j ∧ j < 2 ^ 64)
theorem CMul.ok {i j : Int} (h : CMul i j) : IntMulOk i j := by
  rcases h with ⟨h1, h2⟩ | ⟨h1, h2⟩
  · exact .of_left (intBits_le_64 h1 h2)
  · exact .of_right (intBits_le_64 h1 h2)
theorem op_add : OpR X (binaryOp .Add) (rI0 fun i j => .int (i + j)) := opI0 fun _ _ _ _ _ _ _ q => add_int q
theorem op_sub : OpR X (binaryOp .Sub) (rI0 fun i j => .int (i - j)) := opI0 fun _ _ _ _ _ _ _ q => sub_int q
theorem op_mul : OpR X (binaryOp .Mult) (rI CMul fun i j => .int (i * j)) := opI fun _ _ _ _ _ _ _ hc q => mul_int q hc.ok
/-- // by a positive divisor -/
theorem op_fdiv : OpR X (binaryOp .FloorDiv) (rI CDiv fun i j => .int (i / j)) := opI fun i j _ _ _ _ _ hc q => by
  have h1 : (0 : Int) < j := hc.1
  have h2 : j < 1073741824 := hc.2
  exact floordiv_int (by omega) (by rw [Int.fdiv_eq_ediv_of_nonneg i (by omega)]; exact q) (.inl (PyProof.noPylong_small (by omega)))
/-- % by a positive divisor of any size -/
theorem op_mod : OpR X (binaryOp .Mod) (rI (fun _ j => 0 < j) fun i j => .int (i % j)) := opI fun i j _ _ _ _ _ hc q => by
  have h1 : (0 : Int) < j := hc
  exact mod_int' (by omega) (by rw [Int.fmod_eq_emod_of_nonneg i (by omega)]; exact q)
theorem op_pow : OpR X (binaryOp .Pow) (rI CPow fun i j => .int (i ^ j.toNat)) := opI fun _ _ _ _ _ _ _ hc q => pow_int_small hc.1 hc.2.1 hc.2.2 q
theorem unI {f : Value → Sem Value} {g : Int → Int}
    (rule : ∀ (i : Int) (t : Tok) (s : Shared) (Q : Value → Shared → Prop) (E : Value → Shared → Prop), Q (.int (g i) s.toks) { s with toks := s.toks + 1 } → wpAny (model X.prog X.w) X.A (f (.int i t)) Q E s) :
    UnR X f (rU fun i => .int (g i)) := by
  intro pins s σ H x v Q I rx h
  obtain ⟨i, rfl, q⟩ := h
  obtain ⟨t, rfl⟩ := rx
  exact rule i t s _ _ ⟨.int (g i), H, I.tok _, ⟨_, rfl⟩, q⟩
theorem un_neg : UnR X (unaryOp .USub) (rU fun i => .int (-i)) := unI fun _ _ _ _ _ q => neg_int q
end

/-! ### comparisons -/
/-- the scalars that == tells apart as data does -/
def scal : V → V → Bool
  | .non, .non => true | .non, .int _ => true | .int _, .non => true | .non, .bl _ => true | .bl _, .non => true | .non, .str _ => true | .str _, .non => true
  | .int _, .int _ => true | .bl _, .bl _ => true | .str _, .str _ => true | .byt _, .byt _ => true
  | .int _, .str _ => true | .str _, .int _ => true | .bl _, .str _ => true | .str _, .bl _ => true
  | _, _ => false
def rEq : R2 := fun x y H Q => scal x y = true ∧ Q (.bl (decide (x = y))) H
def rNe : R2 := fun x y H Q => scal x y = true ∧ Q (.bl (!decide (x = y))) H

theorem dec_int {i j : Int} : decide (V.int i = V.int j) = (i == j) := by
  rw [Bool.eq_iff_iff]
  simp
theorem dec_bl {i j : Bool} : decide (V.bl i = V.bl j) = (i == j) := by
  rw [Bool.eq_iff_iff]
  simp
theorem dec_str {i j : Str} : decide (V.str i = V.str j) = (i == j) := by
  rw [Bool.eq_iff_iff]
  simp
theorem dec_byt {i j : Array UInt8} : decide (V.byt i = V.byt j) = (i.toList == j.toList) := by
  rw [Bool.eq_iff_iff]
  cases i
  cases j
  simp

section
variable {X : Cx} {a b c : Expr} {ta tb tc : TE} {pos : Pos}
theorem fin_bl {pins : List (Addr × Obj)} {σ : St} {H : Hp} {s : Shared} {Q : VK} {k k' : Bool} (I : Inv X pins σ H s) (q : Q (.bl k) H) (e : k = k') : EP X pins σ Q (.bool k') s := by
  subst e
  exact ⟨.bl k, H, I, rfl, q⟩
theorem op_eq : OpR X (compareOp .Eq) rEq := by
  intro pins s σ H x y v u Q I rx ry h
  obtain ⟨hs, q⟩ := h
  cases x with
  | non =>
    cases rx
    cases y with
    | non => cases ry; exact PySem.EqNone.eq_none_none (fin_bl I q (by simp))
    | bl j => cases ry; exact PySem.EqNone.eq_none_bool (fin_bl I q (by simp))
    | int j => obtain ⟨t', rfl⟩ := ry; exact PySem.EqNone.eq_none_int (fin_bl I q (by simp))
    | str j => obtain ⟨t', rfl⟩ := ry; exact PySem.EqNone.eq_none_str (fin_bl I q (by simp))
    | _ => exact absurd (show false = true from hs) Bool.false_ne_true
  | bl i =>
    cases rx
    cases y with
    | non => cases ry; exact PySem.EqNone.eq_bool_none (fin_bl I q (by simp))
    | bl j => cases ry; exact eq_bool (fin_bl I q dec_bl)
    | str j => obtain ⟨t', rfl⟩ := ry; exact PySem.EqMixed.eq_bool_str (fin_bl I q (by simp))
    | _ => exact absurd (show false = true from hs) Bool.false_ne_true
  | int i =>
    obtain ⟨t, rfl⟩ := rx
    cases y with
    | non => cases ry; exact PySem.EqNone.eq_int_none (fin_bl I q (by simp))
    | int j => obtain ⟨t', rfl⟩ := ry; exact eq_int (fin_bl I q dec_int)
    | str j => obtain ⟨t', rfl⟩ := ry; exact PySem.EqMixed.eq_int_str (fin_bl I q (by simp))
    | _ => exact absurd (show false = true from hs) Bool.false_ne_true
  | str i =>
    obtain ⟨t, rfl⟩ := rx
    cases y with
    | non => cases ry; exact PySem.EqNone.eq_str_none (fin_bl I q (by simp))
    | bl j => cases ry; exact PySem.EqMixed.eq_str_bool (fin_bl I q (by simp))
    | int j => obtain ⟨t', rfl⟩ := ry; exact PySem.EqMixed.eq_str_int (fin_bl I q (by simp))
    | str j => obtain ⟨t', rfl⟩ := ry; exact eq_str (fin_bl I q dec_str)
    | _ => exact absurd (show false = true from hs) Bool.false_ne_true
  | byt i =>
    obtain ⟨t, rfl⟩ := rx
    cases y with
    | byt j => obtain ⟨t', rfl⟩ := ry; exact PySem.W.eq_bytes (fin_bl I q dec_byt)
    | _ => exact absurd (show false = true from hs) Bool.false_ne_true
  | _ => cases y <;> exact absurd (show false = true from hs) Bool.false_ne_true
theorem op_ne : OpR X (compareOp .NotEq) rNe := by
  intro pins s σ H x y v u Q I rx ry h
  obtain ⟨hs, q⟩ := h
  cases x with
  | non =>
    cases rx
    cases y with
    | non => cases ry; exact PySem.EqNone.ne_none_none (fin_bl I q (by simp))
    | bl j => cases ry; exact PySem.EqNone.ne_none_bool (fin_bl I q (by simp))
    | int j => obtain ⟨t', rfl⟩ := ry; exact PySem.EqNone.ne_none_int (fin_bl I q (by simp))
    | str j => obtain ⟨t', rfl⟩ := ry; exact PySem.EqNone.ne_none_str (fin_bl I q (by simp))
    | _ => exact absurd (show false = true from hs) Bool.false_ne_true
  | bl i =>
    cases rx
    cases y with
    | non => cases ry; exact PySem.EqNone.ne_bool_none (fin_bl I q (by simp))
    | bl j => cases ry; exact ne_bool (fin_bl I q (congrArg not dec_bl))
    | str j => obtain ⟨t', rfl⟩ := ry; exact PySem.EqMixed.ne_bool_str (fin_bl I q (by simp))
    | _ => exact absurd (show false = true from hs) Bool.false_ne_true
  | int i =>
    obtain ⟨t, rfl⟩ := rx
    cases y with
    | non => cases ry; exact PySem.EqNone.ne_int_none (fin_bl I q (by simp))
    | int j => obtain ⟨t', rfl⟩ := ry; exact ne_int (fin_bl I q (congrArg not dec_int))
    | str j => obtain ⟨t', rfl⟩ := ry; exact PySem.EqMixed.ne_int_str (fin_bl I q (by simp))
    | _ => exact absurd (show false = true from hs) Bool.false_ne_true
  | str i =>
    obtain ⟨t, rfl⟩ := rx
    cases y with
    | non => cases ry; exact PySem.EqNone.ne_str_none (fin_bl I q (by simp))
    | bl j => cases ry; exact PySem.EqMixed.ne_str_bool (fin_bl I q (by simp))
    | int j => obtain ⟨t', rfl⟩ := ry; exact PySem.EqMixed.ne_str_int (fin_bl I q (by simp))
    | str j => obtain ⟨t', rfl⟩ := ry; exact ne_str (fin_bl I q (congrArg not dec_str))
    | _ => exact absurd (show false = true from hs) Bool.false_ne_true
  | byt i =>
    obtain ⟨t, rfl⟩ := rx
    cases y with
    | byt j => obtain ⟨t', rfl⟩ := ry; exact PySem.W.ne_bytes (fin_bl I q (congrArg not dec_byt))
    | _ => exact absurd (show false = true from hs) Bool.false_ne_true
  | _ => cases y <;> exact absurd (show false = true from hs) Bool.false_ne_true

theorem op_lt : OpR X (compareOp .Lt) (rI0 fun i j => .bl (decide (i < j))) := opB0 fun _ _ _ _ _ _ _ q => lt_int q
theorem op_gt : OpR X (compareOp .Gt) (rI0 fun i j => .bl (decide (j < i))) := opB0 fun _ _ _ _ _ _ _ q => gt_int q
theorem op_ge : OpR X (compareOp .GtE) (rI0 fun i j => .bl (decide (j ≤ i))) := opB0 fun _ _ _ _ _ _ _ q => ge_int q
/-- is None, is not None: the right side a value none -/
theorem op_isN : OpR X (compareOp .Is) (fun x y H Q => y = .non ∧ Q (.bl (decide (x = .non))) H) := by
  intro pins s σ H x y v u Q I rx ry h
  obtain ⟨rfl, q⟩ := h
  cases ry
  refine is_none_gen (fin_bl I q ?_)
  cases x <;> first
    | (cases rx; rfl)
    | (obtain ⟨t, rfl⟩ := rx; rfl)
theorem op_notN : OpR X (compareOp .IsNot) (fun x y H Q => y = .non ∧ Q (.bl (!decide (x = .non))) H) := by
  intro pins s σ H x y v u Q I rx ry h
  obtain ⟨rfl, q⟩ := h
  cases ry
  refine isnot_none_gen (fin_bl I q ?_)
  cases x <;> first
    | (cases rx; rfl)
    | (obtain ⟨t, rfl⟩ := rx; rfl)

/-- is, is not of two objects that are tracked lists or instances -/
def isObj : HO → Bool
  | .lst _ => true
  | .ins _ _ _ => true
  | _ => false
theorem nomark (b : Expr) {op : CmpOp} (h : op ≠ .In := by decide) (h2 : op ≠ .NotIn := by decide) : behindInMarks op b = false := by
  have e1 : (op == CmpOp.In) = false := by cases op <;> first | rfl | exact absurd rfl h
  have e2 : (op == CmpOp.NotIn) = false := by cases op <;> first | rfl | exact absurd rfl h2
  cases b <;> simp [behindInMarks, e1, e2]
/-- a comparison as a value; hm: nomark b, or (for in, not in) by with_unfolding_all rfl -/
theorem pe_cmpR {op : CmpOp} {r : R2} (ho : OpR X (compareOp op) r) (ha : PE X a ta) (hb : PE X b tb) (hm : behindInMarks op b = false) : PE X (.Compare a [op] [b] pos) (tOp r ta tb) := by
  intro pins s σ H Q I h
  exact wpAny_Compare1 (binT ha hb I h fun v u s2 x y H2 I2 rx ry q => ho pins s2 σ H2 x y v u Q I2 rx ry q) hm
/-- a reading of a value as a test -/
def tTest (t : TE) : TT := fun σ H Q => t σ H fun x H' => ∃ k, x = .bl k ∧ Q k H'
theorem pt_cmpR {op : CmpOp} {r : R2} (ho : OpR X (compareOp op) r) (ha : PE X a ta) (hb : PE X b tb) (hm : behindInMarks op b = false) : PT X (.Compare a [op] [b] pos) (tTest (tOp r ta tb)) := by
  intro pins s σ H Q I h
  refine wpAny_isTrue_Compare1 (thn (ha pins s σ H _ I h) fun v s1 ⟨x, H1, I1, r1, q1⟩ => thn (hb pins s1 σ H1 _ I1 q1) fun u s2 ⟨y, H2, I2, r2, q2⟩ =>
    thn (ho pins s2 σ H2 x y v u _ I2 r1 r2 q2) fun c s3 ⟨z, H3, I3, r3, k, e, q3⟩ => ?_) hm
  subst e
  cases r3
  exact wpAny_truthy_bool ⟨H3, I3, q3⟩
/-- a op1 b op2 c -/
def tChain (r r' : R2) (ta tb tc : TE) : TE := fun σ H Q => ta σ H fun x H1 => tb σ H1 fun y H2 => r x y H2 fun z H3 => ∃ k, z = .bl k ∧
  (if k = true then tc σ H3 fun w' H4 => r' y w' H4 Q else Q (.bl false) H3)
/-! ### truth -/
/-- a value's truth by the abstract heap -/
def TruV (K : PySem.W.Frag) (x : V) (H : Hp) (k : Bool) : Prop :=
  match x with
  | .non => k = false
  | .bl b => k = b
  | .int i => k = (i != 0)
  | .str y => y.length ≤ sizeLine ∧ k = ((y.length : Int) != 0)
  | .byt y => y.size ≤ sizeLine ∧ k = ((y.size : Int) != 0)
  | .ref p => (∃ xs, SqL K H p xs ∧ k = !xs.isEmpty) ∨ (∃ xs, SqT K H p xs ∧ k = !xs.isEmpty) ∨ ∃ kvs, H p = some (.dK kvs) ∧ k = !kvs.isEmpty
  | _ => False
theorem line63 : (sizeLine : Nat) < 2 ^ 63 := by rw [sizeLine_eq]; decide
def PlainIxT (b : Expr) : Prop := ∀ o i, subscripted b false o i = operate [o, i] (getItem o i)
/-! ### scalar builtins, by CallR -/
theorem vals1 {x : V} {us : List Value} (r : Vals [x] us) : ∃ u, us = [u] ∧ RelV x u := by
  cases r with
  | cons r1 r2 => cases r2; exact ⟨_, rfl, r1⟩
theorem call_abs : CallR X (.builtin "abs") (fun xs H Q => ∃ i, xs = [.int i] ∧ Q (.int (if i < 0 then -i else i)) H) := by
  intro pins s σ H xs us Q I r h
  obtain ⟨i, rfl, q⟩ := h
  obtain ⟨u, rfl, t, rfl⟩ := vals1 r
  exact call_abs_int fun u tk => ⟨.int (if i < 0 then -i else i), H, I.tok _, ⟨_, rfl⟩, q⟩
theorem call_int1 : CallR X (.type "int") (fun xs H Q => (∃ i, xs = [.int i] ∧ Q (.int i) H) ∨ ∃ k, xs = [.bl k] ∧ Q (.int (if k then 1 else 0)) H) := by
  intro pins s σ H xs us Q I r h
  rcases h with ⟨i, rfl, q⟩ | ⟨k, rfl, q⟩
  · obtain ⟨u, rfl, t, rfl⟩ := vals1 r
    exact call_int_int ⟨.int i, H, I, ⟨_, rfl⟩, q⟩
  · obtain ⟨u, rfl, r1⟩ := vals1 r
    cases r1
    exact call_int_bool ⟨.int (if k then 1 else 0), H, I.tok _, ⟨_, rfl⟩, q⟩
/-- len of a str, a bytes, a list, a tuple -/
def LenV (K : PySem.W.Frag) (x : V) (H : Hp) (n : Nat) : Prop :=
  match x with
  | .str y => y.length ≤ sizeLine ∧ n = y.length
  | .byt y => y.size ≤ sizeLine ∧ n = y.size
  | .ref p => (∃ xs, SqL K H p xs ∧ n = xs.length) ∨ ∃ xs, SqT K H p xs ∧ n = xs.length
  | _ => False
end
end L2

namespace L2
open PySem PySem.Spec PyProof.Rows

/-! ### an instance, its attributes a map -/
structure ObjM (h : Heap) (x dx C : Addr) (mA : Str → Option Value) : Prop where
  obj : h.get? x = some (PySem.W.instObj C dx)
  ns : h.Ns1 dx mA
  ne : dx ≠ x

theorem lookIn_ns {h : Heap} {dx : Addr} {mA : Str → Option Value} (n : h.Ns1 dx mA) : ∃ od, h.get? dx = some od ∧ ∀ name, PySem.W.lookIn name od = some (mA name) := by
  obtain ⟨o, es, ep, ho, hd, hk, _, hm⟩ := n
  refine ⟨o, ho, fun name => ?_⟩
  have e := hm name
  unfold nsFind findBy at e
  rw [← Array.find?_toList] at e
  unfold PySem.W.lookIn
  rw [hd]
  dsimp only
  split
  · rename_i y q
    rw [q] at e
    exact congrArg some e
  · rename_i q
    rw [q] at e
    have a : es.toList.any (·.refKey) = false := by
      rw [List.any_eq_false]
      intro y hy
      obtain ⟨z, t, hkey⟩ := hk y (Array.mem_toList_iff.mp hy)
      simp [DictEntry.refKey, hkey]
    have a' : ¬ es.toList.any (·.refKey) = true := by rw [a]; exact Bool.false_ne_true
    rw [if_neg a']
    exact congrArg some e

theorem ObjM.look {h : Heap} {x dx C : Addr} {mA : Str → Option Value} (I : ObjM h x dx C mA) : ∃ od, PySem.W.InstAt h x (PySem.W.instObj C dx) C (some od) ∧ ∀ name, PySem.W.lookIn name od = some (mA name) :=
  let ⟨od, ho, hl⟩ := lookIn_ns I.ns
  ⟨od, ⟨I.obj, rfl, rfl, ho⟩, hl⟩

section
variable {prog : Program} {w : World} {A : Around} {E : Value → Shared → Prop} {s : Shared} {K : PySem.W.Frag} {x dx C f : Addr} {mA : Str → Option Value} {name : Str} {v : Value}

end

/-! ### the attributes as a list of pairs -/
def putF (f : Str) (v : V) : List (Str × V) → List (Str × V)
  | [] => [(f, v)]
  | (g, x) :: r => if g = f then (g, v) :: r else (g, x) :: putF f v r
section
variable {P : Program} {w : World} {H H' : Hp} {h h' : Heap} {a C dx : Addr} {fs fs' : List (Str × V)}
theorem ins_get (hok : HOk P w H h) (e : H a = some (.ins C dx fs)) : ∃ mA, ObjM h a dx C mA ∧ (∀ f, RelO (fs.lookup f) (mA f)) ∧ PySem.Within mA (fs.map (·.1)) ∧ fs.length ≤ 1000 ∧ H dx = some (.own a) := by
  obtain ⟨d, z, ne, ob, mA, n, r, q⟩ := (show ObjOk P w H h a (.ins C dx fs) from hok a _ e)
  exact ⟨mA, ⟨ob, n, ne⟩, r, q, z, d⟩
end

/-! ### what of the text a class must have -/
structure Cls (K : PySem.W.Frag) (C : Addr) : Prop where
  pg : PySem.W.plainGet K C Str.empty = true
  hd : PySem.W.hasDictIn K C = true
  po : PySem.W.plainOver K C = true
  sa : PySem.W.findIn K (.ref C) "__setattr__" = some (some (.builtin "object.__setattr__"))
theorem Cls.get {K : PySem.W.Frag} {C : Addr} (c : Cls K C) (f : Str) : PySem.W.plainGet K C f = true := c.pg
/-- no class of it has the name -/
def NoAttr (K : PySem.W.Frag) (C : Addr) (f : Str) : Prop := PySem.W.findIn K (.ref C) f = some none
/-- a constant of the class -/
structure Con (K : PySem.W.Frag) (C : Addr) (f : Str) (v : V) (u : Value) : Prop where
  at_ : PySem.W.findIn K (.ref C) f = some (some u)
  rel : RelV v u
  get : PySem.W.specialIn K u "__get__" = some none
  cp : PySem.W.copiedNames.contains f = false
/-- a method: a plain def of the class or of one above it -/
structure Meth (K : PySem.W.Frag) (C : Addr) (m : Str) (f : Addr) : Prop where
  at_ : PySem.W.findIn K (.ref C) m = some (some (.ref f))
  fn : PySem.W.isFn K (.ref f) = true
  kp : PySem.W.keepIn K (.ref f) = true

section
variable {X : Cx} {pins : List (Addr × Obj)} {σ : St} {H : Hp} {s : Shared} {a C dx : Addr} {fs : List (Str × V)} {f : Str} {v : V} {A : Around} {E : Value → Shared → Prop}

end

/-! ### readings and rules -/
/-- e.f, an attribute of the instance -/
def tFld (K : PySem.W.Frag) (ta : TE) (f : Str) : TE := fun σ H Q => ta σ H fun x H1 => ∃ a C dx fs v, x = .ref a ∧ H1 a = some (.ins C dx fs) ∧ Cls K C ∧ NoAttr K C f ∧ fs.lookup f = some v ∧ Q v H1
/-- e.f, a constant of the class -/
def tCon (K : PySem.W.Frag) (ta : TE) (f : Str) : TE := fun σ H Q => ta σ H fun x H1 => ∃ a C dx fs v u, x = .ref a ∧ H1 a = some (.ins C dx fs) ∧ Cls K C ∧ Con K C f v u ∧ fs.lookup f = none ∧ Q v H1
/-- e.f = value -/
def sFld (K : PySem.W.Frag) (ta tv : TE) (f : Str) : TS := fun D σ H => tv σ H fun y H1 => ta σ H1 fun x H2 => ∃ a C dx fs, x = .ref a ∧ H2 a = some (.ins C dx fs) ∧ Cls K C ∧ NoAttr K C f ∧ fs.length < 1000 ∧
  D.nx σ (upd H2 a (.ins C dx (putF f y fs)))
/-- an augmented operator on two values -/
def InOp (X : Cx) (op : Operator) (rd : V → V → Hp → VK → Prop) : Prop :=
  ∀ (pins : List (Addr × Obj)) (s : Shared) (σ : St) (H : Hp) (x y : V) (u v : Value) (Q : VK), Inv X pins σ H s → RelV x u → RelV y v → rd x y H Q → wpAny (model X.prog X.w) X.A (inplaceOp op u v) (EP X pins σ Q) X.xe s
/-- e.f op= value -/
def sFldAug (K : PySem.W.Frag) (ta tv : TE) (rd : V → V → Hp → VK → Prop) (f : Str) : TS := fun D σ H => ta σ H fun x H1 => ∃ a C dx fs v, x = .ref a ∧ H1 a = some (.ins C dx fs) ∧ Cls K C ∧ NoAttr K C f ∧ fs.lookup f = some v ∧
  tv σ H1 fun y H2 => rd v y H2 fun z H3 => ∃ dx' fs', H3 a = some (.ins C dx' fs') ∧ fs'.length < 1000 ∧ D.nx σ (upd H3 a (.ins C dx' (putF f z fs')))

section
variable {X : Cx} {o e value : Expr} {f : Str} {pos pos' tpos : Pos} {ta tv : TE}
def rAdd : V → V → Hp → VK → Prop := fun x y H Q => ∃ i j, x = .int i ∧ y = .int j ∧ Q (.int (i + j)) H
def rSub : V → V → Hp → VK → Prop := fun x y H Q => ∃ i j, x = .int i ∧ y = .int j ∧ Q (.int (i - j)) H
end

/-! ### isinstance -/
section
variable {X : Cx} {pins : List (Addr × Obj)} {σ : St} {H : Hp} {s : Shared} {A : Around} {E : Value → Shared → Prop} {Q : Value → Shared → Prop} {c : Value} {b : Bool}
/-- the type of a value, as the fragment's deciders take it; for an instance its class -/
inductive TyOf (K : PySem.W.Frag) (H : Hp) : V → Value → Prop where
  | non : TyOf K H .non (.type "NoneType")
  | bl (x : Bool) : TyOf K H (.bl x) (.type "bool")
  | int (i : Int) : TyOf K H (.int i) (.type "int")
  | str (x : Str) : TyOf K H (.str x) (.type "str")
  | flt (x : UInt64) : TyOf K H (.flt x) (.type "float")
  | lst {a : Addr} {xs : List V} (e : H a = some (.lst xs)) : TyOf K H (.ref a) (.type "list")
  | frz {a : Addr} {o : Obj} {xs : List V} (e : H a = some (.frz o (.lst xs))) : TyOf K H (.ref a) (.type "list")
  | tup {a : Addr} {xs : List V} (e : H a = some (.tup xs)) : TyOf K H (.ref a) (.type "tuple")
  | dK {a : Addr} {kvs : List (Key × V)} (e : H a = some (.dK kvs)) : TyOf K H (.ref a) (.type "dict")
  | dT {a : Addr} {kvs : List (List Key × V)} (e : H a = some (.dT kvs)) : TyOf K H (.ref a) (.type "dict")
  | ins {a C dx : Addr} {fs : List (Str × V)} (e : H a = some (.ins C dx fs)) (cl : Cls K C) (ha : PySem.W.findIn K (.ref C) "__class__" = some (some (.builtin "object.__class__")))
      (hn : PySem.W.specialIn K (.builtin "object.__class__") "__get__" = some (some (.builtin "getset_descriptor.__get__"))) (htk : PySem.W.takesIn K (.builtin "object.__class__") = some true)
      (hm : PySem.W.mroIn K C (.type "object") = some true) : TyOf K H (.ref a) (.ref C)
/-- isinstance(x, c) for one class c, a built-in or an own one: kitOne's answer -/
theorem isinst_ok {x : V} {u t : Value} (I : Inv X pins σ H s) (rx : RelV x u) (ty : TyOf X.K H x t) (e : PySem.W.kitOne X.K t c = some b) (h : ∀ tk, Q (.bool b) { s with toks := tk }) :
    wpAny (model X.prog X.w) A (call (.builtin "isinstance") [u, c]) Q E s := by
  cases ty with
  | non => cases (show u = Value.none from rx); exact PySem.W.kia_one PySem.W.kitx_none I.kIn True.intro e (fun z => nomatch z) h
  | bl y => cases (show u = Value.bool y from rx); exact PySem.W.kia_one PySem.W.kitx_bool I.kIn True.intro e (fun z => nomatch z) h
  | int i => obtain ⟨t, q⟩ := (show ∃ t, u = Value.int i t from rx); cases q; exact PySem.W.kia_one PySem.W.kitx_int I.kIn True.intro e (fun z => nomatch z) h
  | str y => obtain ⟨t, q⟩ := (show ∃ t, u = Value.str y t from rx); cases q; exact PySem.W.kia_one PySem.W.kitx_str I.kIn True.intro e (fun z => nomatch z) h
  | flt y => obtain ⟨t, q⟩ := (show ∃ t, u = Value.float y t from rx); cases q; exact PySem.W.kia_one PySem.W.kitx_float I.kIn True.intro e (fun z => nomatch z) h
  | @lst a xs ea =>
    cases (show u = Value.ref a from rx)
    obtain ⟨_, _, n, _, h1⟩ := (show ObjOk X.prog X.w H s.heap a (.lst xs) from I.hok a _ ea)
    exact PySem.W.kia_one PySem.W.kitx_list I.kIn ⟨_, h1, rfl⟩ e (fun z => nomatch z) h
  | @frz a ob xs ea =>
    cases (show u = Value.ref a from rx)
    obtain ⟨_, _, _, n, _, h1⟩ := (show ObjOk X.prog X.w H s.heap a (.frz ob (.lst xs)) from I.hok a _ ea)
    exact PySem.W.kia_one PySem.W.kitx_list I.kIn ⟨_, h1, rfl⟩ e (fun z => nomatch z) h
  | @tup a xs ea =>
    cases (show u = Value.ref a from rx)
    obtain ⟨_, _, _, p⟩ := (show ObjOk X.prog X.w H s.heap a (.tup xs) from I.hok a _ ea)
    obtain ⟨o, h1, h2, _⟩ := p
    exact PySem.W.kia_one PySem.W.kitx_tuple I.kIn ⟨o, h1, h2⟩ e (fun z => nomatch z) h
  | @dK a kvs ea =>
    cases (show u = Value.ref a from rx)
    obtain ⟨_, _, vs, _, p⟩ := (show ObjOk X.prog X.w H s.heap a (.dK kvs) from I.hok a _ ea)
    obtain ⟨o, es, ep, h1, h2, _⟩ := p
    exact PySem.W.kia_one PySem.W.kitx_dict I.kIn ⟨o, h1, h2.1⟩ e (fun z => nomatch z) h
  | @dT a kvs ea =>
    cases (show u = Value.ref a from rx)
    obtain ⟨_, _, xs, _, o, es, ep, h1, h2, _⟩ := (show ObjOk X.prog X.w H s.heap a (.dT kvs) from I.hok a _ ea)
    exact PySem.W.kia_one PySem.W.kitx_dict I.kIn ⟨o, h1, h2.1⟩ e (fun z => nomatch z) h
  | @ins a C dx fs ea cl ha hn htk hm =>
    cases (show u = Value.ref a from rx)
    obtain ⟨mA, O, _⟩ := ins_get I.hok ea
    obtain ⟨od, J, _⟩ := O.look
    exact PySem.W.kia_one (PySem.W.kitx_own (cl.get _) cl.hd ha hn htk hm) I.kIn J e (fun z => nomatch z) h
end
end L2

namespace L2
open PySem PySem.Spec PyProof.Rows

/-! ### room -/
structure Room (k : Nat) (A : Around) : Prop where
  hd : A.handled = none
  dp : A.depth + 3 * k + 5 < recursionLimit
  un : A.units + 16 * k + 200 < cLine
  gd : A.guards = some []
theorem Room.mono {j k : Nat} {A : Around} (r : Room k A) (h : j ≤ k) : Room j A := ⟨r.hd, by have := r.dp; omega, by have := r.un; omega, r.gd⟩
theorem Room.deeper {k : Nat} {A : Around} (r : Room (k + 1) A) (env : Env) : Room k (A.deeper env) :=
  ⟨r.hd, by have := r.dp; show A.depth + 1 + 3 * k + 5 < _; omega, by have := r.un; show A.units + 3 + 16 * k + 200 < _; omega, r.gd⟩
theorem Room.depth {k : Nat} {A : Around} (r : Room k A) : A.depth < recursionLimit := by have := r.dp; omega
theorem Room.units {k : Nat} {A : Around} (r : Room k A) : A.units + 64 < cLine := by have := r.un; omega
/-! ### argument lists and displays -/
def tNil : TA := fun _ H Q => Q [] H
def tCons (ta : TE) (tr : TA) : TA := fun σ H Q => ta σ H fun x H1 => tr σ H1 fun xs H2 => Q (x :: xs) H2
section
variable {X : Cx} {e : Expr} {es : List Expr} {te : TE} {t : TA} {pos : Pos}
theorem pa_nil : PA X [] tNil := fun _ _ _ _ H Q I h => Calls.spliced_nil ⟨[], H, I, .nil, h⟩
theorem pa_cons (ha : PE X e te) (hr : PA X es t) (hs : starEach (e :: es) X.env = (false, eval e X.env) :: starEach es X.env := by rfl) : PA X (e :: es) (tCons te t) := by
  intro pos pins s σ H Q I h
  rw [hs]
  show wpAny _ _ (spliced ((false, eval e X.env) :: backTo pos (starEach es X.env))) _ _ s
  refine Calls.spliced_cons (thn (ha pins s σ H _ I h) fun u s1 ⟨x, H1, I1, r1, q1⟩ => ?_)
  exact thn (hr pos pins s1 σ H1 _ I1 q1) fun us s2 ⟨xs, H2, I2, r2, q2⟩ => ⟨x :: xs, H2, I2, .cons r1 r2, q2⟩

/-- a tuple, a list of written items -/
def tTup (t : TA) : TE := fun σ H Q => t σ H fun xs H1 => xs.length ≤ sizeLine ∧ ∀ p, H1 p = none → Q (.ref p) (upd H1 p (.tup xs))
def tLst (t : TA) : TE := fun σ H Q => t σ H fun xs H1 => xs.length ≤ sizeLine ∧ ∀ p, H1 p = none → Q (.ref p) (upd H1 p (.lst xs))
theorem pe_tup {x1} (h : PA X es t) : PE X (.Tuple es x1 pos) (tTup t) := by
  intro pins s σ H Q I hq
  refine wpAny_Tuple_spliced (thn (h pos pins s σ H _ I hq) fun us s1 ⟨xs, H1, I1, r, z, q⟩ => ⟨by rw [← r.length]; exact z, ?_⟩)
  have hf : H1 s1.heap.objs.size = none := I1.hok.fresh (Nat.le_refl _)
  refine ⟨.ref s1.heap.objs.size, upd H1 s1.heap.objs.size (.tup xs), I1.laid (t' := s1.toks) (fun b u e => Heap.get?_push_of_some _ e) (Nat.le_refl _) ?_, rfl, q _ hf⟩
  exact ⟨z, us, r, ⟨_, Heap.get?_push_size _ rfl, rfl, _, rfl⟩⟩
theorem pe_lst (h : PA X es t) : PE X (.List es pos) (tLst t) := by
  intro pins s σ H Q I hq
  refine wpAny_List_spliced (thn (h pos pins s σ H _ I hq) fun us s1 ⟨xs, H1, I1, r, z, q⟩ => ⟨by rw [← r.length]; exact z, ?_⟩)
  have hf : H1 s1.heap.objs.size = none := I1.hok.fresh (Nat.le_refl _)
  refine ⟨.ref s1.heap.objs.size, upd H1 s1.heap.objs.size (.lst xs), I1.laid (t' := s1.toks) (fun b u e => Heap.get?_push_of_some _ e) (Nat.le_refl _) ?_, rfl, q _ hf⟩
  exact ⟨z, us, 0, r, Heap.get?_push_size _ rfl⟩
end

/-! ### what a def promises -/
/-- a def's promise: the bound arguments in the parameters' order, the heap, the wanted end, the wanted exception -/
abbrev Sp := List V → Hp → VK → XK → Prop
/-- how an exception lies behind a call (file 08 gives it): the callers' frames, abstract heap and state ahead of the call, the wish, the exception, the state -/
abbrev CXT := List Env → Hp → Shared → XK → Value → Shared → Prop

/-- the state at a call -/
structure Env0 (P : Program) (w : World) (K : PySem.W.Frag) (mg : Str → Option Value) (base : Heap) (A : Around) (outer : List Env) (s : Shared) (H : Hp) : Prop where
  frames : A.frames = some outer
  mod : Mod K mg base
  bs : ∀ b o, base.get? b = some o → s.heap.get? b = some o ∧ H b = none
  bsz : base.objs.size ≤ s.heap.objs.size
  funs : s.heap.FunFrames base outer
  frf : ∀ b ∈ frs outer, H b = none
  hok : HOk P w H s.heap
  bare : AllBare s.gens
/-- a call's end -/
def CE (outer : List Env) (P : Program) (w : World) (H : Hp) (s : Shared) (Q : VK) (u : Value) (s' : Shared) : Prop :=
  ∃ v H', s'.os = s.os ∧ AllBare s'.gens ∧ Un (frs outer) [] H H' s.heap s'.heap ∧ HOk P w H' s'.heap ∧ RelV v u ∧ Q v H'
def CR (CX : CXT) (outer : List Env) (P : Program) (w : World) (H : Hp) (s : Shared) (Q : VK) (E : XK) (r : Result) (s' : Shared) : Prop :=
  match r with
  | .ok (.ret u) => CE outer P w H s Q u s'
  | .ok _ => False
  | .error e => CX outer H s E e s'
structure FnOk (P : Program) (w : World) (K : PySem.W.Frag) (mg : Str → Option Value) (base : Heap) (CX : CXT) (k : Nat) (f : Addr) (fd : FuncData) (ps : List Str) (sp : Sp) : Prop where
  len : ∀ vs H Q E, sp vs H Q E → vs.length = ps.length
  run : ∀ (A : Around) (outer : List Env) (s : Shared) (H : Hp) (args : Args) (us : List Value) (vs : List V) (Q : VK) (E : XK), Room k A → Env0 P w K mg base A outer s H → BindsTo s fd args (ps.zip us) → Vals vs us → sp vs H Q E →
    codeAny (model P w) A (.call (.ref f) args) (CR CX outer P w H s Q E) s
section
variable {X : Cx} {pins : List (Addr × Obj)} {σ : St} {H : Hp} {s s' : Shared}
/-- from a body: what a callee wants -/
theorem Inv.env0 (I : Inv X pins σ H s) : Env0 X.prog X.w X.K X.mg X.base X.A X.stack s H :=
  ⟨I.ok.frames, I.ok.mod, I.bs, Nat.le_trans I.ok.bsz I.sz, I.stack, I.stkFree, I.hok, I.bare⟩
/-- behind a call -/
theorem Inv.after {Q : VK} {u : Value} (I : Inv X pins σ H s) (h : CE X.stack X.prog X.w H s Q u s') : EP X pins σ Q u s' := by
  obtain ⟨v, H', os, bare, un, hok, r, q⟩ := h
  obtain ⟨hh, g, d, t, os'⟩ := s'
  obtain rfl : os' = s.os := os
  exact ⟨v, H', I.call (h' := hh) (g' := g) (d' := d) (t' := t) (ch := []) un hok bare (fun b z => absurd z (by simp)), r, q⟩
end

/-! ### calls -/
/-- f(..): the written arguments, then the defaults dvs; E: what is wanted of an exception -/
def tCall (sp : Sp) (dvs : List V) (E : XK) (t : TA) : TE := fun σ H Q => t σ H fun vs H1 => sp (vs ++ dvs) H1 Q E
/-- o.m(..) of an instance of the class at C -/
def tMeth (C : Addr) (m : Str) (sp : Sp) (dvs : List V) (E : XK) (ta : TE) (t : TA) : TE := fun σ H Q => ta σ H fun x H1 => ∃ a dx fs, x = .ref a ∧ H1 a = some (.ins C dx fs) ∧ fs.lookup m = none ∧
  t σ H1 fun vs H2 => sp (x :: (vs ++ dvs)) H2 Q E
/-- C(..): a new instance and its dict, then __init__ -/
def tMake (C : Addr) (sp : Sp) (dvs : List V) (E : XK) (t : TA) : TE := fun σ H Q => t σ H fun vs H1 => ∀ x dx, H1 x = none → H1 dx = none → dx ≠ x →
  sp (.ref x :: (vs ++ dvs)) (upd (upd H1 dx (.own x)) x (.ins C dx [])) (fun v H2 => v = .non ∧ Q (.ref x) H2) E

/-- how the parameters are bound: us the positional arguments, kw the keywords' values by name, ds the defaults that fill up -/
def Binds (K : PySem.W.Frag) (fd : FuncData) (ps : List Str) (ds : List Value) : Prop :=
  ∀ (s : Shared) (us : List Value), K.In s.heap → (us ++ ds).length = ps.length → BindsTo s fd ⟨us, []⟩ (ps.zip (us ++ ds))
/-- every parameter is given -/
theorem Binds.all {K : PySem.W.Frag} {fd : FuncData} {ps : List Str} (h : ∀ us : List Value, us.length = ps.length → bindArgs fd ⟨us, []⟩ = pure (ps.zip us)) : Binds K fd ps [] := fun s us _ hl => by
  rw [List.append_nil] at hl ⊢
  exact .of_eq (h us hl)

/-- an exception of a callee reaches what this body wants of exceptions -/
def Passes (CX : CXT) (X : Cx) (E : XK) : Prop := ∀ (pins : List (Addr × Obj)) (σ : St) (H : Hp) (s : Shared) (e : Value) (s' : Shared), Inv X pins σ H s → CX X.stack H s E e s' → X.xe e s'

section
variable {X : Cx} {CX : CXT} {k : Nat} {f C : Addr} {fd : FuncData} {ps : List Str} {sp : Sp} {dvs : List V} {ds : List Value} {E : XK} {x m : Str} {p pos apos : Pos} {e o : Expr} {es : List Expr} {ta : TE} {t : TA}

/-- the callee runs -/
theorem run_fn {pins : List (Addr × Obj)} {σ : St} {H : Hp} {s : Shared} {Q : VK} {us : List Value} {vs : List V} (F : FnOk X.prog X.w X.K X.mg X.base CX k f fd ps sp) (hr : Room k X.A) (hb : Binds X.K fd ps ds) (hd : Vals dvs ds) (hx : Passes CX X E)
    (I : Inv X pins σ H s) (r : Vals vs us) (h : sp (vs ++ dvs) H Q E) : wpAny (model X.prog X.w) X.A (call (.ref f) us) (EP X pins σ Q) X.xe s := by
  have r2 : Vals (vs ++ dvs) (us ++ ds) := r.append hd
  have hl : (us ++ ds).length = ps.length := by rw [← r2.length]; exact F.len _ _ _ _ h
  refine wpAny_call (codeAny_mono (F.run X.A X.stack s H ⟨us, []⟩ (us ++ ds) (vs ++ dvs) Q E hr I.env0 (hb s us I.kIn hl) r2 h) fun r s' hq => ?_)
  cases r with
  | error e => exact hx pins σ H s e s' I hq
  | ok fl =>
    cases fl with
    | ret u => exact I.after hq
    | next => exact False.elim hq
    | brk => exact False.elim hq
    | cont => exact False.elim hq

theorem pe_call (F : FnOk X.prog X.w X.K X.mg X.base CX k f fd ps sp) (hr : Room k X.A) (hg : Gl X x) (hm : X.mg x = some (.ref f)) (hk : PySem.W.keepIn X.K (.ref f) = true) (hb : Binds X.K fd ps ds) (hd : Vals dvs ds) (hx : Passes CX X E)
    (ha : PA X (e :: es) t) (hdb : (x == ("__debug__" : Str)) = false := by decide) (he : starEach (e :: es) X.env = (false, eval e X.env) :: starEach es X.env := by rfl) (hpl : (backTo pos (starEach es X.env)).any (·.1) = false := by rfl) :
    PE X (.Call (.Name x p) (e :: es) [] pos) (tCall sp dvs E t) := by
  intro pins s σ H Q I h
  refine wpAny_Call_Name_kw (ld_glob I hg hm ?_ hdb)
  refine PySem.W.callWith_K (h₀ := X.base) I.ok.mod.kin hk (thn (ha pos pins s σ H _ I h) fun us s1 ⟨vs, H1, I1, r, q⟩ => ⟨I1.kIn, ?_⟩) he hpl
  exact run_fn F hr hb hd hx I1 r q
/-- what a class must have to be made -/
structure Mk (K : PySem.W.Frag) (C f : Addr) : Prop where
  makes : PySem.W.makesIn K C = true
  init : PySem.W.findIn K (.ref C) "__init__" = some (some (.ref f))
  fn : PySem.W.isFn K (.ref f) = true
  kp : PySem.W.keepIn K (.ref C) = true

end

/-! ### keywords -/
/-- the values of the keywords, from the left -/
def PK (X : Cx) (kws : List Keyword) (t : TA) : Prop :=
  ∀ (pos : Pos) (pins : List (Addr × Obj)) (s : Shared) (σ : St) (H : Hp) (Q : List V → Hp → Prop), Inv X pins σ H s → t σ H Q → wpAny (model X.prog X.w) X.A (evalAll ((backToKw pos (keywordEach kws X.env)).map (·.2))) (AP X pins σ Q) X.xe s
section
variable {X : Cx} {CX : CXT} {k : Nat} {f C : Addr} {fd : FuncData} {ps ks : List Str} {sp : Sp} {E : XK} {x m : Str} {p pos apos kpos : Pos} {e o : Expr} {es : List Expr} {kws : List Keyword} {te ta : TE} {t tk : TA} {nm : Option Str}
/-- how a call with keywords binds: g puts the positional values us and the keywords' values ws (names ks) in the parameters' order, defaults among them -/
structure KBinds (K : PySem.W.Frag) (fd : FuncData) (ps ks : List Str) (g : List Value → List Value → List Value) (gV : List V → List V → List V) : Prop where
  to : ∀ (s : Shared) (us ws : List Value), K.In s.heap → (g us ws).length = ps.length → BindsTo s fd ⟨us, ks.zip ws⟩ (ps.zip (g us ws))
  rel : ∀ {vs : List V} {us : List Value} {zs : List V} {ws : List Value}, Vals vs us → Vals zs ws → Vals (gV vs zs) (g us ws)
def tCallK (sp : Sp) (gV : List V → List V → List V) (E : XK) (t tk : TA) : TE := fun σ H Q => t σ H fun vs H1 => tk σ H1 fun zs H2 => sp (gV vs zs) H2 Q E
variable {g : List Value → List Value → List Value} {gV : List V → List V → List V}
end

/-! ### a def's body keeps its promise -/
/-- names: the parameters first -/
structure FnScope (N P : List Str) (sc : Scope) : Prop where
  kind : sc.kind = .function
  co : sc.isCoroutine = false
  gen : sc.isGenerator = false
  nd : N.Nodup
  pre : N.take P.length = P
  par : ∀ x ∈ P, sc.names.lookup x = some .local ∨ sc.names.lookup x = some .cell
  nofree : ∀ y ∈ sc.names, y.2 ≠ .free

theorem bindL_out {kindOf : Str → Option NameKind} {x : Str} : ∀ {binds : List (Str × Value)} {m : Str → Option Value}, (∀ v, (x, v) ∉ binds) → bindL kindOf binds m x = m x
  | [], _, _ => rfl
  | (n, v) :: r, m, h => by
    unfold bindL
    rw [bindL_out fun w hw => h w (List.mem_cons_of_mem _ hw)]
    split
    · have : x ≠ n := by rintro rfl; exact h v List.mem_cons_self
      simp [this]
    · rfl
theorem bindC_out {kindOf : Str → Option NameKind} {x : Str} : ∀ {binds : List (Str × Value)} {m : Str → Option Value}, (∀ v, (x, v) ∉ binds) → bindC kindOf binds m x = m x
  | [], _, _ => rfl
  | (n, v) :: r, m, h => by
    unfold bindC
    rw [bindC_out fun w hw => h w (List.mem_cons_of_mem _ hw)]
    split
    · rfl
    · have : x ≠ n := by rintro rfl; exact h v List.mem_cons_self
      simp [this]
theorem bindL_get {kindOf : Str → Option NameKind} {x : Str} {v : Value} : ∀ {P : List Str} {vs : List Value} {i : Nat} {m : Str → Option Value}, P.Nodup → P[i]? = some x → vs[i]? = some v → kindOf x = some .local →
    bindL kindOf (P.zip vs) m x = some v
  | [], _, _, _, _, h, _, _ => by simp at h
  | _ :: _, [], _, _, _, _, h, _ => by simp at h
  | p :: P, w :: vs, 0, m, nd, h1, h2, hk => by
    simp at h1 h2; subst h1; subst h2
    show bindL kindOf ((p, w) :: P.zip vs) m p = _
    unfold bindL
    rw [bindL_out fun v hv => (List.nodup_cons.mp nd).1 (List.of_mem_zip hv).1, if_pos hk]
    simp
  | p :: P, w :: vs, i + 1, m, nd, h1, h2, hk => by
    show bindL kindOf ((p, w) :: P.zip vs) m x = _
    unfold bindL
    exact bindL_get (i := i) (List.nodup_cons.mp nd).2 (by simpa using h1) (by simpa using h2) hk
theorem bindC_get {kindOf : Str → Option NameKind} {x : Str} {v : Value} : ∀ {P : List Str} {vs : List Value} {i : Nat} {m : Str → Option Value}, P.Nodup → P[i]? = some x → vs[i]? = some v → kindOf x ≠ some .local →
    bindC kindOf (P.zip vs) m x = some v
  | [], _, _, _, _, h, _, _ => by simp at h
  | _ :: _, [], _, _, _, _, h, _ => by simp at h
  | p :: P, w :: vs, 0, m, nd, h1, h2, hk => by
    simp at h1 h2; subst h1; subst h2
    show bindC kindOf ((p, w) :: P.zip vs) m p = _
    unfold bindC
    rw [bindC_out fun v hv => (List.nodup_cons.mp nd).1 (List.of_mem_zip hv).1, if_neg hk]
    simp
  | p :: P, w :: vs, i + 1, m, nd, h1, h2, hk => by
    show bindC kindOf ((p, w) :: P.zip vs) m x = _
    unfold bindC
    exact bindC_get (i := i) (List.nodup_cons.mp nd).2 (by simpa using h1) (by simpa using h2) hk

/-- the names' values at the entry -/
def start (N : List Str) (vs : List V) : St := vs.map some ++ List.replicate (N.length - vs.length) none

/-- the context of a def's body, at its entry; an exception leaves the frame, then lies as CX says -/
def cxOf (CX : CXT) (P : Program) (w : World) (K : PySem.W.Frag) (mg : Str → Option Value) (base : Heap) (N : List Str) (qual : Str) (scope : Scope) (f : Addr) (cd : Value) (A : Around) (outer : List Env) (s : Shared) (H : Hp) (E : XK) : Cx where
  prog := P
  w := w
  K := K
  mg := mg
  base := base
  A := A.deeper (envOfC qual scope s.heap.objs.size f cd)
  N := N
  s₀ := s
  H₀ := H
  env := envOfC qual scope s.heap.objs.size f cd
  outer := outer
  stack := envOfC qual scope s.heap.objs.size f cd :: outer
  ex := []
  calm := true
  fn := fun _ => true
  pn := []
  xe := fun e s' => wpAny (model P w) (A.deeper (envOfC qual scope s.heap.objs.size f cd)) (leaving (envOfC qual scope s.heap.objs.size f cd) e) (fun _ s'' => CX outer H s E e s'') (fun e' s'' => CX outer H s E e' s'') s'

theorem cell_has {sc : Scope} {n : Nat} {x : Str} (h : sc.names.lookup x = some .cell) : ∃ c, (cellsFrom n sc.names []).lookup x = some c := by
  have q := PySem.W.cellsFrom_some sc.names n [] (.inl h)
  exact Option.isSome_iff_exists.mp q

theorem inv_start {CX : CXT} {P : Program} {w : World} {K : PySem.W.Frag} {mg : Str → Option Value} {base : Heap} {N ps : List Str} {qual : Str} {scope : Scope} {f : Addr} {cd : Value} {A : Around} {outer : List Env} {s s1 : Shared} {H : Hp} {E : XK} {us : List Value} {vs : List V}
    (S : FnScope N ps scope) (hd : A.handled = none) (e0 : Env0 P w K mg base A outer s H) (hl : vs.length = ps.length) (r : Vals vs us)
    (x : InCallC s s.heap.objs.size (bindL (envOfC qual scope s.heap.objs.size f cd).kindOf (ps.zip us) fun _ => none) (cellsFrom (s.heap.objs.size + 1) scope.names []) (bindC (envOfC qual scope s.heap.objs.size f cd).kindOf (ps.zip us) fun _ => none) s1) :
    Inv (cxOf CX P w K mg base N qual scope f cd A outer s H E) [] (start N vs) H s1 := by
  have hpl : ps.length ≤ N.length := by have := congrArg List.length S.pre; rw [List.length_take] at this; omega
  obtain ⟨h1, tk, rfl, hk⟩ := x.done
  have noA : ∀ b : Addr, b ∉ (cxOf CX P w K mg base N qual scope f cd A outer s H E).ex := fun b z => absurd (show b ∈ ([] : List Addr) from z) (by simp)
  refine ⟨⟨e0.mod, S.kind, rfl, rfl, Nat.le_refl _, fun y z c h1 h2 => ?_, fun y hy => ?_, fun y c _ h => ?_, fun _ => hd, Around.frames_deeper e0.frames, .inr ⟨rfl, rfl⟩, fun b z => absurd z (noA b), e0.bs, e0.bsz, fun b _ _ => noA b, fun b z => absurd z (noA b), e0.funs, e0.frf⟩,
    rfl, e0.bare, Un.kept hk, ⟨_, x.toInCall.ns, fun i y v h1 h2 h3 => ?_⟩, fun y c h => ⟨_, x.cell y c h⟩, e0.hok.fresh (Nat.le_refl _), fun y c h => ?_, fun p hp => absurd (show p ∈ ([] : List (Addr × Obj)) from hp) (by simp), e0.hok.kept hk, ?_⟩
  · exact name_of_addr x.apart (PySem.mem_of_lookup h1) (PySem.mem_of_lookup h2)
  · have hy : scope.names.lookup y = some .cell ∨ scope.names.lookup y = some .free := hy
    rcases hy with hy | hy
    · exact cell_has hy
    · exact absurd rfl (S.nofree _ (PySem.mem_of_lookup hy))
  · exact Nat.le_of_lt (x.above y c (PySem.mem_of_lookup h))
  · have hi : i < vs.length := by
      unfold start at h2
      by_cases hi : i < vs.length
      · exact hi
      · rw [List.getElem?_append_right (by simpa using hi)] at h2
        rw [List.getElem?_replicate] at h2
        split at h2 <;> cases h2
    have ha : vs[i]? = some v := by
      unfold start at h2
      rw [List.getElem?_append_left (by simpa using hi), List.getElem?_map] at h2
      cases e : vs[i]? with
      | none => rw [e] at h2; cases h2
      | some a => rw [e] at h2; cases h2; rfl
    obtain ⟨u, hu, rv⟩ := r.get ha
    have hp : ps[i]? = some y := by
      rw [← S.pre, List.getElem?_take_of_lt (by omega)]; exact h1
    have ndP : ps.Nodup := by rw [← S.pre]; exact S.nd.sublist (List.take_sublist _ _)
    refine ⟨u, rv, ?_⟩
    rcases S.par y (List.mem_of_getElem? hp) with k | k
    · exact .inl ⟨k, bindL_get ndP hp hu k⟩
    · obtain ⟨c, e⟩ := cell_has (n := s.heap.objs.size + 1) k
      refine .inr ⟨.inl k, c, e, ?_⟩
      have q := x.cell y c e
      rw [bindC_get ndP hp hu (by show scope.names.lookup y ≠ _; rw [k]; decide)] at q
      exact q
  · exact e0.hok.fresh (Nat.le_of_lt (x.above y c (PySem.mem_of_lookup h)))
  · unfold start
    show _ = N.length
    rw [List.length_append, List.length_map, List.length_replicate]
    omega

/-- THE RULE: a def (or a method) of the text, by its body. The body's reading t is chosen for each entry; it is run at the parameters' values -/
theorem fn_of {CX : CXT} {P : Program} {w : World} {K : PySem.W.Frag} {mg : Str → Option Value} {base : Heap} {k : Nat} {f : Addr} {name qual : Str} {params : Arguments} {body : List Stmt} {scope : Scope} {dV kV doc pm cdv ct oc : Value} {an od : Option Addr}
    {osl : Array (Option Value)} {N ps : List Str} {sp : Sp} (lk : K.lookup f = some ⟨oc, od, .func (PySem.W.fnOf name qual params body scope dV kV doc pm an cdv ct), osl⟩) (hcd : PySem.W.codeIn K cdv qual = true) (S : FnScope N ps scope)
    (len : ∀ vs H Q E, sp vs H Q E → vs.length = ps.length)
    (hbody : ∀ (A : Around) (outer : List Env) (s : Shared) (H : Hp) (vs : List V) (Q : VK) (E : XK), Room k (A.deeper (envOfC qual scope s.heap.objs.size f cdv)) → sp vs H Q E →
      ∃ t, PSs (cxOf CX P w K mg base N qual scope f cdv A outer s H E) body t ∧ t { nx := fun _ H' => Q .non H', rt := Q } (start N vs) H) :
    FnOk P w K mg base CX (k + 1) f (PySem.W.fnOf name qual params body scope dV kV doc pm an cdv ct) ps sp := by
  refine ⟨len, fun A outer s H args us vs Q E hr e0 hb r hsp => ?_⟩
  have hl := len _ _ _ _ hsp
  have KX : K.In s.heap := e0.mod.kin.keeps fun b o e => (e0.bs b o e).1
  have lim : s.heap.NoLimit := e0.mod.nolimit.keeps fun b o e => (e0.bs b o e).1
  have hkind : ∀ y ∈ ps.zip us, scope.names.lookup y.1 = some .local ∨ (scope.names.lookup y.1 = some .cell ∧ ((cellsFrom (s.heap.objs.size + 1) scope.names []).lookup y.1).isSome = true) := fun ⟨n, v⟩ hy => by
    rcases S.par n (List.of_mem_zip hy).1 with q | q
    · exact .inl q
    · exact .inr ⟨q, PySem.W.cellsFrom_some _ _ _ (.inl q)⟩
  refine codeAny_call_function hr.depth (KX _ _ lk) rfl S.co S.gen rfl (PySem.W.codeRec_of KX hcd) (hb _ _ _ _ ?_)
  refine wpAny_newFunctionEnv_cells S.kind hkind fun env he s1 x => ?_
  subst he
  refine ⟨lim.keeps x.toInCall.keep, codeAny_func ?_⟩
  obtain ⟨t, ht, hq⟩ := hbody A outer s H vs Q E (hr.deeper _) hsp
  have I : Inv (cxOf CX P w K mg base N qual scope f cdv A outer s H E) [] (start N vs) H s1 := inv_start S hr.hd e0 hl r x
  refine wpAny_mono (ht [] s1 (start N vs) H _ I hq) (fun fl s' hs => ?_) fun e s' hs => hs
  have fin : ∀ {σ' : St} {H' : Hp} {v : V} {u : Value}, Inv (cxOf CX P w K mg base N qual scope f cdv A outer s H E) [] σ' H' s' → RelV v u → Q v H' → CE outer P w H s Q u s' :=
    fun {σ' H' v u} J rv q => ⟨v, H', J.os, J.bare, J.base, J.hok, rv, q⟩
  cases fl with
  | ret u =>
    obtain ⟨v, σ', H', J, rv, q⟩ := hs
    exact fin J rv q
  | next =>
    obtain ⟨σ', H', J, q⟩ := hs
    exact fin (v := V.non) (u := Value.none) J rfl q
  | brk =>
    obtain ⟨_, _, _, q⟩ := hs
    exact False.elim q
  | cont =>
    obtain ⟨_, _, _, q⟩ := hs
    exact False.elim q
end L2

namespace L2
open PySem PySem.Spec PyProof.Rows
section
variable {X : Cx} {x : Str} {p pos : Pos} {e : Expr} {es : List Expr} {t : TA} {id T : String} {r : List V → Hp → VK → Prop}

def tCB (r : List V → Hp → VK → Prop) (t : TA) : TE := fun σ H Q => t σ H fun vs H1 => r vs H1 Q
/-- f(e, ..), f a built-in function -/
theorem pe_callB (hc : CallR X (.builtin id) r) (hg : Gl X x) (hm : X.mg x = none) (hv : bootBuiltins x = some (.builtin id)) (ha : PA X (e :: es) t) (hn : x ≠ "__name__" := by decide) (hdb : (x == ("__debug__" : Str)) = false := by decide)
    (he : starEach (e :: es) X.env = (false, eval e X.env) :: starEach es X.env := by rfl) (hpl : (backTo pos (starEach es X.env)).any (·.1) = false := by rfl) : PE X (.Call (.Name x p) (e :: es) [] pos) (tCB r t) := by
  intro pins s σ H Q I h
  refine wpAny_Call_Name_kw (ld_blt I hg hm hv ?_ hn hdb)
  exact PyProof.Rows.callWith_builtin1 (thn (ha pos pins s σ H _ I h) fun us s1 ⟨vs, H1, I1, r1, q1⟩ => hc pins s1 σ H1 vs us Q I1 r1 q1) he hpl
/-- T(e, ..), T a built-in type -/
theorem pe_callTy (hc : CallR X (.type T) r) (hg : Gl X x) (hm : X.mg x = none) (hv : bootBuiltins x = some (.type T)) (ha : PA X (e :: es) t) (hn : x ≠ "__name__" := by decide) (hdb : (x == ("__debug__" : Str)) = false := by decide)
    (he : starEach (e :: es) X.env = (false, eval e X.env) :: starEach es X.env := by rfl) (hpl : (backTo pos (starEach es X.env)).any (·.1) = false := by rfl) : PE X (.Call (.Name x p) (e :: es) [] pos) (tCB r t) := by
  intro pins s σ H Q I h
  refine wpAny_Call_Name_kw (ld_blt I hg hm hv ?_ hn hdb)
  exact PyProof.Rows.callWith_type1 (thn (ha pos pins s σ H _ I h) fun us s1 ⟨vs, H1, I1, r1, q1⟩ => hc pins s1 σ H1 vs us Q I1 r1 q1) he hpl
end
end L2

namespace HT
open PySem PyProof.Rows

/-- t < u of tuples of ints -/
def lexLt : List Int → List Int → Bool
  | [], [] => false
  | [], _ :: _ => true
  | _ :: _, [] => false
  | x :: xs, y :: ys => if x = y then lexLt xs ys else decide (x < y)
section
open PySem.SeqAt
open PySem.AutoSeq1 (wpAny_loadPart')
open PySem.MeetsSeq PySem.MeetsSeq2 PySem.MeetsSeq3

end

section
variable {prog : Program} {w : World} {A : Around} {E : Value → Shared → Prop} {s : Shared}

/-- t + u, t not empty -/
theorem cat_tup {t b : Addr} {vs ws : List Value} {Q : Value → Shared → Prop} (ht : IsTup s.heap t vs.toArray) (hb : IsTup s.heap b ws.toArray) (hv : vs ≠ [])
    (h1 : ws = [] → Q (.ref t) s) (h2 : ws ≠ [] → Q (.ref s.heap.objs.size) { s with heap := s.heap.push { cls := .type "tuple", data := .seq (vs ++ ws).toArray } })
    (hsz : vs.length + ws.length ≤ sizeLine) : wpAny (model prog w) A (binaryOp .Add (.ref t) (.ref b)) Q E s := by
  obtain ⟨⟨cls, dd, data, sl⟩, ho, hc, n, hd⟩ := id ht
  obtain ⟨⟨cls2, dd2, data2, sl2⟩, ho2, hc2, n2, hd2⟩ := id hb
  simp only at hc hd hc2 hd2
  subst hc hd hc2 hd2
  have e : vs.toArray ++ ws.toArray = (vs ++ ws).toArray := by simp
  by_cases hw : ws = []
  · exact concat_meets ⟨_, ho, rfl⟩ ⟨_, ho2, rfl⟩ noFill_tuple_add seq_tuple_add PySem.F.slot_tuple_add PySem.F.entry_tuple_add (PySem.F.args_tuple_add_2 _ _)
      (tuple_addW1 t b vs.toArray ws.toArray n n2 dd dd2 sl sl2 (by simpa using hv) (by simp [hw])) ⟨ho, ho2, h1 hw⟩
  · refine concat_meets ⟨_, ho, rfl⟩ ⟨_, ho2, rfl⟩ noFill_tuple_add seq_tuple_add PySem.F.slot_tuple_add PySem.F.entry_tuple_add (PySem.F.args_tuple_add_2 _ _)
      (tuple_addW2 t b vs.toArray ws.toArray n n2 dd dd2 sl sl2 (by simpa using hv) (by simpa using hw) (by rw [List.size_toArray, List.size_toArray]; exact hsz)) ⟨ho, ho2, ?_⟩
    rw [e]
    exact h2 hw

/-! ### t[a:b], not the whole -/
/-- a slice's bound as a place among n (d where it is left out) -/
def sIx (n d : Nat) : Option Int → Nat
  | none => d
  | some v => if v < 0 then (v + (n : Int)).toNat else min v.toNat n
theorem sIx_nat (n d k : Nat) : sIx n d (some (k : Int)) = min k n := by
  show (if (k : Int) < 0 then ((k : Int) + (n : Int)).toNat else min (k : Int).toNat n) = min k n
  rw [if_neg (by omega), Int.toNat_natCast]
theorem sIx_le (n d : Nat) (hd : d ≤ n) (o : Option Int) : sIx n d o ≤ n := by
  cases o with
  | none => exact hd
  | some v =>
    show (if v < 0 then (v + (n : Int)).toNat else min v.toNat n) ≤ n
    by_cases hv : v < 0
    · rw [if_pos hv]; omega
    · rw [if_neg hv]; exact Nat.min_le_right _ _
theorem clip_eq (v : Int) (n d : Nat) : (if v < 0 then max (v + (n : Int)) 0 else min v (n : Int)) = ((sIx n d (some v) : Nat) : Int) := by
  show (if v < 0 then max (v + (n : Int)) 0 else min v (n : Int)) = (((if v < 0 then (v + (n : Int)).toNat else min v.toNat n) : Nat) : Int)
  by_cases hv : v < 0
  · simp only [if_pos hv]; omega
  · simp only [if_neg hv]; omega
theorem adjust_gen (lo hi : Option Int) (n : Nat) : Builtin.Slice.sliceAdjust lo hi 1 (n : Int) = (((sIx n 0 lo : Nat) : Int), ((sIx n n hi : Nat) : Int)) := by
  have h1 : ¬ ((1 : Int) < 0) := by omega
  unfold Builtin.Slice.sliceAdjust
  simp only [h1, if_false]
  refine Prod.ext ?_ ?_
  · cases lo with
    | none => rfl
    | some v => exact clip_eq v n 0
  · cases hi with
    | none => rfl
    | some v => exact clip_eq v n n
theorem places_gen (i j : Nat) : Builtin.Slice.slicePlaces (i : Int) (j : Int) 1 = j - i := by
  unfold Builtin.Slice.slicePlaces
  have h1 : (1 : Int) > 0 := by omega
  simp only [h1, if_true, Int.ediv_one]
  split <;> omega
theorem slicePart_ {v : Value} {o : Option Int} {Q : Option Int → Shared → Prop} (p : IsPart v o) (h : Q o s) : wpAny (model prog w) A (Builtin.Slice.slicePartIndex v) Q E s := by
  cases p with
  | none => exact slicePart_none h
  | int i t => exact slicePart_int h
theorem sliceApplied_gen {sl : Addr} {vl vu : Value} {lo hi : Option Int} {n : Nat} {Q : Int × Int × Nat → Shared → Prop} (hs : s.heap.IsSliceOf sl vl vu .none) (pl : IsPart vl lo) (pu : IsPart vu hi)
    (h : Q (((sIx n 0 lo : Nat) : Int), 1, sIx n n hi - sIx n 0 lo) s) : wpAny (model prog w) A (Builtin.Slice.sliceApplied (.ref sl) (pure (n : Int))) Q E s := by
  obtain ⟨os, hos, hcs, hds⟩ := id hs
  unfold Builtin.Slice.sliceApplied Builtin.Slice.sliceFields
  refine wpAny_bind (wpAny_bind (wpAny_field hos hds (x := vl) rfl (wpAny_bind (wpAny_field hos hds (x := vu) rfl (wpAny_bind (wpAny_field hos hds (x := .none) rfl (wpAny_pure ?_)))))))
  refine wpAny_bind (slicePart_none ?_)
  show wpAny _ _ (if ((1 : Int) == 0) = true then _ else _) _ _ s
  rw [if_neg (by decide)]
  refine wpAny_bind (slicePart_ pl (wpAny_bind (slicePart_ pu (wpAny_bind (wpAny_pure ?_)))))
  show wpAny _ _ (match Builtin.Slice.sliceAdjust lo hi 1 (n : Int) with | (lo, hi) => pure (lo, (1 : Int), Builtin.Slice.slicePlaces lo hi 1)) _ _ s
  rw [adjust_gen lo hi n]
  show wpAny _ _ (pure (((sIx n 0 lo : Nat) : Int), (1 : Int), Builtin.Slice.slicePlaces ((sIx n 0 lo : Nat) : Int) ((sIx n n hi : Nat) : Int) 1)) _ _ s
  rw [places_gen]
  exact wpAny_pure h
theorem pick_gen (xs : Array Value) (i k : Nat) : ((List.range k).filterMap fun (m : Nat) => xs[((i : Int) + (m : Int) * 1).toNat]?).toArray = ((xs.toList.drop i).take k).toArray := by
  have e : (fun (m : Nat) => xs[((i : Int) + (m : Int) * 1).toNat]?) = fun m => xs[i + m]? := by
    funext m
    have : ((i : Int) + (m : Int) * 1).toNat = i + m := by omega
    rw [this]
  rw [e]
  have := pick_run xs i k
  rw [List.filterMap_map] at this
  have e2 : ((fun x => xs[x]?) ∘ fun x => i + x) = fun m => xs[i + m]? := rfl
  rw [e2] at this
  rw [this]

theorem getItem_tuple_cut {t sl : Addr} {items : Array Value} {vl vu : Value} {lo hi : Option Int} {Q : Value → Shared → Prop} (ht : IsTup s.heap t items) (hs : s.heap.IsSliceOf sl vl vu .none) (pl : IsPart vl lo) (pu : IsPart vu hi)
    (hw : ¬ (sIx items.size 0 lo = 0 ∧ sIx items.size items.size hi = items.size))
    (h : Q (.ref s.heap.objs.size) { s with heap := s.heap.push { cls := .type "tuple", data := .seq ((items.toList.drop (sIx items.size 0 lo)).take (sIx items.size items.size hi - sIx items.size 0 lo)).toArray } })
    (hsz : items.size ≤ sizeLine) : wpAny (model prog w) A (getItem (.ref t) (.ref sl)) Q E s := by
  have htake : sizeOk (.seq ((items.toList.drop (sIx items.size 0 lo)).take (sIx items.size items.size hi - sIx items.size 0 lo)).toArray) := by
    show ((items.toList.drop (sIx items.size 0 lo)).take (sIx items.size items.size hi - sIx items.size 0 lo)).toArray.size ≤ sizeLine
    rw [List.size_toArray, List.length_take, List.length_drop, Array.length_toList]
    omega
  have hj : sIx items.size items.size hi ≤ items.size := sIx_le _ _ (Nat.le_refl _) hi
  obtain ⟨os, hos, hcs, hds⟩ := id hs
  have hTs : s.TypeIs (.ref sl) "slice" := ⟨os, hos, hcs⟩
  unfold getItem
  try with_reducible refine wpAny_holding ?_
  first | refine wpAny_bind (wpAny_pure ?_) | skip
  refine wpAny_bind (wpAny_sequenceKey ht.typeIs (by decide) ?_)
  refine wpAny_bind (wpAny_callSpecial?_slot (name := Str.ofString "__getitem__") ht.typeIs PyProof.Rows.slot_tuple_getitem
    (wpAny_call_entry PyProof.Rows.slot_tuple_getitem ht.typeIs entry_tuple_getitem ?_ (args_tuple_getitem _ _)))
  show wpAny _ _ (Builtin.Tuple.tupleItemsOf (.ref t) >>= _) _ _ s
  refine wpAny_bind (tupleItemsOf_ ht ?_)
  refine wpAny_bind (wpAny_typeOf hTs ?_)
  rw [if_pos (by decide)]
  refine wpAny_bind (sliceApplied_gen hs pl pu ?_)
  have hno : ¬ ((((sIx items.size 0 lo : Nat) : Int) == 0 && (1 : Int) == 1 && (sIx items.size items.size hi - sIx items.size 0 lo) == items.size) = true) := by
    intro q
    rw [Bool.and_eq_true, Bool.and_eq_true] at q
    have q1 : ((sIx items.size 0 lo : Nat) : Int) = 0 := eq_of_beq q.1.1
    have q2 : sIx items.size items.size hi - sIx items.size 0 lo = items.size := eq_of_beq q.2
    exact hw ⟨by omega, by omega⟩
  show wpAny _ _ (if (((sIx items.size 0 lo : Nat) : Int) == 0 && (1 : Int) == 1 && (sIx items.size items.size hi - sIx items.size 0 lo) == items.size) = true then _ else _) _ _ s
  rw [if_neg hno, pick_gen]
  first
    | exact wpAny_bind (m := Builtin.Tuple.tupleExact _) (wpAny_newObj_type (wpAny_pure ⟨_, rfl, wpAny_pure h⟩) htake)
    | exact wpAny_bind (m := Builtin.Tuple.tupleExact _) (wpAny_newObj_type (wpAny_bind (wpAny_pure (wpAny_pure ⟨_, rfl, wpAny_pure h⟩))) htake)
    | exact wpAny_bind (wpAny_bind (m := Builtin.Tuple.tupleExact _) (wpAny_newObj_type (wpAny_pure (wpAny_pure ⟨_, rfl, wpAny_pure h⟩)) htake))
    | exact wpAny_bind (wpAny_bind (m := Builtin.Tuple.tupleExact _) (wpAny_newObj_type (wpAny_pure ⟨_, rfl, wpAny_pure h⟩) htake))
end
end HT

namespace L2
open PySem PySem.Spec PyProof.Rows

/-! ### the parts of a slice -/
abbrev TO := St → Hp → (Option Int → Hp → Prop) → Prop
/-- a slice's part (left out, or an int) -/
def PO (X : Cx) (e : Option Expr) (t : TO) : Prop :=
  ∀ (pins : List (Addr × Obj)) (s : Shared) (σ : St) (H : Hp) (Q : Option Int → Hp → Prop), Inv X pins σ H s → t σ H Q →
    wpAny (model X.prog X.w) X.A (evalPart e X.env) (fun u s' => ∃ o H', Inv X pins σ H' s' ∧ IsPart u o ∧ Q o H') X.xe s
def tNoPart : TO := fun _ H Q => Q none H
def tPart (t : TE) : TO := fun σ H Q => t σ H fun x H1 => ∃ i, x = .int i ∧ Q (some i) H1

section
variable {X : Cx} {e : Expr} {te : TE} {lo hi : Option Expr} {tl th : TO} {pos p2 : Pos}

theorem po_none : PO X none tNoPart := by
  intro pins s σ H Q I h
  rw [evalPart_none]
  exact wpAny_pure ⟨none, H, I, .none, h⟩
theorem po_some (h : PE X e te) : PO X (some e) (tPart te) := by
  intro pins s σ H Q I hw
  rw [evalPart_some]
  refine thn (h pins s σ H _ I hw) fun u s1 ⟨x, H1, I1, r1, q1⟩ => ?_
  obtain ⟨i, rfl, q⟩ := q1
  obtain ⟨t, rfl⟩ := r1
  exact ⟨some i, H1, I1, .int i t, q⟩

/-- what a slice of a value is, by values: the slice object stands at sl -/
def SlR (X : Cx) (r : V → Option Int → Option Int → Hp → VK → Prop) : Prop :=
  ∀ (pins : List (Addr × Obj)) (s : Shared) (σ : St) (H : Hp) (x : V) (v vl vu : Value) (lo hi : Option Int) (sl : Addr) (Q : VK), Inv X pins σ H s → RelV x v → s.heap.IsSliceOf sl vl vu .none → IsPart vl lo → IsPart vu hi → r x lo hi H Q →
    ∃ T id, typeLookup (.type T) "__getitem__" = pure (some (.builtin id)) ∧ s.TypeIs v T ∧ wpAny (model X.prog X.w) X.A (getItem v (.ref sl)) (EP X pins σ Q) X.xe s
def tSl (r : V → Option Int → Option Int → Hp → VK → Prop) (te : TE) (tl th : TO) : TE := fun σ H Q => te σ H fun x H1 => tl σ H1 fun l H2 => th σ H2 fun u H3 => r x l u H3 Q
/-- a[lo:hi], any a -/
theorem pe_slice {r : V → Option Int → Option Int → Hp → VK → Prop} (hr : SlR X r) (he : PE X e te) (hl : PO X lo tl) (hu : PO X hi th) : PE X (.Subscript e (.Slice lo hi none p2) pos) (tSl r te tl th) := by
  intro pins s σ H Q I h
  refine Subscript_ (thn (he pins s σ H _ I h) fun v s1 ⟨x, H1, I1, r1, q1⟩ => ?_)
  refine wpAny_Slice (thn (hl pins s1 σ H1 _ I1 q1) fun vl s2 ⟨l, H2, I2, pl, q2⟩ => thn (hu pins s2 σ H2 _ I2 q2) fun vu s3 ⟨u, H3, I3, pu, q3⟩ => ?_)
  rw [evalPart_none]
  refine wpAny_pure ?_
  have I4 : Inv X pins σ H3 { s3 with heap := s3.heap.push { cls := .type "slice", data := .fields #[vl, vu, .none] } } := I3.kept (t' := s3.toks) fun b ob q => Heap.get?_push_of_some _ q
  obtain ⟨T, id, hT, ht, hg⟩ := hr pins { s3 with heap := s3.heap.push { cls := .type "slice", data := .fields #[vl, vu, .none] } } σ H3 x v vl vu l u s3.heap.objs.size Q I4 r1 (Heap.IsSliceOf.new ..) pl pu q3
  show wpAny (model X.prog X.w) X.A (subscriptTail e (.Slice lo hi none p2) v (.ref s3.heap.objs.size)) (EP X pins σ Q) X.xe { s3 with heap := s3.heap.push { cls := .type "slice", data := .fields #[vl, vu, .none] } }
  exact tail_any (ops := [.ref s3.heap.objs.size, v]) ht hT hg (by with_unfolding_all rfl)

/-- the items of xs[lo:hi] -/
def cutV (xs : List V) (lo hi : Option Int) : List V := (xs.drop (HT.sIx xs.length 0 lo)).take (HT.sIx xs.length xs.length hi - HT.sIx xs.length 0 lo)
theorem cutV_length (xs : List V) (lo hi : Option Int) : (cutV xs lo hi).length ≤ xs.length := by
  unfold cutV
  rw [List.length_take, List.length_drop]
  omega
/-- t[lo:hi], not the whole of it (the whole would be t itself) -/
def rSlT (K : PySem.W.Frag) : V → Option Int → Option Int → Hp → VK → Prop := fun x lo hi H Q => ∃ a xs, x = .ref a ∧ SqT K H a xs ∧
  ¬ (HT.sIx xs.length 0 lo = 0 ∧ HT.sIx xs.length xs.length hi = xs.length) ∧ ∀ p, H p = none → Q (.ref p) (upd H p (.tup (cutV xs lo hi)))
theorem sl_tup : SlR X (rSlT X.K) := by
  intro pins s σ H x v vl vu lo hi sl Q I rx hs pl pu h
  obtain ⟨a, xs, rfl, hx, hw, q⟩ := h
  cases rx
  obtain ⟨its, r, ht, hz⟩ := I.tuple hx
  have hlen : its.toArray.size = xs.length := by rw [List.size_toArray]; exact r.length.symm
  refine ⟨"tuple", _, PyProof.Rows.slot_tuple_getitem.lookup, ht.typeIs, ?_⟩
  refine HT.getItem_tuple_cut ht hs pl pu (by rw [hlen]; exact hw) ?_ (by rw [hlen]; exact hz)
  rw [hlen]
  refine ⟨.ref s.heap.objs.size, _, I.laid (t' := s.toks) (o := .tup (cutV xs lo hi)) (fun b ob q => Heap.get?_push_of_some _ q) (Nat.le_refl _) ?_, rfl, q _ (I.hok.fresh (Nat.le_refl _))⟩
  exact ⟨Nat.le_trans (cutV_length xs lo hi) hz, _, (r.drop (HT.sIx xs.length 0 lo)).take (HT.sIx xs.length xs.length hi - HT.sIx xs.length 0 lo), IsTup.new _ _⟩

/-! ### t < u, t + u -/
def rLtT (K : PySem.W.Frag) : R2 := fun x y H Q => ∃ a b ns ms, x = .ref a ∧ y = .ref b ∧ SqT K H a (ns.map V.int) ∧ SqT K H b (ms.map V.int) ∧ Q (.bl (HT.lexLt ns ms)) H
/-- t + u, t not empty: u empty gives t itself -/
def rCatT (K : PySem.W.Frag) : R2 := fun x y H Q => ∃ a b xs ys, x = .ref a ∧ y = .ref b ∧ SqT K H a xs ∧ SqT K H b ys ∧ xs ≠ [] ∧ xs.length + ys.length ≤ sizeLine ∧
  (ys = [] → Q (.ref a) H) ∧ (ys ≠ [] → ∀ p, H p = none → Q (.ref p) (upd H p (.tup (xs ++ ys))))
theorem Vals.nil_iff {xs : List V} {us : List Value} (r : Vals xs us) : us = [] ↔ xs = [] := by
  cases r with
  | nil => simp
  | cons _ _ => simp
theorem op_catT : OpR X (binaryOp .Add) (rCatT X.K) := by
  intro pins s σ H x y v u Q I rx ry h
  obtain ⟨a, b, xs, ys, rfl, rfl, ha, hb, hx, hz, q1, q2⟩ := h
  cases rx
  cases ry
  obtain ⟨its, r1, p1, _⟩ := I.tuple ha
  obtain ⟨its2, r2, p2, _⟩ := I.tuple hb
  refine HT.cat_tup p1 p2 (fun z => hx (r1.nil_iff.mp z)) (fun z => ⟨.ref a, H, I, rfl, q1 (r2.nil_iff.mp z)⟩) (fun z => ?_) (by rw [← r1.length, ← r2.length]; exact hz)
  refine ⟨.ref s.heap.objs.size, _, I.laid (t' := s.toks) (o := .tup (xs ++ ys)) (fun b ob q => Heap.get?_push_of_some _ q) (Nat.le_refl _) ?_, rfl, q2 (fun w => z (r2.nil_iff.mpr w)) _ (I.hok.fresh (Nat.le_refl _))⟩
  exact ⟨by rw [List.length_append]; exact hz, _, r1.append r2, IsTup.new _ _⟩
end
end L2

namespace L2
open PySem PySem.Spec PyProof.Rows

/-! ### places -/
/-- the place that an index of any sign means -/
def ixN (n : Nat) (i : Int) : Option Nat := if 0 ≤ i then (if i < n then some i.toNat else none) else if -(n : Int) ≤ i then some (i + n).toNat else none
def atI {α : Type} (xs : List α) (i : Int) : Option α := (ixN xs.length i).bind fun j => xs[j]?
theorem ixN_seq {n : Nat} {i : Int} {j : Nat} (h : ixN n i = some j) : seqIndex? i n = some j ∧ j < n ∧ -(n : Int) ≤ i ∧ i < n := by
  unfold ixN at h
  by_cases h0 : 0 ≤ i
  · rw [if_pos h0] at h
    by_cases h1 : i < n
    · rw [if_pos h1] at h
      have e : i.toNat = j := Option.some.inj h
      exact ⟨by rw [seqIndex_of h0 h1, e], by omega, by omega, h1⟩
    · rw [if_neg h1] at h; cases h
  · rw [if_neg h0] at h
    by_cases h1 : -(n : Int) ≤ i
    · rw [if_pos h1] at h
      have e : (i + n).toNat = j := Option.some.inj h
      exact ⟨by rw [seqIndex_neg (by omega) h1, e], by omega, h1, by omega⟩
    · rw [if_neg h1] at h; cases h
theorem atI_get {α : Type} {xs : List α} {i : Int} {v : α} (h : atI xs i = some v) : ∃ j, seqIndex? i xs.length = some j ∧ xs[j]? = some v ∧ j < xs.length ∧ -(xs.length : Int) ≤ i ∧ i < xs.length := by
  unfold atI at h
  cases e : ixN xs.length i with
  | none => rw [e] at h; cases h
  | some j =>
    rw [e] at h
    obtain ⟨h1, h2, h3, h4⟩ := ixN_seq e
    exact ⟨j, h1, h, h2, h3, h4⟩
theorem atI_nat {α : Type} {xs : List α} {j : Nat} {v : α} (h : xs[j]? = some v) : atI xs (j : Int) = some v := by
  have hj : j < xs.length := (List.getElem?_eq_some_iff.mp h).1
  have e : ixN xs.length (j : Int) = some j := by
    unfold ixN
    rw [if_pos (by omega), if_pos (by omega)]; simp
  unfold atI; rw [e]; exact h
/-! ### what may be subscripted -/
/-- what stands as an index of a plain subscript -/
def PlainIx (b : Expr) : Prop := ∀ o i, subscripted b false o i = operate [o, i] (getItem o i)
/-- a subscript by values -/
def IxR (X : Cx) (r : R2) : Prop :=
  ∀ (value slice : Expr) (pins : List (Addr × Obj)) (s : Shared) (σ : St) (H : Hp) (x y : V) (v u : Value) (Q : VK), Inv X pins σ H s → RelV x v → RelV y u → r x y H Q →
    subscripted slice false v u = operate [v, u] (getItem v u) → wpAny (model X.prog X.w) X.A (subscriptTail value slice v u) (EP X pins σ Q) X.xe s
/-- a call of a builtin's method by values: the receiver, the arguments -/
def MtR (X : Cx) (id : String) (r : V → List V → Hp → VK → Prop) : Prop :=
  ∀ (pins : List (Addr × Obj)) (s : Shared) (σ : St) (H : Hp) (x : V) (xs : List V) (v : Value) (us : List Value) (Q : VK), Inv X pins σ H s → RelV x v → Vals xs us → r x xs H Q →
    wpAny (model X.prog X.w) X.A (call (.builtin id) (v :: us)) (EP X pins σ Q) X.xe s
section
variable {X : Cx} {a b : Expr} {ta tb : TE} {pos : Pos}
/-- a[b] -/
theorem pe_ix {r : R2} (hr : IxR X r) (ha : PE X a ta) (hb : PE X b tb) (hs : PlainIx b) : PE X (.Subscript a b pos) (tOp r ta tb) := by
  intro pins s σ H Q I h
  exact Subscript_ (binT ha hb I h fun v u s2 x y H2 I2 rx ry q => hr a b pins s2 σ H2 x y v u Q I2 rx ry q (hs _ _))

def rIxL (K : PySem.W.Frag) : R2 := fun x y H Q => ∃ p xs i v, x = .ref p ∧ y = .int i ∧ SqL K H p xs ∧ atI xs i = some v ∧ Q v H
def rIxT (K : PySem.W.Frag) : R2 := fun x y H Q => ∃ p xs i v, x = .ref p ∧ y = .int i ∧ SqT K H p xs ∧ atI xs i = some v ∧ Q v H
def rIxS : R2 := fun x y H Q => ∃ z i c, x = .str z ∧ y = .int i ∧ z.length ≤ sizeLine ∧ atI z.cps.toList i = some c ∧ Q (.str ⟨#[c]⟩) H
theorem ix_list : IxR X (rIxL X.K) := by
  intro value slice pins s σ H x y v u Q I rx ry h hs
  obtain ⟨p, xs, i, z, rfl, rfl, hq, he, q⟩ := h
  cases rx
  obtain ⟨t, rfl⟩ := ry
  obtain ⟨its, r, pl, hz⟩ := I.list hq
  obtain ⟨j, h1, h2, h3, h4, h5⟩ := atI_get he
  obtain ⟨w, ew, rw'⟩ := r.get h2
  have hl := r.length
  have hn := line63
  have fin : EP X pins σ Q w s := ⟨z, H, I, rw', q⟩
  by_cases h0 : 0 ≤ i
  · have hj : i.toNat = j := by
      rw [seqIndex_of h0 h5] at h1
      exact Option.some.inj h1
    exact item_listR pl.isList h0 (by omega) (by rw [hj]; simpa using ew) fin hs
  · have hj : (i + (its.toArray.size : Int)).toNat = j := by
      rw [seqIndex_neg (by omega) h4] at h1
      rw [List.size_toArray, ← hl]
      exact Option.some.inj h1
    exact subscriptTail_builtinR (x := w) pl.isList.typeIs slot_list_getitem.lookup
      (wpAny_getItem_list_neg (Q := fun r s' => r = w ∧ EP X pins σ Q r s') pl.isList (by omega) (by rw [List.size_toArray] <;> omega) (by omega) (by rw [hj]; simpa using ew) ⟨rfl, fin⟩) hs
theorem ix_tup : IxR X (rIxT X.K) := by
  intro value slice pins s σ H x y v u Q I rx ry h hs
  obtain ⟨p, xs, i, z, rfl, rfl, hq, he, q⟩ := h
  cases rx
  obtain ⟨t, rfl⟩ := ry
  obtain ⟨its, r, pl, hz⟩ := I.tuple hq
  obtain ⟨j, h1, h2, h3, h4, h5⟩ := atI_get he
  obtain ⟨w, ew, rw'⟩ := r.get h2
  have hl := r.length
  have hn := line63
  have fin : EP X pins σ Q w s := ⟨z, H, I, rw', q⟩
  exact subscriptTail_builtinR (x := w) pl.typeIs slot_tuple_getitem.lookup
    (getItem_tuple (j := j) (Q := fun r s' => r = w ∧ EP X pins σ Q r s') pl (by omega) (by omega) (by rw [List.size_toArray, ← hl]; exact h1) (by simpa using ew) ⟨rfl, fin⟩) hs
/-- list, tuple or str -/
def rIx (K : PySem.W.Frag) : R2 := fun x y H Q => rIxL K x y H Q ∨ rIxT K x y H Q ∨ rIxS x y H Q
/-! ### xs[i] = v, any sign -/
/-- the list's object behind a store -/
theorem mapSeq_set (its : List Value) (n j : Nat) (u : Value) : Obj.mapSeq (·.setIfInBounds j u) { cls := .type "list", data := .seq its.toArray n } = { cls := .type "list", data := .seq (its.set j u).toArray n } := by
  simp [Obj.mapSeq]
theorem Inv.lst {pins : List (Addr × Obj)} {σ : St} {H : Hp} {s : Shared} {p : Addr} {xs : List V} (I : Inv X pins σ H s) (h : H p = some (.lst xs)) :
    ∃ (its : List Value) (n : Nat), Vals xs its ∧ s.heap.get? p = some { cls := .type "list", data := .seq its.toArray n } ∧ xs.length ≤ sizeLine := by
  obtain ⟨z, its, n, r, e⟩ := I.hok p _ h
  exact ⟨its, n, r, e, z⟩
/-- the list at p is written by an update of its object -/
theorem Inv.lstUpd {pins : List (Addr × Obj)} {σ : St} {H : Hp} {s : Shared} {p : Addr} {xs ys : List V} {its its' : List Value} {n n' : Nat} {f : Obj → Obj} (I : Inv X pins σ H s) (h : H p = some (.lst xs))
    (ho : s.heap.get? p = some { cls := .type "list", data := .seq its.toArray n }) (hf : f { cls := .type "list", data := .seq its.toArray n } = { cls := .type "list", data := .seq its'.toArray n' }) (r : Vals ys its') (hz : ys.length ≤ sizeLine) (t : Nat) :
    Inv X pins σ (upd H p (.lst ys)) { s with heap := s.heap.update p f, toks := t } := by
  have e : (s.heap.update p f).get? p = some { cls := .type "list", data := .seq its'.toArray n' } := by
    rw [Heap.get?_update_self f ho (by rw [hf] <;> rfl), hf]
  refine I.write (x := p) (e := p) (by rw [h]; trivial) (.inl rfl) (fun b u hb q => (Heap.get?_update_other _ _ (Ne.symm hb)).trans q) ⟨_, e⟩ ?_
  exact ⟨hz, its', n', r, e⟩
def rSetL : V → V → V → Hp → (Hp → Prop) → Prop := fun o i v H Q => ∃ p xs k j, o = .ref p ∧ i = .int k ∧ H p = some (.lst xs) ∧ ixN xs.length k = some j ∧ Q (upd H p (.lst (xs.set j v)))
theorem set_list : PSet X rSetL := by
  intro pins s σ H o i v ov iv u Q I ro ri rv h
  obtain ⟨p, xs, k, j, rfl, rfl, hp, hj, q⟩ := h
  cases ro
  obtain ⟨t, rfl⟩ := ri
  obtain ⟨its, n, r, ho, hz⟩ := I.lst hp
  obtain ⟨h1, h2, h3, h4⟩ := ixN_seq hj
  have hl := r.length
  have hn := line63
  have I' : Inv X pins σ (upd H p (.lst (xs.set j v))) { s with heap := s.heap.update p (Obj.mapSeq (·.setIfInBounds j u)) } :=
    I.lstUpd hp ho (mapSeq_set its n j u) (r.set rv j) (by rw [List.length_set]; exact hz) s.toks
  by_cases h0 : 0 ≤ k
  · have hk : k.toNat = j := by
      rw [seqIndex_of h0 h4] at h1
      exact Option.some.inj h1
    exact PySem.W.ki_setAt ho h0 (by omega) (by rw [List.size_toArray, ← hl]; exact h4) (by rw [hk]; exact ⟨_, I', q⟩)
  · have hk : (k + (its.toArray.size : Int)).toNat = j := by
      rw [seqIndex_neg (by omega) h3] at h1
      rw [List.size_toArray, ← hl]
      exact Option.some.inj h1
    exact PySem.W.ki_setBack ho (by omega) (by rw [List.size_toArray, ← hl]; exact h3) (by omega) (by rw [hk]; exact ⟨_, I', q⟩)

/-! ### slices -/
theorem slice_bounds (lo hi : Option Int) (n : Nat) : (sliceBounds lo hi none n).1 = ((HT.sIx n 0 lo : Nat) : Int) ∧ (sliceBounds lo hi none n).2.1 = ((HT.sIx n n hi : Nat) : Int) ∧ (sliceBounds lo hi none n).2.2 = 1 := by
  refine ⟨?_, ?_, rfl⟩
  · cases lo with
    | none => simp [sliceBounds, HT.sIx]
    | some i =>
      simp only [sliceBounds, HT.sIx, Option.getD_none, show (1 : Int) > 0 by decide, if_true]
      by_cases h : i < 0
      · simp only [h, if_true] <;> omega
      · simp only [h, if_false] <;> omega
  · cases hi with
    | none => simp [sliceBounds, HT.sIx]
    | some i =>
      simp only [sliceBounds, HT.sIx, Option.getD_none, show (1 : Int) > 0 by decide, if_true]
      by_cases h : i < 0
      · simp only [h, if_true] <;> omega
      · simp only [h, if_false] <;> omega
theorem slicePick_cut (its : List Value) (lo hi : Option Int) : slicePick its.toArray lo hi none = ((its.drop (HT.sIx its.length 0 lo)).take (HT.sIx its.length its.length hi - HT.sIx its.length 0 lo)).toArray := by
  obtain ⟨h1, h2, h3⟩ := slice_bounds lo hi its.toArray.size
  unfold slicePick
  rw [h1, h2, h3]
  simp only [sliceRange_one, pick_run, List.size_toArray] <;> rfl
/-- xs[lo:hi] of a list: a new list -/
def rSlL (K : PySem.W.Frag) : V → Option Int → Option Int → Hp → VK → Prop := fun x lo hi H Q => ∃ a xs, x = .ref a ∧ SqL K H a xs ∧ ∀ p, H p = none → Q (.ref p) (upd H p (.lst (cutV xs lo hi)))
theorem sl_list : SlR X (rSlL X.K) := by
  intro pins s σ H x v vl vu lo hi sl Q I rx hs pl pu h
  obtain ⟨a, xs, rfl, hx, q⟩ := h
  cases rx
  obtain ⟨its, r, ht, hz⟩ := I.list hx
  have hlen := r.length
  refine ⟨"list", _, slot_list_getitem.lookup, ht.isList.typeIs, ?_⟩
  refine wpAny_getItem_list_slice ht.isList hs pl pu .none (by simp) ?_ (by rw [List.size_toArray] <;> omega)
  rw [slicePick_cut, ← hlen]
  refine ⟨.ref s.heap.objs.size, _, I.laid (t' := s.toks) (o := .lst (cutV xs lo hi)) (fun b ob q => Heap.get?_push_of_some _ q) (Nat.le_refl _) ?_, rfl, q _ (I.hok.fresh (Nat.le_refl _))⟩
  exact ⟨Nat.le_trans (cutV_length xs lo hi) hz, _, 0, (r.drop (HT.sIx xs.length 0 lo)).take (HT.sIx xs.length xs.length hi - HT.sIx xs.length 0 lo), Heap.get?_push_size _ rfl⟩

/-! ### in, not in: flat items -/
def flatV : V → Bool
  | .non => true
  | .bl _ => true
  | .int _ => true
  | .str _ => true
  | _ => false
/-- == of flat values -/
def eqV : V → V → Bool
  | .non, .non => true
  | .bl a, .bl b => a == b
  | .bl a, .int b => (if a then 1 else 0) == b
  | .int a, .bl b => a == (if b then 1 else 0)
  | .int a, .int b => a == b
  | .str a, .str b => a == b
  | _, _ => false
/-- the items' answers, read off the values (a value's own answer does not lean on its token) -/
def eqU (x : V) (u : Value) : Bool := match u with
  | .none => eqV .non x
  | .bool b => eqV (.bl b) x
  | .int i _ => eqV (.int i) x
  | .str z _ => eqV (.str z) x
  | _ => false
def inV (x : V) (xs : List V) : Bool := xs.any fun y => eqV y x
/-- x in a list or tuple of flat items -/
def rIn (K : PySem.W.Frag) (neg : Bool) : R2 := fun x y H Q => ∃ p xs, y = .ref p ∧ (SqL K H p xs ∨ SqT K H p xs) ∧ flatV x = true ∧ xs.all flatV = true ∧ Q (.bl (if neg then !inV x xs else inV x xs)) H
/-! ### len, list(x), tuple(x) of any list or tuple that is read -/
theorem call_len_seq : CallR X (.builtin "len") (fun xs H Q => ∃ p ys, xs = [.ref p] ∧ (SqL X.K H p ys ∨ SqT X.K H p ys) ∧ Q (.int ys.length) H) := by
  intro pins s σ H xs us Q I r h
  obtain ⟨p, ys, rfl, hq, q⟩ := h
  obtain ⟨u, rfl, rx⟩ := vals1 r
  cases rx
  have hn := line63
  rcases hq with hq | hq
  · obtain ⟨its, r', pl, hz⟩ := I.list hq
    have hlen := r'.length
    exact Calls.call_len_list pl.isList (by simp only [List.size_toArray] <;> omega) ⟨.int ys.length, H, I.tok _, ⟨s.toks + 1, by rw [List.size_toArray, hlen]⟩, q⟩
  · obtain ⟨its, r', pl, hz⟩ := I.tuple hq
    have hlen := r'.length
    exact len_tuple pl (by simp only [List.size_toArray] <;> omega) ⟨.int ys.length, H, I.tok _, ⟨s.toks + 1, by rw [List.size_toArray, hlen]⟩, q⟩
theorem call_list_of : CallR X (.type "list") (fun xs H Q => ∃ p ys, xs = [.ref p] ∧ (SqL X.K H p ys ∨ SqT X.K H p ys) ∧ ∀ l, H l = none → Q (.ref l) (upd H l (.lst ys))) := by
  intro pins s σ H xs us Q I r h
  obtain ⟨p, ys, rfl, hq, q⟩ := h
  obtain ⟨u, rfl, rx⟩ := vals1 r
  cases rx
  have fin : ∀ (its : List Value), Vals ys its → ys.length ≤ sizeLine → ∀ (h' : Heap) (c' : Nat), (∀ b o', s.heap.get? b = some o' → h'.get? b = some o') →
      h'.get? s.heap.objs.size = some { cls := .type "list", dict := none, data := .seq its.toArray c', slots := #[] } → EP X pins σ Q (.ref s.heap.objs.size) { s with heap := h' } := fun its r' hz h' c' kp e =>
    ⟨.ref s.heap.objs.size, _, I.laid (t' := s.toks) kp (Nat.le_refl _) (show ObjOk X.prog X.w _ h' _ (.lst ys) from ⟨hz, its, c', r', e⟩), rfl, q _ (I.hok.fresh (Nat.le_refl _))⟩
  rcases hq with hq | hq
  · obtain ⟨its, r', pl, hz⟩ := I.list hq
    have hlen := r'.length
    obtain ⟨o, ho, hc, n, hd⟩ := pl.isList
    exact call_list_seq p (.inl rfl) ho hc hd (fun h' c' kp e => fin its r' hz h' c' kp e) (by simp only [List.size_toArray] <;> omega)
  · obtain ⟨its, r', pl, hz⟩ := I.tuple hq
    have hlen := r'.length
    obtain ⟨o, ho, hc, n, hd⟩ := pl
    exact call_list_seq p (.inr rfl) ho hc hd (fun h' c' kp e => fin its r' hz h' c' kp e) (by simp only [List.size_toArray] <;> omega)
theorem call_tuple_of : CallR X (.type "tuple") (fun xs H Q => ∃ p ys, xs = [.ref p] ∧ ((SqL X.K H p ys ∧ ∀ l, H l = none → Q (.ref l) (upd H l (.tup ys))) ∨ (SqT X.K H p ys ∧ Q (.ref p) H))) := by
  intro pins s σ H xs us Q I r h
  obtain ⟨p, ys, rfl, h⟩ := h
  obtain ⟨u, rfl, rx⟩ := vals1 r
  cases rx
  rcases h with ⟨hq, q⟩ | ⟨hq, q⟩
  · obtain ⟨its, r', pl, hz⟩ := I.list hq
    have hlen := r'.length
    refine call_tuple_list pl.isList (fun h' kp => ?_) (by simp only [List.size_toArray] <;> omega)
    have I1 : Inv X pins σ H { s with heap := h' } := I.kept (t' := s.toks) kp
    have I2 : Inv X pins σ (upd H h'.objs.size (.tup ys)) { s with heap := h'.push { cls := .type "tuple", data := .seq its.toArray } } :=
      I1.laid (t' := s.toks) (fun b o e => Heap.get?_push_of_some _ e) (Nat.le_refl _) (show ObjOk X.prog X.w _ _ _ (.tup ys) from ⟨hz, its, r', IsTup.new _ _⟩)
    exact ⟨.ref h'.objs.size, _, I2, rfl, q _ (I1.hok.fresh (Nat.le_refl _))⟩
  · obtain ⟨its, r', pl, hz⟩ := I.tuple hq
    exact call_tuple_same pl ⟨.ref p, H, I, rfl, q⟩

/-! ### the call of a builtin's method: o.m(..) -/
/-- the value is of that builtin type -/
def tyV (K : PySem.W.Frag) (T : String) (x : V) (H : Hp) : Prop := match x with
  | .str _ => T = "str"
  | .int _ => T = "int"
  | .ref p => (T = "list" ∧ ∃ xs, SqL K H p xs) ∨ (T = "tuple" ∧ ∃ o, K.lookup p = some o ∧ o.cls = .type "tuple" ∧ o.dict = none) ∨
      (T = "dict" ∧ ((∃ kvs, H p = some (.dK kvs)) ∨ ∃ kvs, H p = some (.dT kvs))) ∨ (T = "set" ∧ ∃ S n, H p = some (.set S n))
  | _ => False
theorem tyV_is {pins : List (Addr × Obj)} {σ : St} {H : Hp} {s : Shared} {T : String} {x : V} {v : Value} (I : Inv X pins σ H s) (r : RelV x v) (ty : tyV X.K T x H) :
    s.TypeIs v T ∧ ∀ a, v = .ref a → ∃ ob, s.heap.get? a = some ob ∧ ob.dict = none := by
  cases x with
  | str z =>
    obtain ⟨t, rfl⟩ := r
    cases (show T = "str" from ty)
    exact ⟨typeIs_str s z t, fun _ e => nomatch e⟩
  | int i =>
    obtain ⟨t, rfl⟩ := r
    cases (show T = "int" from ty)
    exact ⟨typeIs_int s i t, fun _ e => nomatch e⟩
  | ref p =>
    cases r
    rcases ty with ⟨rfl, xs, hq⟩ | ⟨rfl, o, hk, hc, hd⟩ | ⟨rfl, hk⟩ | ⟨rfl, S, n, hk⟩
    · obtain ⟨its, _, pl, _⟩ := I.list hq
      refine ⟨pl.isList.typeIs, fun a e => ?_⟩
      cases e
      obtain ⟨o, n, e, c, hd, _⟩ := pl
      exact ⟨o, e, hd⟩
    · refine ⟨⟨o, I.kIn p o hk, hc⟩, fun a e => ?_⟩
      cases e
      exact ⟨o, I.kIn _ o hk, hd⟩
    · have z : ∃ o, s.heap.get? p = some o ∧ o.ExactDict := by
        rcases hk with ⟨kvs, hk⟩ | ⟨kvs, hk⟩
        · obtain ⟨_, _, _, _, o, _, _, e, ex, _⟩ := I.hok p _ hk
          exact ⟨o, e, ex⟩
        · obtain ⟨_, _, _, _, o, _, _, e, ex, _⟩ := I.hok p _ hk
          exact ⟨o, e, ex⟩
      obtain ⟨o, e, ex⟩ := z
      refine ⟨⟨o, e, ex.1⟩, fun a e2 => ?_⟩
      cases e2
      exact ⟨o, e, ex.2.1⟩
    · obtain ⟨o, _, _, _, e, ex, _⟩ := I.hok p _ hk
      refine ⟨⟨o, e, ex.1⟩, fun a e2 => ?_⟩
      cases e2
      exact ⟨o, e, ex.2.1⟩
  | _ => exact False.elim ty
def tBM0 (K : PySem.W.Frag) (T : String) (r : V → List V → Hp → VK → Prop) (to : TE) : TE := fun σ H Q => to σ H fun x H1 => tyV K T x H1 ∧ r x [] H1 Q
def tBM (K : PySem.W.Frag) (T : String) (r : V → List V → Hp → VK → Prop) (to : TE) (t : TA) : TE := fun σ H Q => to σ H fun x H1 => tyV K T x H1 ∧ t σ H1 fun xs H2 => r x xs H2 Q
variable {o e : Expr} {es : List Expr} {to : TE} {t : TA} {name : Str} {apos cpos : Pos} {T id : String} {r : V → List V → Hp → VK → Prop}
theorem pe_bm (pa : PlainAttrs T) (slot : Slot T name id) (hty : typeOf (.builtin id) = pure (.type "method_descriptor")) (hm : MtR X id r) (ho : PE X o to) (ha : PA X (e :: es) t)
    (hbase : attributeBase o name X.env (eval o X.env) = eval o X.env := by rfl)
    (hfew : ((backTo cpos (starEach (e :: es) X.env)).all (fun x => !x.1) && (backToKw cpos (keywordEach [] X.env)).all (fun x => x.1.isSome)
      && decide ((e :: es).length + ([] : List Keyword).length + (if ([] : List Keyword).isEmpty then 0 else 1) < 30)) = true := by rfl)
    (hline : (apos.endLine == cpos.line) = true := by rfl) (hs : starEach (e :: es) X.env = (false, eval e X.env) :: starEach es X.env := by rfl) (hplain : (backTo cpos (starEach es X.env)).any (·.1) = false := by rfl) :
    PE X (.Call (.Attribute o name apos) (e :: es) [] cpos) (tBM X.K T r to t) := by
  intro pins s σ H Q I h
  refine wpAny_Call_method_late hbase hfew hline rfl (thn (ho pins s σ H _ I h) fun v s1 ⟨x, H1, I1, r1, ty, q1⟩ => ?_)
  obtain ⟨h1, h2⟩ := tyV_is I1 r1 ty
  refine ⟨T, id, pa, slot, hty, h1, h2, ?_⟩
  have hA := ha cpos pins s1 σ H1 _ I1 q1
  rw [hs] at hA ⊢
  refine Calls.callWith_builtin (by show (false || (backTo cpos (starEach es X.env)).any (·.1)) = false; rw [hplain] <;> rfl) (Calls.evalArgs_plain ?_)
  exact thn hA fun us s2 ⟨vs, H2, I2, r2, q2⟩ => hm pins s2 σ H2 x vs v us Q I2 r1 r2 q2
/- xs.append(e), list.index on a module's tuple .. are MtR facts of 06m -/
end
end L2

namespace L2
open PySem PySem.Spec PyProof.Rows

def MtM (X : Cx) (id : String) (r : V → List V → Hp → VK → Prop) : Prop :=
  ∀ (pins : List (Addr × Obj)) (s : Shared) (σ : St) (H : Hp) (x : V) (xs : List V) (v : Value) (us : List Value) (Q : VK), Inv X pins σ H s → RelV x v → Vals xs us → r x xs H Q →
    wpAny (model X.prog X.w) X.A (call (.builtin id) (v :: us)) (EP X pins σ Q) X.xe s

/-! ### lists of values -/
theorem Vals.one : ∀ {x : V} {us : List Value}, Vals [x] us → ∃ u, us = [u] ∧ RelV x u
  | _, _, .cons r .nil => ⟨_, rfl, r⟩
theorem Vals.rep {xs : List V} {us : List Value} (h : Vals xs us) : ∀ k : Nat, Vals (List.replicate k xs).flatten (List.replicate k us).flatten
  | 0 => .nil
  | k + 1 => by
    rw [List.replicate_succ, List.replicate_succ, List.flatten_cons, List.flatten_cons]
    exact Vals.append h (Vals.rep h k)
theorem foldl_rep (its : List Value) : ∀ (k : Nat) (acc : List Value),
    List.foldl (fun x1 x2 => x1 ++ x2) acc.toArray (List.replicate k its.toArray) = (acc ++ (List.replicate k its).flatten).toArray
  | 0, acc => by simp
  | k + 1, acc => by
    have e : acc.toArray ++ its.toArray = (acc ++ its).toArray := by simp
    have e2 : (acc ++ its) ++ (List.replicate k its).flatten = acc ++ (List.replicate (k + 1) its).flatten := by
      rw [List.replicate_succ, List.flatten_cons, List.append_assoc]
    rw [← e2, ← foldl_rep its k (acc ++ its), ← e, List.replicate_succ, List.foldl_cons]

section
variable {X : Cx} {pins : List (Addr × Obj)} {σ : St} {H : Hp} {s : Shared} {l b : Addr} {xs ys zs : List V}

/-! ### the two steps: a tracked list is rewritten, a new list is laid -/
theorem Inv.lset {its its' : List Value} {n : Nat} {f : Array Value → Array Value} {t' : Nat} (I : Inv X pins σ H s) (hH : H l = some (.lst xs))
    (e : s.heap.get? l = some { cls := .type "list", data := .seq its.toArray n }) (hf : f its.toArray = its'.toArray) (hv : Vals ys its') (hz : ys.length ≤ sizeLine) :
    Inv X pins σ (upd H l (.lst ys)) { s with heap := s.heap.update l (Obj.mapSeq f), toks := t' } := by
  have q := PySem.IsL.update e f
  rw [hf] at q
  refine I.write (x := l) (e := l) (by rw [hH]; exact trivial) (.inl rfl) (fun b' u hb hu => (Heap.get?_update_other s.heap (Obj.mapSeq f) (Ne.symm hb)).trans hu) ⟨_, q⟩ ?_
  exact ⟨hz, its', _, hv, q⟩
theorem Inv.lnew {its : List Value} {t' : Nat} (I : Inv X pins σ H s) (hv : Vals ys its) (hz : ys.length ≤ sizeLine) :
    Inv X pins σ (upd H s.heap.objs.size (.lst ys)) { s with heap := s.heap.push { cls := .type "list", data := .seq its.toArray }, toks := t' } :=
  I.laid (fun _ _ q => Heap.get?_push_of_some _ q) (Nat.le_refl _) ⟨hz, its, 0, hv, Heap.get?_push_size _ rfl⟩
theorem Inv.fresh (I : Inv X pins σ H s) : H s.heap.objs.size = none := I.hok.fresh (Nat.le_refl _)
theorem Inv.lstM (I : Inv X pins σ H s) (hH : H l = some (.lst xs)) : xs.length ≤ sizeLine ∧ ∃ (its : List Value) (n : Nat), Vals xs its ∧ xs.length = its.length ∧ s.heap.get? l = some { cls := .type "list", data := .seq its.toArray n } := by
  obtain ⟨z, its, n, r, e⟩ := I.hok l _ hH
  exact ⟨z, its, n, r, r.length, e⟩

theorem notLongL {n : Nat} (h : n ≤ sizeLine) : Builtin.List.listTooLong n = false := by
  unfold Builtin.List.listTooLong
  exact decide_eq_false (by omega)
end

section
variable {X : Cx}

/-! ### methods -/
def rAppend : V → List V → Hp → VK → Prop := fun x vs H Q => ∃ l xs y, x = .ref l ∧ vs = [y] ∧ H l = some (.lst xs) ∧ xs.length < sizeLine ∧ Q .non (upd H l (.lst (xs ++ [y])))
theorem mt_append : MtM X "list.append" rAppend := by
  intro pins s σ H x vs v us Q I rx rv h
  obtain ⟨l, xs, y, rfl, rfl, hH, hz, q⟩ := h
  cases rx
  obtain ⟨u, rfl, ru⟩ := rv.one
  obtain ⟨z, its, n, r, hl, e⟩ := I.lstM hH
  refine call_meets F.slot_list_append ⟨_, e, rfl⟩ F.entry_list_append (F.args_list_append_2 _ _) (PySem.list_append l its.toArray n u (by rw [List.size_toArray]; omega)) ⟨e, ?_⟩
  refine ⟨.non, _, I.lset (its' := its ++ [u]) hH e (by simp) (r.append (.cons ru .nil)) ?_, rfl, q⟩
  rw [List.length_append, List.length_singleton]
  omega

def rExtend : V → List V → Hp → VK → Prop := fun x vs H Q => ∃ l b xs zs, x = .ref l ∧ vs = [.ref b] ∧ H l = some (.lst xs) ∧ H b = some (.lst zs) ∧ xs.length + zs.length ≤ sizeLine ∧ Q .non (upd H l (.lst (xs ++ zs)))
def rPop : V → List V → Hp → VK → Prop := fun x vs H Q => ∃ l xs y, x = .ref l ∧ vs = [] ∧ H l = some (.lst xs) ∧ xs[xs.length - 1]? = some y ∧ Q y (upd H l (.lst xs.dropLast))
def rPopAt : V → List V → Hp → VK → Prop := fun x vs H Q => ∃ l xs i k y, x = .ref l ∧ vs = [.int i] ∧ H l = some (.lst xs) ∧ -(2 ^ 63) ≤ i ∧ i < 2 ^ 63 ∧ seqIndex? i xs.length = some k ∧ xs[k]? = some y ∧ Q y (upd H l (.lst (xs.eraseIdx k)))
def rReverse : V → List V → Hp → VK → Prop := fun x vs H Q => ∃ l xs, x = .ref l ∧ vs = [] ∧ H l = some (.lst xs) ∧ Q .non (upd H l (.lst xs.reverse))
def rClear : V → List V → Hp → VK → Prop := fun x vs H Q => ∃ l xs, x = .ref l ∧ vs = [] ∧ H l = some (.lst xs) ∧ Q .non (upd H l (.lst []))
/-! ### list + list, list += list, list * int -/
def rCat : R2 := fun x y H Q => ∃ l b xs zs, x = .ref l ∧ y = .ref b ∧ H l = some (.lst xs) ∧ H b = some (.lst zs) ∧ xs.length + zs.length ≤ sizeLine ∧ ∀ p, H p = none → Q (.ref p) (upd H p (.lst (xs ++ zs)))
/-- a list times an int (a negative one is nothing) -/
def rRep : R2 := fun x y H Q => ∃ l k xs, x = .ref l ∧ y = .int k ∧ H l = some (.lst xs) ∧ -(2 ^ 63) ≤ k ∧ k < 2 ^ 63 ∧ xs.length * k.toNat ≤ sizeLine ∧
  ∀ p, H p = none → Q (.ref p) (upd H p (.lst (List.replicate k.toNat xs).flatten))
theorem len_rep {α : Type} (xs : List α) (k : Nat) : (List.replicate k xs).flatten.length = k * xs.length := by
  induction k with
  | zero => simp
  | succ k ih => rw [List.replicate_succ, List.flatten_cons, List.length_append, ih, Nat.succ_mul, Nat.add_comm]
theorem op_rep : OpR X (binaryOp .Mult) rRep := by
  intro pins s σ H x y v u Q I rx ry h
  obtain ⟨l, k, xs, rfl, rfl, hH, h1, h2, hz, q⟩ := h
  cases rx
  obtain ⟨t, rfl⟩ := ry
  obtain ⟨z, its, n, r, hl, e⟩ := I.lstM hH
  have hlen : its.toArray.size * k.toNat ≤ sizeLine := by rw [List.size_toArray, ← hl]; exact hz
  have hcap : ¬ its.toArray.size * k.toNat > (2 ^ 63 - 1) / 8 := by
    have : (sizeLine : Nat) ≤ (2 ^ 63 - 1) / 8 := by decide
    omega
  have hfit : ¬ (!Builtin.List.listFitsIndex k) = true := by
    rw [fitsIndex_both h1 h2]
    exact Bool.false_ne_true
  have hlong : ¬ Builtin.List.listTooLong (its.toArray.size * k.toNat) = true := by
    rw [notLongL hlen]
    exact Bool.false_ne_true
  have hnew : List.foldl (fun x1 x2 => x1 ++ x2) #[] (List.replicate (if its.toArray.isEmpty = true then 0 else k.toNat) its.toArray) = (List.replicate k.toNat its).flatten.toArray := by
    have f0 : ∀ m : Nat, List.foldl (fun x1 x2 => x1 ++ x2) #[] (List.replicate m its.toArray) = (List.replicate m its).flatten.toArray := fun m => by
      have := foldl_rep its m []
      rw [List.nil_append] at this
      exact this
    rw [f0]
    cases its with
    | nil => simp
    | cons a r' => rw [if_neg (by simp)]
  refine wpAny_binaryOp_repeat_ref (T := "list") (U := "int") (by decide) ⟨_, e, rfl⟩ (fun s' => typeIs_int s' k t) noFill_list_mul F.fills_int_mul F.slot_int_rmul repeat_list F.slot_int_index.lookup
    (call_meets F.slot_int_rmul (typeIs_int s k t) F.entry_int_rmul (F.args_int_rmul_2 _ _) (int___rmul___int_list k t l its.toArray n)
      ⟨e, rfl, ⟨_, e, rfl⟩, call_meets F.slot_list_mul ⟨_, e, rfl⟩ F.entry_list_mul (F.args_list_mul_2 _ _) (AutoListH.list___mul___list_int_3 l its.toArray n k t hfit hcap hlong) ⟨e, ?_⟩⟩)
  rw [hnew]
  exact ⟨.ref _, _, I.lnew (t' := s.toks) (r.rep k.toNat) (by rw [len_rep, Nat.mul_comm]; exact hz), rfl, q _ I.fresh⟩

end

/-! ### xs[a:b] = ys -/
section
variable {prog : Program} {w : World} {A : Around} {E : Value → Shared → Prop} {s : Shared}
end

section
variable {X : Cx}
end
end L2

namespace Att
open PySem PySem.W PySem.Calls PyProof.Rows

/-! ### the script -/
theorem ints_of_wellAll {P : Params} {h : Heap} : ∀ (ns : List Int) (vs : List Value), WellAll P h vs (ns.map WData.int) → IntsAre vs ns := by
  intro ns
  induction ns with
  | nil =>
    intro vs w
    rw [List.map_nil] at w
    cases w
    exact .nil
  | cons n ns ih =>
    intro vs w
    rw [List.map_cons] at w
    cases w with
    | cons a b =>
      cases a
      exact .cons _ _ (ih _ b)

theorem script_of {l : OpenLaw} {n : Nat} (hn : l.most = some n) {P : Params} {h : Heap} {args : List WData} {vals : List Value}
    (hpre : l.row.toRowW.claim.pre args = true) (hwl : WellAll P h vals args) :
    ∃ a vs ns, vals = [Value.ref a] ∧ args = [WData.list (ns.map WData.int)] ∧ h.get? a = some { cls := .type "list", data := .seq vs.toArray } ∧ IntsAre vs ns ∧ ns.length ≤ n := by
  have hsh : WShape.hasAll [] args [.list .int] = true := (pre_splitW hpre).1
  have hc : l.pre.holds [] { args := args } = true := (pre_splitW hpre).2
  obtain ⟨d, r, rfl, h1, h2⟩ := hasAllW_cons hsh
  obtain rfl := hasAllW_nil h2
  obtain ⟨xs, rfl, h3⟩ := hasW_list h1
  obtain ⟨ns, rfl⟩ := items_int h3
  have hlen : ns.length ≤ n := by
    unfold OpenLaw.pre at hc
    have h4 : (WTm.not (.lt (.lit (.int (n : Int))) (.len (.arg 0)))).holds [] { args := [.list (ns.map .int)] } = true := by
      have h4 := (holds_andW hc).1
      rw [hn] at h4
      exact h4
    have h5 := condW_of h4 (w_not (w_lt w_lit (w_len_list (w_arg rfl))))
    rw [List.length_map] at h5
    refine Nat.le_of_not_lt fun q => ?_
    have q' : (n : Int) < ((ns.length : Nat) : Int) := by omega
    first
      | (rw [decide_eq_true q'] at h5; exact absurd h5 (by decide))
      | (simp at h5; omega)
  cases hwl with
  | cons w1 w2 =>
    cases w2
    cases w1 with
    | list ho hall => exact ⟨_, _, ns, rfl, rfl, ho, ints_of_wellAll ns _ hall, hlen⟩

theorem post_true (l : OpenLaw) (args : List WData) : l.row.toRowW.claim.post args (.bool true) args = true :=
  postW_of (r := l.row.toRowW) (X := (true == true))
    (show WShape.has [] (.bool true) .bool = true by first | rfl | decide | simp [WShape.has, WShape.arms, WShape.armsAll])
    (show (WTm.eq .res (.lit (.bool true))).value [] { args := args, res := some (.bool true), after := args } = some (.bool (true == true)) from w_eq_bool (w_res rfl) w_lit) rfl

/-- the same from a codeAny of the CALL (for a layer whose function contracts speak of calls) -/
theorem attach_call {l : OpenLaw} {n : Nat} {q : Program} {loose : List Str} {XP : (Str → Option Value) → Heap → Prop} {YP : World → Heap → Prop} {d : DefRec}
    (hn : l.most = some n) (hdf : d.params.defaults = [])
    (call : ∀ (w : World) (s₀ s₁ : Shared) (mg mb : Str → Option Value) (fa : Addr) (o : Obj) (pm cd doc : Value) (a : Addr) (vs : List Value) (ns : List Int),
      Ground q loose [] XP w s₀ mg mb s₁.heap → YP w s₁.heap →
      s₁.heap.get? fa = some o → o.data = .func (docDef d.name d.params d.body d.scope pm cd doc) → s₁.heap.CodeRec cd d.name → mg d.name = some (.ref fa) →
      s₁.heap.get? a = some { cls := .type "list", data := .seq vs.toArray } → IntsAre vs ns → ns.length ≤ n → s₁.gens = #[] →
      codeAny (model l.prog w) callerA (.call (.ref fa) ⟨[.ref a], []⟩) (fun r s' => r = .ok (.ret (.bool true)) ∧ OldK s₁.heap s'.heap ∧ s'.os = s₁.os ∧ AllBare s'.gens) s₁) :
    WalkO q loose XP YP l.row.toRowW d [] (fun f vs => PySem.call f vs) := by
  intro w s₀ s₁ mg mb G Y fa o pm cd doc dV kV ho hd hcd hD hmg hg args vals as hpre hlay hrd hwl hlo
  obtain rfl : dV = .none := Dflts.none hD hdf
  obtain rfl : kV = .none := Dflts.noKw hD
  obtain ⟨a, vs, ns, rfl, rfl, hobj, hints, hlen⟩ := script_of hn hpre hwl
  refine enter_call (codeAny_mono (call w s₀ s₁ mg mb fa o pm cd doc a vs ns G Y ho (fd_plain hd) hcd hmg hobj hints hlen hg) fun r s' hq => ?_)
  obtain ⟨rfl, h2, h3, h4⟩ := hq
  exact ⟨.inl ⟨.bool true, .bool true, [], rfl, fun _ => rfl, .bool true, post_true l _, fun _ => ⟨List.Pairwise.nil, fun _ hm => (nomatch hm)⟩⟩, h2, h3, h4⟩

/-! ### rules over ANY heap (no ledger) from facts about the written part K: the library's own take a ledger (News) for what they write -/
section
variable {prog : Program} {w : World} {A : Around} {E : Value → Shared → Prop} {s : Shared} {K : Frag}

/-! the whole heap as the ledger: makes every rule that writes through a ledger a rule over any heap -/
def noObjs (h : Heap) : Heap := { h with objs := #[] }
def ledger (h : Heap) (L d : Addr) : List (Addr × Obj) := (List.range h.objs.size).filterMap fun a => if a = L ∨ a = d then none else (h.get? a).map fun o => (a, o)
end
end Att

namespace L2
open PySem PySem.Spec PyProof.Rows

theorem vals_ints : ∀ {vs : List Value} {ns : List Int}, IntsAre vs ns → Vals (ns.map V.int) vs
  | _, _, .nil => .nil
  | _, _, .cons n t h => .cons ⟨t, rfl⟩ (vals_ints h)

/-- nothing is tracked but the script, known to the object (or it is an object of the module) -/
def Only (H : Hp) : Prop := ∀ b, H b = none ∨ ∃ o xs, H b = some (.frz o (.lst xs))

/-- THE HEAD: the law's promise, at the heap behind the top. F, the promise of the law's def, may use that base is part of the heap (so K.In base, base.Ns mainGlobals mg stand in Mod) -/
theorem law_call {P : Program} {w : World} {K : PySem.W.Frag} {mg mb : Str → Option Value} {CX : CXT} {k : Nat} {fa a : Addr} {fd : FuncData} {x : Str} {sp : Sp} {s₁ : Shared} {vs : List Value} {ns : List Int}
    (KX : K.In s₁.heap) (hns : s₁.heap.Ns mainGlobals mg) (hb : s₁.heap.Ns builtinsNs mb) (hbb : ∀ x : Str, x ≠ "__name__" → mb x = bootBuiltins x) (hlim : s₁.heap.NoLimit) (hg : s₁.gens = #[])
    (ha : s₁.heap.get? a = some { cls := .type "list", data := .seq vs.toArray }) (hi : IntsAre vs ns) (hl : ns.length ≤ sizeLine) (hr : Room k callerA)
    (F : ∀ base : Heap, K.In base → base.Ns mainGlobals mg → FnOk P w K mg base CX k fa fd [x] sp) (hbind : ∀ (s : Shared) (u : Value), BindsTo s fd ⟨[u], []⟩ [(x, u)])
    (hsp : ∀ H : Hp, Only H → SqL K H a (ns.map V.int) → sp [.ref a] H (fun v _ => v = .bl true) fun _ _ _ => False)
    (hCX : ∀ H e s', CX [] H s₁ (fun _ _ _ => False) e s' → False) :
    codeAny (model P w) callerA (.call (.ref fa) ⟨[.ref a], []⟩) (fun r s' => r = .ok (.ret (.bool true)) ∧ OldK s₁.heap s'.heap ∧ s'.os = s₁.os ∧ AllBare s'.gens) s₁ := by
  have rv := vals_ints hi
  have lenV := hi.length
  -- from an abstract heap in which nothing but the script may be tracked
  have core : ∀ H : Hp, Only H → SqL K H a (ns.map V.int) → HOk P w H s₁.heap → (∀ b, H b ≠ none → b = a) → (H a ≠ none → K.lookup a = none) →
      codeAny (model P w) callerA (.call (.ref fa) ⟨[.ref a], []⟩) (fun r s' => r = .ok (.ret (.bool true)) ∧ OldK s₁.heap s'.heap ∧ s'.os = s₁.os ∧ AllBare s'.gens) s₁ := by
    intro H hO hS hok hA hK
    have base_of : ∀ {b : Addr} {o : Obj}, s₁.heap.get? b = some o → H b = none → (hidT s₁.heap H).get? b = some o := fun e n => hidT_get e n
    have noA : ∀ {b : Addr} {o : Obj} {es : Array DictEntry} {ep : Nat}, s₁.heap.get? b = some o → o.data = .dict es ep → H b = none := fun {b o es ep} e d => by
      cases q : H b with
      | none => rfl
      | some u =>
        have e' : b = a := hA b (by rw [q]; simp)
        subst e'
        rw [ha] at e; cases e
        have d' : Data.seq vs.toArray _ = Data.dict es ep := d
        cases d'
    have nsK : ∀ {b : Addr} {m : Str → Option Value}, s₁.heap.Ns b m → (hidT s₁.heap H).Ns b m := fun {b m} ⟨o, es, ep, e, d, r⟩ => ⟨o, es, ep, base_of e (noA e d), d, r⟩
    have hKb : K.In (hidT s₁.heap H) := fun b o e => base_of (KX b o e) (by
      cases q : H b with
      | none => rfl
      | some u =>
        have e' : b = a := hA b (by rw [q]; simp)
        subst e'
        rw [hK (by rw [q]; simp)] at e; cases e)
    have hM : Mod K mg (hidT s₁.heap H) := ⟨hKb, nsK hns, ⟨mb, nsK hb, hbb⟩, let ⟨mc, h1, h2⟩ := hlim; ⟨mc, nsK h1, h2⟩⟩
    have e0 : Env0 P w K mg (hidT s₁.heap H) callerA [] s₁ H := ⟨rfl, hM, fun b o e => of_hidT e, Nat.le_of_eq (hidT_size _ _), trivial, fun b hb => absurd (show b ∈ ([] : List Addr) from hb) (by simp), hok, .of_eq hg⟩
    refine codeAny_mono ((F _ hKb (nsK hns)).run callerA [] s₁ H ⟨[.ref a], []⟩ [.ref a] [.ref a] _ _ hr e0 (hbind s₁ (.ref a)) (.cons rfl .nil) (hsp H hO hS)) fun r s' h => ?_
    cases r with
    | error e => exact (hCX H e s' h).elim
    | ok fl =>
      cases fl with
      | next => exact False.elim h
      | brk => exact False.elim h
      | cont => exact False.elim h
      | ret u =>
        obtain ⟨v, H', os, bare, un, hok', r', q⟩ := h
        have q' : v = .bl true := q
        subst q'
        obtain rfl : u = Value.bool true := r'
        refine ⟨rfl, OldK.of_keep fun b o e => ?_, os, bare⟩
        cases q : H b with
        | none => exact un.keep b o e q (by intro z; exact absurd (show b ∈ ([] : List Addr) from z) (by simp)) (by simp)
        | some u =>
          rcases hO b with z | ⟨ob, xs, z⟩
          · rw [q] at z; cases z
          · have z2 := un.frzs b ob _ z
            obtain ⟨e1, _⟩ := hok b _ z
            obtain ⟨e2, _⟩ := hok' b _ z2
            rw [e] at e1; cases e1
            exact e2
  cases hk : K.lookup a with
  | some o =>
    -- the script is one of the module's own objects
    have e := KX a o hk
    rw [ha] at e
    cases e
    refine core (fun _ => none) (fun _ => .inl rfl) (.inr ⟨_, vs.toArray, _, hk, rfl, rfl, rfl, by rw [List.size_toArray, lenV]; exact hl, by simpa using rv⟩) (fun b u z => by have z' : (none : Option HO) = some u := z; cases z') (fun b z => absurd rfl z) fun z => absurd rfl z
  | none =>
    refine core (fun b => if b = a then some (.frz { cls := .type "list", data := .seq vs.toArray } (.lst (ns.map V.int))) else none) (fun b => ?_) (.inl (.inr ⟨{ cls := .type "list", data := .seq vs.toArray }, if_pos rfl⟩)) (fun b u z => ?_) (fun b z => ?_) fun _ => hk
    · by_cases hb : b = a
      · exact .inr ⟨_, _, if_pos hb⟩
      · exact .inl (if_neg hb)
    · by_cases hb : b = a
      · have z' := (if_pos hb).symm.trans z
        cases z'
        subst hb
        exact ⟨ha, by rw [List.length_map]; exact hl, vs, _, rv, ha⟩
      · have z' := (if_neg hb).symm.trans z
        cases z'
    · by_cases hb : b = a
      · exact hb
      · exact absurd (if_neg hb) z
end L2

namespace L2
open PySem PySem.Spec PyProof.Rows

abbrev KOf {K : PySem.W.Frag} {h : Heap} (_ : K.In h) : PySem.W.Frag := K

/-- the goal that k_head leaves (case hc), from the law's promise. F gives the function object fd (K's own) once, then the promise over every base -/
theorem walk_of {l : PySem.W.OpenLaw} {n k : Nat} {q : Program} {loose : List Str} {XP : (Str → Option Value) → Heap → Prop} {YP : World → Heap → Prop} {d : DefRec} {K : Params → PySem.W.Frag} {CX : World → CXT} {sp : World → Sp} {x : Str}
    (hn : l.most = some n) (hn2 : n ≤ sizeLine) (hdf : d.params.defaults = []) (hr : Room k callerA)
    (hY : ∀ (w : World) (h : Heap), YP w h → (K w.params).In h)
    (F : ∀ (w : World) (mg : Str → Option Value) (fa : Addr) (h : Heap), (K w.params).In h → h.Ns mainGlobals mg → mg d.name = some (.ref fa) →
      ∃ fd : FuncData, (∀ (s : Shared) (u : Value), BindsTo s fd ⟨[u], []⟩ [(x, u)]) ∧
        ∀ base : Heap, (K w.params).In base → base.Ns mainGlobals mg → FnOk l.prog w (K w.params) mg base (CX w) k fa fd [x] (sp w))
    (hsp : ∀ (w : World) (H : Hp) (a : Addr) (ns : List Int), ns.length ≤ n → Only H → SqL (K w.params) H a (ns.map V.int) → sp w [.ref a] H (fun v _ => v = .bl true) fun _ _ _ => False)
    (hCX : ∀ (w : World) (H : Hp) (s : Shared) (e : Value) (s' : Shared), CX w [] H s (fun _ _ _ => False) e s' → False) :
    PySem.W.WalkO q loose XP YP l.row.toRowW d [] (fun f vs => PySem.call f vs) := by
  refine Att.attach_call hn hdf fun w s₀ s₁ mg mb fa o pm cd doc a vs ns G Y ho hd hcd hmg hobj hints hlen hg => ?_
  have KX := hY w _ Y
  obtain ⟨fd, hb, hF⟩ := F w mg fa _ KX G.T.g hmg
  exact law_call KX G.T.g G.T.b G.T.builtins G.T.nolimit hg hobj hints (Nat.le_trans hlen hn2) hr hF hb (fun H hO hS => hsp w H a ns hlen hO hS) fun H e s' => hCX w H s₁ e s'
end L2

/- THE LAST THEOREM (shape; LID, My.* are yours):
   My.Adr: a structure of the addresses that your layer names (classes, functions); My.Txt K t: a structure (Prop) of the equations over K;
   My.txt_mk : {K} {implicit addresses ..} (e1 : nsIn K mainGlobals "law" = some (some (.ref f))) (e2 : K.lookup f = some ⟨oc, od, .func (fnOf "law" "law" params body scope dV kV doc pm an cdv ct), sl⟩) (e3 : codeIn K cdv "law" = true) .. : ∃ t, My.Txt K t

set_option maxRecDepth 100000 in
set_option maxHeartbeats 0 in
theorem PySem.Challenge.cw_LID_holds : PySem.Challenge.rw_LID.Holds := by
  w_on; o_law; k_head; (case hw => w_witness2)
  k_fill
  refine L2.walk_of (l := PySem.Challenge.rw_LID) (n := 63) (k := 40) (x := "script") (CX := fun w => ..) (sp := fun _ => My.sp_law) rfl (by decide) rfl ⟨rfl, by decide, by decide⟩ (fun w h Y => PySem.W.kIn_of Y) ?F ?S ?C
  case F =>
    intro w mg fa h KX G hmg
    have T : ∃ t, My.Txt (L2.KOf KX) t := by
      dsimp only [L2.KOf]                          -- K must stand as «<heap const> w.params» for k_is
      refine' My.txt_mk ?e1 ?e2 ?e3 ..
      (case e1 => PySem.W.k_is)                    -- in the order: a name -> its address -> its object -> its parts
      (case e2 => PySem.W.k_is)
      ..
    obtain ⟨t, T⟩ := T
    have e0 := hmg.symm.trans (PySem.W.mg_of KX G T.law)
    cases e0                                       -- fa is the law's own address
    exact ⟨_, fun s u => .of_eq rfl, fun base kb nb => My.law_fn T kb nb⟩     -- if «.of_eq rfl» comes too early: refine' ⟨_, ?b, fun base kb nb => My.law_fn T kb nb⟩; exact fun s u => .of_eq rfl
  case S => exact fun w H a ns hl hO hS => ..
  case C => exact ..
(the tactic k_is has no namespace: write k_is) -/

/-! SHORT WORDS over the layer: a def of the text, its body, what a loop and a test want. -/
namespace L2
open PySem PySem.Spec PyProof.Rows

/-! ### the text by places -/
/-- the j-th statement of a class's body -/
def inClass (s : Stmt) (j : Nat) : Stmt := match s with
  | .ClassDef _ _ _ body _ _ _ _ _ _ _ => body.getD j (.Pass ⟨0, 0, 0, 0⟩)
  | _ => .Pass ⟨0, 0, 0, 0⟩
def defArgs (s : Stmt) : Arguments := match s with
  | .FunctionDef _ a _ _ _ _ _ _ _ _ => a
  | _ => { posonlyargs := [], args := [], vararg := none, kwonlyargs := [], kw_defaults := [], kwarg := none, defaults := [] }
def defBody (s : Stmt) : List Stmt := match s with
  | .FunctionDef _ _ b _ _ _ _ _ _ _ => b
  | _ => []
def defScope (s : Stmt) : Scope := match s with
  | .FunctionDef _ _ _ _ _ _ sc _ _ _ => sc
  | _ => { kind := .function, names := [], isGenerator := false, isCoroutine := false }

/-! ### no exception leaves a def -/
abbrev CX0 : CXT := fun _ _ _ _ _ _ => False
abbrev E0 : XK := fun _ _ _ => False
theorem pass0 {X : Cx} : Passes CX0 X E0 := fun _ _ _ _ _ _ _ h => h.elim

/-! ### a def (or method) of the text as it stands behind the top -/
structure Fun (K : PySem.W.Frag) (x qual : Str) (st : Stmt) (f : Addr) (fd : FuncData) : Prop where
  ex : ∃ (oc : Value) (od : Option Addr) (kV doc pm : Value) (an : Option Addr) (cdv ct : Value) (osl : Array (Option Value)),
    fd = PySem.W.fnOf x qual (defArgs st) (defBody st) (defScope st) .none kV doc pm an cdv ct ∧ K.lookup f = some ⟨oc, od, .func fd, osl⟩ ∧ PySem.W.codeIn K cdv qual = true
  kp : PySem.W.keepIn K (.ref f) = true
section
variable {P : Program} {w : World} {K : PySem.W.Frag} {mg : Str → Option Value} {base : Heap}
/-- THE RULE for a def: its body as a term of rules, and the reading of that term -/
theorem Fun.ok {x qual : Str} {st : Stmt} {f : Addr} {fd : FuncData} {N ps : List Str} {k : Nat} {sp : Sp} (F : Fun K x qual st f fd) (S : FnScope N ps (defScope st)) (len : ∀ vs H Q E, sp vs H Q E → vs.length = ps.length)
    (hbody : ∀ (cdv : Value) (A : Around) (outer : List Env) (s : Shared) (H : Hp) (vs : List V) (Q : VK) (E : XK), Room k (A.deeper (envOfC qual (defScope st) s.heap.objs.size f cdv)) → sp vs H Q E →
      ∃ t, PSs (cxOf CX0 P w K mg base N qual (defScope st) f cdv A outer s H E).nox (defBody st) t ∧ t { nx := fun _ H' => Q .non H', rt := Q } (start N vs) H) : FnOk P w K mg base CX0 (k + 1) f fd ps sp := by
  obtain ⟨oc, od, kV, doc, pm, an, cdv, ct, osl, rfl, lk, hcd⟩ := F.ex
  refine fn_of lk hcd S len fun A outer s H vs Q E hr hsp => ?_
  obtain ⟨t, h, q⟩ := hbody cdv A outer s H vs Q E hr hsp
  exact ⟨t, h.nox, q⟩
/-- how its arguments bind (no defaults): h is «fun _ _ _ _ _ _ us hl => match us, hl with | [_, _], _ => rfl», one _ a parameter -/
theorem Fun.binds {x qual : Str} {st : Stmt} {f : Addr} {fd : FuncData} {ps : List Str} (F : Fun K x qual st f fd)
    (h : ∀ (kV doc pm : Value) (an : Option Addr) (cdv ct : Value) (us : List Value), us.length = ps.length → bindArgs (PySem.W.fnOf x qual (defArgs st) (defBody st) (defScope st) .none kV doc pm an cdv ct) ⟨us, []⟩ = pure (ps.zip us)) : Binds K fd ps [] := by
  obtain ⟨oc, od, kV, doc, pm, an, cdv, ct, osl, rfl, lk, hcd⟩ := F.ex
  exact .all (h kV doc pm an cdv ct)
theorem fun_mk {x qual : Str} {st : Stmt} {f : Addr} {oc : Value} {od an : Option Addr} {osl : Array (Option Value)} {kV doc pm cdv ct : Value} (l : K.lookup f = some ⟨oc, od, .func (PySem.W.fnOf x qual (defArgs st) (defBody st) (defScope st) .none kV doc pm an cdv ct), osl⟩)
    (c : PySem.W.codeIn K cdv qual = true) (k : PySem.W.keepIn K (.ref f) = true) : Fun K x qual st f (PySem.W.fnOf x qual (defArgs st) (defBody st) (defScope st) .none kV doc pm an cdv ct) := ⟨⟨oc, od, kV, doc, pm, an, cdv, ct, osl, rfl, l, c⟩, k⟩
end
/-! ### expressions in short: the name that stands in the i-th slot -/
section
variable {X : Cx}
end

theorem iteT {A B : Prop} (h : A) : if true = true then A else B := by
  rw [if_pos rfl]
  exact h
theorem ite2 {c A B : Prop} [Decidable c] (h1 : c → A) (h2 : ¬ c → B) : if c then A else B := by
  by_cases h : c
  · rw [if_pos h]
    exact h1 h
  · rw [if_neg h]
    exact h2 h
/-! ### heaps -/
/-- all that was tracked is as it was -/
def Same (H H' : Hp) : Prop := ∀ b o, H b = some o → H' b = some o
theorem Same.refl (H : Hp) : Same H H := fun _ _ h => h
theorem Same.trans {H H1 H2 : Hp} (a : Same H H1) (b : Same H1 H2) : Same H H2 := fun c o h => b c o (a c o h)
theorem Same.free {H H' : Hp} (e : Same H H') {l : Addr} (h : H' l = Option.none) : H l = Option.none := by
  cases q : H l with
  | none => rfl
  | some o =>
    rw [e l o q] at h
    cases h
theorem Same.seq {K : PySem.W.Frag} {H H' : Hp} {a : Addr} {xs : List V} (e : Same H H') (h : SqL K H a xs) : SqL K H' a xs := by
  rcases h with (h | ⟨o, h⟩) | h
  · exact .inl (.inl (e _ _ h))
  · exact .inl (.inr ⟨o, e _ _ h⟩)
  · exact .inr h

end L2

namespace L2
open PySem PySem.Spec PyProof.Rows
/-! ### lists of pairs as tables -/
section
variable {κ : Type} [DecidableEq κ]
def valV (kvs : List (κ × V)) (k : κ) : Option V := (kvs.find? fun kv => decide (kv.1 = k)).map (·.2)
/-- in its place, or at the end -/
def putK (kvs : List (κ × V)) (k : κ) (v : V) : List (κ × V) :=
  if (kvs.any fun kv => decide (kv.1 = k)) = true then kvs.map (fun kv => if kv.1 = k then (kv.1, v) else kv) else kvs ++ [(k, v)]
def dropK (kvs : List (κ × V)) (k : κ) : List (κ × V) := kvs.filter fun kv => decide (kv.1 ≠ k)

end


/-- raw entries of a dict with tuple keys -/
abbrev KT (H : Hp) : List (List Key × V) → List (List Key × Addr × Value) → Prop := Paired fun p q => p.1 = q.1 ∧ H q.2.1 = some (.tup (p.1.map kV)) ∧ RelV p.2 q.2.2
section
variable {P : Program} {w : World} {H : Hp} {h : Heap} {a : Addr}
end

/-- what the dict at a holds at the key y -/
def DGet (H : Hp) (a : Addr) (y : V) (r : Option V) : Prop :=
  (∃ kvs k, Rd H a (.dK kvs) ∧ y = kV k ∧ r = valV kvs k) ∨ ∃ kvs k b, Rd H a (.dT kvs) ∧ y = .ref b ∧ H b = some (.tup (k.map kV)) ∧ r = valV kvs k
/-- the heap behind a[y] = v -/
def DPut (H : Hp) (a : Addr) (y v : V) (H' : Hp) : Prop :=
  (∃ kvs k, H a = some (.dK kvs) ∧ y = kV k ∧ kvs.length < sizeLine ∧ H' = upd H a (.dK (putK kvs k v))) ∨
  ∃ kvs k b, H a = some (.dT kvs) ∧ y = .ref b ∧ H b = some (.tup (k.map kV)) ∧ kvs.length < sizeLine ∧ H' = upd H a (.dT (putK kvs k v))
section
variable {X : Cx} {pins : List (Addr × Obj)} {σ : St} {H : Hp} {s : Shared} {a : Addr} {y v : V} {u r : Value} {o : Option V} {A : Around} {E : Value → Shared → Prop}

end

section
variable {X : Cx} {pins : List (Addr × Obj)} {σ : St} {H : Hp} {s : Shared} {a : Addr} {kvs : List (Key × V)} {k : Key} {u : Value} {A : Around} {E : Value → Shared → Prop}
end


/-! ### readings and rules -/
/-- the element of a subscription, not a slice -/
def NoSl (i : Expr) : Prop := ∀ ov iv, subscripted i false ov iv = operate [ov, iv] (getItem ov iv)
/-- d[y] -/
def tDGet (td ty : TE) : TE := fun σ H Q => td σ H fun x H1 => ty σ H1 fun y H2 => ∃ a v, x = .ref a ∧ DGet H2 a y (some v) ∧ Q v H2
/-- y in d, y not in d -/
def tDIn (ty td : TE) : TE := fun σ H Q => ty σ H fun y H1 => td σ H1 fun x H2 => ∃ a o, x = .ref a ∧ DGet H2 a y o ∧ Q (.bl o.isSome) H2
def tDNotIn (ty td : TE) : TE := fun σ H Q => ty σ H fun y H1 => td σ H1 fun x H2 => ∃ a o, x = .ref a ∧ DGet H2 a y o ∧ Q (.bl (!o.isSome)) H2
/-- d[y] = v -/
def sDPut (td ty tv : TE) : TS := fun D σ H => tv σ H fun v H1 => td σ H1 fun x H2 => ty σ H2 fun y H3 => ∃ a H4, x = .ref a ∧ DPut H3 a y v H4 ∧ D.nx σ H4
/-- d[y] op= v -/
def sDAug (td ty tv : TE) (rd : V → V → Hp → VK → Prop) : TS := fun D σ H => td σ H fun x H1 => ty σ H1 fun y H2 => ∃ a v, x = .ref a ∧ DGet H2 a y (some v) ∧
  tv σ H2 fun y2 H3 => rd v y2 H3 fun z H4 => ∃ H5, DPut H4 a y z H5 ∧ D.nx σ H5
/-- del d[y] -/
def sDDel (td ty : TE) : TS := fun D σ H => td σ H fun x H1 => ty σ H1 fun y H2 => ∃ a kvs k, x = .ref a ∧ H2 a = some (.dK kvs) ∧ y = kV k ∧ (valV kvs k).isSome = true ∧ D.nx σ (upd H2 a (.dK (dropK kvs k)))

section
variable {X : Cx} {o i e value : Expr} {pos pos' tpos : Pos} {td ty tv : TE}
end


/-- {}, to be a dict of the kind that is wanted -/
def tDNewK : TE := fun _ H Q => ∀ p, H p = none → Q (.ref p) (upd H p (.dK []))
def tDNewT : TE := fun _ H Q => ∀ p, H p = none → Q (.ref p) (upd H p (.dT []))
section
variable {X : Cx} {pos : Pos}
end

/-- the pairs of a display, from the left -/
def tPairs : List (TE × TE) → St → Hp → (List (V × V) → Hp → Prop) → Prop
  | [], _, H, Q => Q [] H
  | (tk, tv) :: r, σ, H, Q => tk σ H fun x H1 => tv σ H1 fun y H2 => tPairs r σ H2 fun ps H3 => Q ((x, y) :: ps) H3
abbrev VV : List (V × V) → List (Value × Value) → Prop := Paired fun p q => RelV p.1 q.1 ∧ RelV p.2 q.2
def PPs (X : Cx) (pos : Pos) (keys : List (Option Expr)) (values : List Expr) (trs : List (TE × TE)) : Prop :=
  ∀ (pins : List (Addr × Obj)) (s : Shared) (σ : St) (H : Hp) (Q : List (V × V) → Hp → Prop), Inv X pins σ H s → tPairs trs σ H Q →
    wpAny (model X.prog X.w) X.A (evalPairs (pairTrees keys values X.env pos)) (fun vs s' => ∃ ps H', Inv X pins σ H' s' ∧ VV ps vs ∧ Q ps H') X.xe s
def mergeK (kvs more : List (Key × V)) : List (Key × V) := more.foldl (fun acc kv => putK acc kv.1 kv.2) kvs
/-- {k: v, ..} with keys ints and texts; the new dict stands empty while the pairs are made -/
def tDisp (trs : List (TE × TE)) : TE := fun σ H Q => ∀ p, H p = none → tPairs trs σ (upd H p (.dK [])) fun ps H2 => H2 p = some (.dK []) ∧ ∃ kvs : List (Key × V), ps = kvs.map (fun kv => (kV kv.1, kv.2)) ∧ kvs.length ≤ 15 ∧ Q (.ref p) (upd H2 p (.dK (mergeK [] kvs)))
/-! ### methods -/
/-- a method call o.m(e) of a built-in, with one argument: what must be seen of the text -/
structure M1 (X : Cx) (o : Expr) (m : Str) (apos : Pos) (e : Expr) (cpos : Pos) : Prop where
  base : attributeBase o m X.env (eval o X.env) = eval o X.env
  few : ((backTo cpos (starEach [e] X.env)).all (fun x => !x.1) && (backToKw cpos (keywordEach [] X.env)).all (fun x => x.1.isSome)
    && decide (([e] : List Expr).length + ([] : List Keyword).length + (if ([] : List Keyword).isEmpty then 0 else 1) < 30)) = true
  line : (apos.endLine == cpos.line) = true
  trees : backTo cpos (starEach [e] X.env) = [(false, eval e X.env)]
structure M2 (X : Cx) (o : Expr) (m : Str) (apos : Pos) (e f : Expr) (cpos : Pos) : Prop where
  base : attributeBase o m X.env (eval o X.env) = eval o X.env
  few : ((backTo cpos (starEach [e, f] X.env)).all (fun x => !x.1) && (backToKw cpos (keywordEach [] X.env)).all (fun x => x.1.isSome)
    && decide (([e, f] : List Expr).length + ([] : List Keyword).length + (if ([] : List Keyword).isEmpty then 0 else 1) < 30)) = true
  line : (apos.endLine == cpos.line) = true
  trees : backTo cpos (starEach [e, f] X.env) = [(false, eval e X.env), (false, eval f X.env)]

/-- a is a dict, whatever its keys -/
def IsD (H : Hp) (a : Addr) : Prop := (∃ kvs, Rd H a (.dK kvs)) ∨ ∃ kvs, Rd H a (.dT kvs)
section
variable {X : Cx} {pins : List (Addr × Obj)} {σ : St} {H : Hp} {s : Shared} {a : Addr} {y d : V} {u r : Value} {o : Option V} {A : Around} {E : Value → Shared → Prop}
end

def tDGet1 (td ty : TE) : TE := fun σ H Q => td σ H fun x H1 => ∃ a, x = .ref a ∧ IsD H1 a ∧ ty σ H1 fun y H2 => ∃ o, DGet H2 a y o ∧ Q (o.getD .non) H2
def tDGet2 (td ty tx : TE) : TE := fun σ H Q => td σ H fun x H1 => ∃ a, x = .ref a ∧ IsD H1 a ∧ ty σ H1 fun y H2 => tx σ H2 fun z H3 => ∃ o, DGet H3 a y o ∧ Q (o.getD z) H3
/-- d.pop(k): there; d.pop(k, x): there or not -/
def tDPop1 (td ty : TE) : TE := fun σ H Q => td σ H fun x H1 => ∃ a, x = .ref a ∧ IsD H1 a ∧ ty σ H1 fun y H2 => ∃ kvs k v, H2 a = some (.dK kvs) ∧ y = kV k ∧ valV kvs k = some v ∧ Q v (upd H2 a (.dK (dropK kvs k)))
def tDPop2 (td ty tx : TE) : TE := fun σ H Q => td σ H fun x H1 => ∃ a, x = .ref a ∧ IsD H1 a ∧ ty σ H1 fun y H2 => tx σ H2 fun z H3 => ∃ kvs k, H3 a = some (.dK kvs) ∧ y = kV k ∧
  (∀ v, valV kvs k = some v → Q v (upd H3 a (.dK (dropK kvs k)))) ∧ (valV kvs k = none → Q z H3)
section
variable {X : Cx} {o e f : Expr} {apos cpos : Pos} {td ty tx : TE}
end

/-! ### dict(d): a copy -/
section
variable {X : Cx} {pins : List (Addr × Obj)} {σ : St} {H : Hp} {s : Shared} {a : Addr} {kvs : List (Key × V)} {A : Around} {E : Value → Shared → Prop}
end


section
variable {X : Cx} {pins : List (Addr × Obj)} {σ : St} {H : Hp} {s : Shared} {a : Addr} {y : V} {u : Value} {A : Around} {E : Value → Shared → Prop}
end
end L2

set_option maxHeartbeats 4000000
namespace L2
open PySem PySem.Spec PyProof.Rows

/-! ### a list comprehension of one clause -/
structure CompScope (N : List Str) (esc : Scope) (own : List Str) (caps : List Nat) (N' : List Str) (sc : Scope) : Prop where
  kind : sc.kind = .function
  ndn : (sc.names.map (·.1)).Nodup
  uniq : ∀ y ∈ sc.names, y.2 = .local → sc.names.lookup y.1 = some .local
  nd : N'.Nodup
  eqN : N' = own ++ caps.map fun j => N.getD j ""
  cap : ∀ j ∈ caps, j < N.length ∧ sc.names.lookup (N.getD j "") = some .free
  fr : ∀ y ∈ sc.names, y.2 = .free → esc.names.lookup y.1 = some .cell ∨ esc.names.lookup y.1 = some .free

def capS (own : List Str) (caps : List Nat) (σ : St) : St := List.replicate own.length none ++ caps.map fun j => (σ[j]?).join

theorem closure_go {env : Env} : ∀ (names : List (Str × NameKind)) (acc : List (Str × Addr)), (∀ y ∈ names, y.2 = .free → ∃ c, env.cells.lookup y.1 = some c) → (∀ y c, acc.lookup y = some c → env.cells.lookup y = some c) →
    ∃ cl, (forIn names acc (fun x r => if (x.2 == NameKind.free) = true then (do let c ← cellOf env x.1; pure (ForInStep.yield ((x.1, c) :: r))) else pure (ForInStep.yield r)) : Sem (List (Str × Addr))) = pure cl ∧
      (∀ y c, cl.lookup y = some c → env.cells.lookup y = some c) ∧ (∀ y, (∃ c, acc.lookup y = some c) → ∃ c, cl.lookup y = some c) ∧ ∀ y ∈ names, y.2 = .free → ∃ c, cl.lookup y.1 = some c
  | [], acc, _, ha => ⟨acc, rfl, ha, fun _ h => h, fun _ h => absurd h (by simp)⟩
  | (n, k) :: r, acc, hn, ha => by
    rw [List.forIn_cons]
    by_cases hk : k = .free
    · subst hk
      obtain ⟨c, hc⟩ := hn (n, .free) List.mem_cons_self rfl
      have ha' : ∀ y d, ((n, c) :: acc).lookup y = some d → env.cells.lookup y = some d := fun y d e => by
        rw [List.lookup_cons] at e
        cases q : y == n with
        | true => rw [q] at e; cases e; rw [beq_iff_eq.mp q]; exact hc
        | false => rw [q] at e; exact ha y d e
      obtain ⟨cl, e, h1, h2, h3⟩ := closure_go r ((n, c) :: acc) (fun y hy => hn y (List.mem_cons_of_mem _ hy)) ha'
      have hh : ∀ y, (∃ d, acc.lookup y = some d) → ∃ d, ((n, c) :: acc).lookup y = some d := fun y ⟨d, hd⟩ => by
        rw [List.lookup_cons]
        cases q : y == n with
        | true => exact ⟨c, rfl⟩
        | false => exact ⟨d, hd⟩
      have hs : ∃ d, ((n, c) :: acc).lookup n = some d := ⟨c, by rw [List.lookup_cons, beq_self_eq_true]⟩
      refine ⟨cl, ?_, h1, fun y hy => h2 y (hh y hy), fun y hy hf => ?_⟩
      · have hcell : cellOf env n = pure c := by simp only [cellOf, hc]
        simp only [beq_self_eq_true, if_true, hcell]
        simp only [pure_bind]
        exact e
      · rcases List.mem_cons.mp hy with rfl | hy
        · exact h2 _ hs
        · exact h3 y hy hf
    · obtain ⟨cl, e, h1, h2, h3⟩ := closure_go r acc (fun y hy => hn y (List.mem_cons_of_mem _ hy)) ha
      refine ⟨cl, ?_, h1, h2, fun y hy hf => ?_⟩
      · have hb : (k == NameKind.free) = false := by simpa using hk
        simp only [hb, Bool.false_eq_true, if_false, pure_bind]
        exact e
      · rcases List.mem_cons.mp hy with rfl | hy
        · exact absurd hf hk
        · exact h3 y hy hf
theorem closure_of {scope : Scope} {env : Env} (h : ∀ y ∈ scope.names, y.2 = .free → ∃ c, env.cells.lookup y.1 = some c) :
    ∃ cl, closureFor scope env = pure cl ∧ (∀ y c, cl.lookup y = some c → env.cells.lookup y = some c) ∧ ∀ y ∈ scope.names, y.2 = .free → ∃ c, cl.lookup y.1 = some c := by
  obtain ⟨cl, e, h1, _, h3⟩ := closure_go (env := env) scope.names [] h (fun y c e => by simp at e)
  refine ⟨cl, ?_, h1, h3⟩
  have q : closureFor scope env = ((forIn scope.names ([] : List (Str × Addr)) (fun x r => if (x.2 == NameKind.free) = true then (do let c ← cellOf env x.1; pure (ForInStep.yield ((x.1, c) :: r))) else pure (ForInStep.yield r)) : Sem (List (Str × Addr))) >>= fun cs => pure cs) := rfl
  rw [q, e]
  rfl

theorem mem_of_lookup' {names : List (Str × NameKind)} {x : Str} {k : NameKind} (h : names.lookup x = some k) : (x, k) ∈ names := PySem.mem_of_lookup h

/-- what relabel does to a kind -/
theorem lookup_relabel {env : Env} {x : Str} : ∀ {names : List (Str × NameKind)} {k : NameKind},
    (names.map fun (n, k) => if (k == NameKind.free && env.scope.kind == .function && env.kindOf n == some .cell) then (n, NameKind.cell) else (n, k)).lookup x = some k →
    names.lookup x = some k ∨ (k = .cell ∧ names.lookup x = some .free)
  | [], _, h => by simp at h
  | (n, k0) :: r, k, h => by
    have ih := @lookup_relabel env x r k
    have h : List.lookup x ((if (k0 == NameKind.free && env.scope.kind == .function && env.kindOf n == some .cell) = true then (n, NameKind.cell) else (n, k0)) :: _) = some k := h
    rw [List.lookup_cons]
    by_cases hc : (k0 == NameKind.free && env.scope.kind == .function && env.kindOf n == some .cell) = true
    · rw [if_pos hc, List.lookup_cons] at h
      have hk0 : k0 = .free := by
        simp only [Bool.and_eq_true, beq_iff_eq] at hc
        exact hc.1.1
      cases q : x == n with
      | true => rw [q] at h; cases h; right; exact ⟨rfl, by rw [hk0]⟩
      | false => rw [q] at h; exact ih h
    · rw [if_neg hc, List.lookup_cons] at h
      cases q : x == n with
      | true => rw [q] at h; cases h; left; rfl
      | false => rw [q] at h; exact ih h

section
variable {X : Cx}
/-- the comprehension's own context: nothing is raised there -/
def cellB (scope : Scope) (x : Str) : Bool := scope.names.any fun y => y.1 == x && (match y.2 with | .cell => true | _ => false)
theorem cellB_mem {scope : Scope} {x : Str} (h : cellB scope x = true) : (x, NameKind.cell) ∈ scope.names := by
  unfold cellB at h
  obtain ⟨⟨n, k⟩, hm, hy⟩ := List.any_eq_true.mp h
  rw [Bool.and_eq_true] at hy
  obtain ⟨h1, h2⟩ := hy
  have e : n = x := by simpa using h1
  subst e
  cases k <;> first | exact hm | cases h2
theorem nd_lookup {x : Str} {k : NameKind} : ∀ {names : List (Str × NameKind)}, (names.map (·.1)).Nodup → (x, k) ∈ names → names.lookup x = some k
  | [], _, h => by cases h
  | (n, k0) :: r, nd, h => by
    rw [List.map_cons, List.nodup_cons] at nd
    rw [List.lookup_cons]
    rcases List.mem_cons.mp h with e | h
    · cases e
      simp
    · have : (x == n) = false := by
        refine Bool.eq_false_iff.mpr fun z => nd.1 ?_
        rw [← beq_iff_eq.mp z]
        exact List.mem_map.mpr ⟨_, h, rfl⟩
      rw [this]
      exact nd_lookup nd.2 h
theorem cells_app : ∀ (names : List (Str × NameKind)) (n : Nat) (acc : List (Str × Addr)), cellsFrom n names acc = cellsFrom n names [] ++ acc
  | [], n, acc => rfl
  | (x, k) :: r, n, acc => by
    unfold cellsFrom
    by_cases hk : (k == NameKind.cell) = true
    · rw [if_pos hk, if_pos hk, cells_app r (n + 1) ((x, n) :: acc), cells_app r (n + 1) [(x, n)], List.append_assoc]
      rfl
    · rw [if_neg hk, if_neg hk, cells_app r n acc]
theorem cells_mem {x : Str} {c : Addr} : ∀ (names : List (Str × NameKind)) (n : Nat) (acc : List (Str × Addr)), (x, c) ∈ cellsFrom n names acc → (x, NameKind.cell) ∈ names ∨ (x, c) ∈ acc
  | [], n, acc, h => .inr h
  | (y, k) :: r, n, acc, h => by
    unfold cellsFrom at h
    by_cases hk : (k == NameKind.cell) = true
    · rw [if_pos hk] at h
      rcases cells_mem r (n + 1) _ h with z | z
      · exact .inl (List.mem_cons_of_mem _ z)
      · rcases List.mem_cons.mp z with e | z
        · cases e
          have : k = .cell := by cases k <;> first | rfl | cases hk
          rw [this]
          exact .inl List.mem_cons_self
        · exact .inr z
    · rw [if_neg hk] at h
      rcases cells_mem r n _ h with z | z
      · exact .inl (List.mem_cons_of_mem _ z)
      · exact .inr z
theorem newEnvX {M : Model} {A : Around} {E : Value → Shared → Prop} {s : Shared} {scope : Scope} {globals : Addr} {cl : List (Str × Addr)} {qual : Str} {around : Env} {Q : Env → Shared → Prop}
    (hQ : Q (newEnv scope s.heap.objs.size globals (cellsFrom (s.heap.objs.size + 1) scope.names cl) qual none .none (some around) builtinsNs) { s with heap := pushCells (s.heap.push { cls := .type "dict", data := .dict #[] }) scope.names }) :
    wpAny M A (newFunctionEnv scope globals cl [] qual none .none (some around)) Q E s := by
  unfold newFunctionEnv
  refine wpAny_bind (wpAny_alloc ?_)
  refine wpAny_bind (wpAny_layCells _ (fun name kind cells => by cases hkc : kind == NameKind.cell <;> simp [hkc]) _ _ _ _ ?_)
  rw [show ({ s with heap := s.heap.push { cls := .type (if (some around).isSome = true then "dict" else "frame"), data := .dict #[] } } : Shared).heap.objs.size = s.heap.objs.size + 1 from Heap.size_push ..]
  exact wpAny_bind (by rw [List.forIn_nil]; exact wpAny_pure (wpAny_pure hQ))
def compCx (X : Cx) (scope : Scope) (cl : List (Str × Addr)) (N' : List Str) (C : Addr) (s : Shared) (H : Hp) (ex : List Addr) : Cx :=
  { X with N := N', s₀ := s, H₀ := H, env := compEnvC scope cl C X.env, outer := X.stack, ex := ex, fn := cellB scope, pn := [], xe := fun _ _ => False }

/-- what is asked of a comprehension behind its iterator: D the list that is filled -/
def CompK (own : List Str) (caps : List Nat) (g : TG) (tc : TT) (te : TE) (σ : St) (Q : VK) (J : It) (H1 : Hp) : Prop := ∀ D, H1 D = none →
  ∃ W : Nat → Nat → St → Hp → Prop, (∃ m, W 0 m (capS own caps σ) (upd H1 D (.lst []))) ∧ ∀ i m σ' H', W i m σ' H' →
    (J.stop i H' ∧ Q (.ref D) H') ∨ (J.go i H' ∧ ∃ N : St → Hp → Prop, (∀ σ2 H2, N σ2 H2 → ∃ m', m' < m ∧ W (i + 1) m' σ2 H2) ∧ ∀ x H2, J.yld i H' x H2 → g x σ' H2 fun σ3 H3 => tc σ3 H3 fun b H4 =>
      if b = true then te σ3 H4 fun v H5 => ∃ xs, H5 D = some (.lst xs) ∧ xs.length < sizeLine ∧ N σ3 (upd H5 D (.lst (xs ++ [v]))) else N σ3 H4)
/-- the reading: tc the test (tTrue without one) -/
def tComp (own : List Str) (caps : List Nat) (wi : TI) (g : TG) (tc : TT) (te : TE) : TE := fun σ H Q => wi σ H fun J H1 => CompK own caps g tc te σ Q J H1
def tTrue : TT := fun _ H Q => Q true H

/-- the tests of a comprehension -/
def PIf (X : Cx) (ifs : List Expr) (t : TT) : Prop :=
  ∀ (pins : List (Addr × Obj)) (s : Shared) (σ : St) (H : Hp) (Q : Bool → Hp → Prop), Inv X pins σ H s → t σ H Q →
    wpAny (model X.prog X.w) X.A (forIn ifs true fun c r => if r = true then do let ok ← isTrue c X.env (eval c X.env); pure (ForInStep.yield ok) else pure (ForInStep.yield r)) (TP X pins σ Q) X.xe s
theorem pif_nil : PIf X [] tTrue := fun _ _ _ H _ I h => wpAny_tests_nil ⟨H, I, h⟩
theorem pif_one {c : Expr} {t : TT} (h : PT X c t) : PIf X [c] t := fun pins s σ H Q I q => wpAny_tests_one (h pins s σ H Q I q)

theorem codeAny_compLoop_gen {prog : Program} {w : World} {A : Around} {R : Result → Shared → Prop} {s : Shared} {elt target iter : Expr} {ifs : List Expr} {scope : Scope} {pos : Pos} {it acc : Value} {env : Env} (I : Nat → Shared → Prop)
    (turn : ∀ n s, I n s → wpAny (model prog w) A (pyNext it) (fun r s₁ => match r with
      | none => R (.ok .next) s₁
      | some v => wpAny (model prog w) A (letOwnedTupleGo target it v) (fun _ s₁' => wpAny (model prog w) A (assign target env v) (fun _ s₂ =>
          wpAny (model prog w) A (forIn ifs true fun c r => if r = true then do let ok ← isTrue c env (eval c env); pure (ForInStep.yield ok) else pure (ForInStep.yield r)) (fun ok s₃ =>
            if ok = true then wpAny (model prog w) A (eval elt env) (fun x s₄ =>
              wpAny (model prog w) A (call (.builtin "list.append") [acc, x]) (fun _ s₅ => ∃ m, m < n ∧ I m s₅) (fun _ _ => False) s₄) (fun _ _ => False) s₃
            else ∃ m, m < n ∧ I m s₃) (fun _ _ => False) s₂) (fun _ _ => False) s₁') (fun _ _ => False) s₁) (fun _ _ => False) s)
    (n : Nat) (h : I n s) :
    codeAny (model prog w) A (.compLoop (.ListComp elt [⟨target, iter, ifs, 0⟩] scope pos) 0 it acc env) R s := by
  refine codeAny_loop rfl I (fun n s hI => ?_) n h
  show wpAny _ A ((compTurn (.ListComp elt [⟨target, iter, ifs, 0⟩] scope pos) 0 it acc env).onRaise (fun x => do noteFrame x env; theTreesLotGoes x)) _ _ s
  refine wpAny_noted ?_
  rw [compTurn_list]
  refine wpAny_bind (wpAny_standAt (wpAny_bind (wpAny_mono (turn n s hI) (fun r s₁ h₁ => ?_) fun _ _ h' => h'.elim)))
  cases r with
  | none => exact wpAny_pure h₁
  | some v =>
    refine wpAny_bind (wpAny_mono h₁ (fun _ s₁' h₁' => ?_) fun _ _ h' => h'.elim)
    refine wpAny_bind (wpAny_mono h₁' (fun _ s₂ h₂ => wpAny_bind (wpAny_mono h₂ (fun ok s₃ h₃ => ?_) fun _ _ h' => h'.elim)) fun _ _ h' => h'.elim)
    cases ok with
    | false => exact wpAny_pure ⟨rfl, h₃⟩
    | true =>
      exact wpAny_bind (wpAny_bind (wpAny_mono h₃ (fun x s₄ h₄ => wpAny_bind (wpAny_mono h₄ (fun _ s₅ h₅ => wpAny_pure (wpAny_pure ⟨rfl, h₅⟩)) fun _ _ h' => h'.elim)) fun _ _ h' => h'.elim))

/-- the block behind the iterator: the new list, the new names, the loop -/
theorem comp_block {own : List Str} {caps : List Nat} {N' : List Str} {esc scope : Scope} {elt iter tg : Expr} {ifs : List Expr} {pos : Pos} {g : TG} {tc : TT} {te : TE} {cl : List (Str × Addr)}
    (hesc : X.env.scope = esc) (S : CompScope X.N esc own caps N' scope) (hc : X.calm = true)
    (hcl1 : ∀ y c, cl.lookup y = some c → X.env.cells.lookup y = some c) (hcl2 : ∀ y ∈ scope.names, y.2 = .free → ∃ c, cl.lookup y.1 = some c)
    (hg : ∀ cl C s H ex, PG (compCx X scope cl N' C s H ex) tg g) (ht : ∀ cl C s H ex, PIf (compCx X scope cl N' C s H ex) ifs tc) (he : ∀ cl C s H ex, PE (compCx X scope cl N' C s H ex) elt te)
    {pins : List (Addr × Obj)} {σ : St} {H2 : Hp} {s2 : Shared} {it : Addr} {fp : List Addr} {tn : Nat → Heap → Prop} {J : It} {Q : VK} {RR : Value → Addr → Result → Shared → Prop} {E : Value → Shared → Prop}
    (I2 : Inv X pins σ H2 s2) (T : Turn X.prog X.w X.K tg J fp it tn) (st2 : tn 0 s2.heap) (f2 : ∀ b ∈ fp, FpOk X pins H2 b)
    (h : CompK own caps g tc te σ Q J H2)
    (hRR : ∀ D C s' m H', s'.heap.Ns C m → C ≠ X.env.locals → (∀ x c, X.env.cells.lookup x = some c → c ≠ C) → X.s₀.heap.objs.size ≤ C → (∀ p ∈ X.pn ++ pins, p.1 ≠ C) → H' C = none → Q (.ref D) H' → (∀ h', Heap.SameBut C s'.heap h' → Inv X pins σ H' { s' with heap := h' }) → RR (.ref D) C (.ok .next) s') :
    wpAny (model X.prog X.w) X.A (newList []) (fun acc s₃ => wpAny (model X.prog X.w) X.A (newFunctionEnv scope X.env.globals cl [] X.env.qual none .none (some X.env)) (fun cenv s₄ =>
      codeAny (model X.prog X.w) X.A (.compStart (.ListComp elt [⟨tg, iter, ifs, 0⟩] scope pos) 0 (.ref it) acc { cenv with scope := relabel scope X.env }) (RR acc cenv.locals) s₄) E s₃) E s2 := by
  refine wpAny_newObj_type (newEnvX ?_)
  dsimp only
  have hD : H2 s2.heap.objs.size = none := I2.hok.fresh (Nat.le_refl _)
  obtain ⟨W, ⟨m0, w0⟩, turn⟩ := h _ hD
  generalize hH3 : s2.heap.push { cls := .type "list", dict := none, data := .seq ([] : List Value).toArray } = g3
  have hC : g3.objs.size = s2.heap.objs.size + 1 := by rw [← hH3, Heap.size_push]
  have old3 : ∀ b o, s2.heap.get? b = some o → g3.get? b = some o := fun b o e => hH3 ▸ Heap.get?_push_of_some _ e
  have I3 : Inv X pins σ (upd H2 s2.heap.objs.size (.lst [])) { s2 with heap := g3, toks := s2.toks } :=
    I2.laid (t' := s2.toks) old3 (Nat.le_refl _) ⟨Nat.zero_le _, [], 0, .nil, hH3 ▸ Heap.get?_push_size _ rfl⟩
  generalize hh1 : pushCells (g3.push { cls := .type "dict", data := .dict #[] }) scope.names = h₁
  have k1 : ∀ b o, g3.get? b = some o → h₁.get? b = some o := fun b o e => hh1 ▸ pushCells_keeps _ _ b o (Heap.get?_push_of_some _ e)
  have hns₁ : h₁.Ns g3.objs.size (fun _ => none) := hh1 ▸ (Heap.Ns.new g3 (.type "dict")).keeps (pushCells_keeps _ _)
  have okA : CellsOk h₁ (g3.objs.size + 1) (cellsFrom (g3.objs.size + 1) scope.names []) := by
    have q := cellsFrom_ok scope.names (g3.push { cls := .type "dict", data := .dict #[] }) (g3.objs.size + 1) [] ⟨fun _ _ hm => (nomatch hm), List.Pairwise.nil⟩ (by rw [Heap.size_push]; exact Nat.le_refl _)
    rw [Heap.size_push, hh1] at q
    exact q
  have hcl' : cellsFrom (g3.objs.size + 1) scope.names cl = cellsFrom (g3.objs.size + 1) scope.names [] ++ cl := cells_app _ _ _
  have hsomeA : ∀ y, scope.names.lookup y = some .cell → ∃ c, (cellsFrom (g3.objs.size + 1) scope.names []).lookup y = some c := fun y hy => Option.isSome_iff_exists.mp (PySem.W.cellsFrom_some scope.names (g3.objs.size + 1) [] (.inl hy))
  generalize hcA : cellsFrom (g3.objs.size + 1) scope.names [] = cA at okA hcl' hsomeA
  have memA : ∀ y c, cA.lookup y = some c → (y, NameKind.cell) ∈ scope.names := fun y c e => by
    have := PySem.mem_of_lookup e
    rw [← hcA] at this
    rcases cells_mem _ _ _ this with z | z
    · exact z
    · cases z
  generalize hcE : cellsFrom (g3.objs.size + 1) scope.names cl = cE at hcl'
  have lkE : ∀ y c, cE.lookup y = some c → cA.lookup y = some c ∨ (cA.lookup y = none ∧ cl.lookup y = some c) := fun y c e => by
    rw [hcl', List.lookup_append] at e
    cases q : cA.lookup y with
    | none => rw [q] at e; exact .inr ⟨rfl, by simpa using e⟩
    | some c' => rw [q] at e; exact .inl (by simpa using e)
  have lkF : ∀ y c, scope.names.lookup y = some .free → cl.lookup y = some c → cE.lookup y = some c := fun y c hy e => by
    rw [hcl', List.lookup_append]
    cases q : cA.lookup y with
    | none => simpa using e
    | some c' =>
      have := nd_lookup S.ndn (memA y c' q)
      rw [hy] at this
      cases this
  have fpn : ∀ b ∈ fp, upd H2 s2.heap.objs.size (.lst []) b = none := fun b hb => by
    obtain ⟨o, ho, _⟩ := T.obj _ _ st2 b hb
    rw [upd_ne (Nat.ne_of_lt (Heap.lt_size ho))]
    exact (f2 b hb).1
  have fplt : ∀ b ∈ fp, b < g3.objs.size := fun b hb => by
    obtain ⟨o, ho, _⟩ := T.obj _ _ st2 b hb
    rw [hC]; exact Nat.lt_succ_of_lt (Heap.lt_size ho)
  -- the inner context
  generalize hX' : compCx X scope cE N' g3.objs.size { s2 with heap := g3, toks := s2.toks } (upd H2 s2.heap.objs.size (.lst [])) fp = X'
  have hfs : X'.fs = frs X.stack := by rw [← hX']; rfl
  have kindL : ∀ y, X'.env.kindOf y = some .cell ∨ X'.env.kindOf y = some .free → ∃ c, cE.lookup y = some c := fun y hy => by
    have hy' : (relabel scope X.env).names.lookup y = some .cell ∨ (relabel scope X.env).names.lookup y = some .free := by rw [← hX'] at hy; exact hy
    have hf : scope.names.lookup y = some .free → ∃ c, cE.lookup y = some c := fun hf => by
      obtain ⟨c, hc'⟩ := hcl2 _ (mem_of_lookup' hf) rfl
      exact ⟨c, lkF y c hf hc'⟩
    have hcc : scope.names.lookup y = some .cell → ∃ c, cE.lookup y = some c := fun hf => by
      obtain ⟨c, hc'⟩ := hsomeA y hf
      exact ⟨c, by rw [hcl', List.lookup_append, hc']; rfl⟩
    rcases hy' with q | q
    · rcases lookup_relabel q with z | z
      · exact hcc z
      · exact hf z.2
    · rcases lookup_relabel q with z | z
      · exact hf z
      · exact absurd z.1 (by decide)
  have cellsX : X'.env.cells = cE := by rw [← hX']; rfl
  have locX : X'.env.locals = g3.objs.size := by rw [← hX']; rfl
  have cne : ∀ x c, cl.lookup x = some c → c ≠ g3.objs.size ∧ c < g3.objs.size := fun x c e => by
    obtain ⟨v, q⟩ := I3.cell x c (hcl1 x c e)
    exact ⟨Nat.ne_of_lt q.lt, q.lt⟩
  have aboveA : ∀ x c, cA.lookup x = some c → g3.objs.size + 1 ≤ c := fun x c e => (okA.empty x c (PySem.mem_of_lookup e)).2
  have injE : ∀ x y c, cE.lookup x = some c → cE.lookup y = some c → x = y := fun x y c a b => by
    rcases lkE x c a with a | ⟨_, a⟩ <;> rcases lkE y c b with b | ⟨_, b⟩
    · exact name_of_addr okA.apart (PySem.mem_of_lookup a) (PySem.mem_of_lookup b)
    · have h1 : g3.objs.size + 1 ≤ c := aboveA x c a
      exact absurd (Nat.lt_of_lt_of_le (cne y c b).2 (Nat.le_of_succ_le h1)) (Nat.lt_irrefl _)
    · have h1 : g3.objs.size + 1 ≤ c := aboveA y c b
      exact absurd (Nat.lt_of_lt_of_le (cne x c a).2 (Nat.le_of_succ_le h1)) (Nat.lt_irrefl _)
    · exact I3.ok.inj x y c (hcl1 x c a) (hcl1 y c b)
  have ok' : X'.Ok := by
    refine hX' ▸ ⟨I3.ok.mod, S.kind, I3.ok.glob, I3.ok.blt, Nat.le_refl _, injE, ?_, ?cab, I3.ok.hd, I3.ok.frames, .inl rfl, ?_, ?_, ?_, ?_, ?_, I3.stack, I3.stkFree⟩
    · intro y hy
      exact kindL y (by rw [← hX']; exact hy)
    · intro x c z e
      have hm := nd_lookup S.ndn (cellB_mem z)
      rcases lkE x c e with e | ⟨n, _⟩
      · exact Nat.le_of_succ_le (aboveA x c e)
      · obtain ⟨c', hc'⟩ := hsomeA x hm
        rw [n] at hc'
        cases hc'
    · intro b hb
      refine ⟨Nat.ne_of_lt (fplt b hb), fun x c e => ?_⟩
      rcases lkE x c e with e | ⟨_, e⟩
      · have h1 : g3.objs.size + 1 ≤ c := aboveA x c e
        exact fun z => absurd (Nat.lt_of_lt_of_le (fplt b hb) (Nat.le_of_succ_le h1)) (by rw [z]; exact Nat.lt_irrefl _)
      · exact (f2 b hb).2.2.2.2.1 x c (hcl1 x c e)
    · exact I3.bs
    · exact Nat.le_trans I3.ok.bsz I3.sz
    · intro b o e hb
      rcases (f2 b hb).2.2.2.1 with z | z
      · exact I3.ok.noex b o e z
      · exact absurd (Nat.lt_of_lt_of_le (Heap.lt_size e) (Nat.le_trans I3.ok.bsz z)) (Nat.lt_irrefl _)
    · intro b hb z
      rcases List.mem_cons.mp (I3.stkSub b z) with e | e
      · exact (f2 b hb).2.1 e
      · exact (f2 b hb).2.2.1 e
  have I4 : Inv X' [] (capS own caps σ) (upd H2 s2.heap.objs.size (.lst [])) { s2 with heap := h₁, toks := s2.toks } := by
    refine ⟨ok', hX' ▸ rfl, I3.bare, ?_, ⟨_, by rw [locX]; exact hns₁, ?_⟩, ?_, ?_, ?_, ?_, ?_, ?_⟩
    · rw [← hX']; exact Un.kept k1
    · intro i x v hN hσ hV
      have hN' : N'[i]? = some x := by rw [← hX'] at hN; exact hN
      unfold capS at hσ
      by_cases hi : i < own.length
      · rw [List.getElem?_append_left (by simpa using hi), List.getElem?_replicate] at hσ
        rw [if_pos hi] at hσ; cases hσ
      · rw [List.getElem?_append_right (by simpa using hi), List.length_replicate, List.getElem?_map] at hσ
        rw [S.eqN, List.getElem?_append_right (by omega), List.getElem?_map] at hN'
        cases hj : caps[i - own.length]? with
        | none => rw [hj] at hσ; cases hσ
        | some j =>
          rw [hj] at hσ hN'
          have hx : X.N.getD j "" = x := Option.some.inj hN'
          obtain ⟨hjl, hjf⟩ := S.cap j (List.mem_of_getElem? hj)
          rw [hx] at hjf
          have hjN : X.N[j]? = some x := by
            rw [List.getElem?_eq_getElem hjl, ← hx, List.getD_eq_getElem?_getD, List.getElem?_eq_getElem hjl]; rfl
          have hv : σ[j]? = some (some v) := by
            have q : (σ[j]?).join = some v := Option.some.inj hσ
            cases q' : σ[j]? with
            | none => rw [q'] at q; cases q
            | some o => rw [q'] at q; rw [show o = some v from q]
          have hkX := S.fr (x, .free) (mem_of_lookup' hjf) rfl
          rw [← hesc] at hkX
          obtain ⟨m, hn, hl⟩ := I3.loc
          have visX : Vis X.env.scope x := hkX.elim (fun z => .inr (.inl z)) fun z => .inr (.inr z)
          obtain ⟨u, ru, look⟩ := hl j x v hjN hv visX
          refine ⟨u, ru, ?_⟩
          obtain ⟨c, hcc⟩ := hcl2 (x, .free) (mem_of_lookup' hjf) rfl
          rcases look with ⟨a, _⟩ | ⟨_, c', hc', hcell⟩
          · rcases hkX with z | z
            · rw [show X.env.kindOf x = X.env.scope.names.lookup x from rfl, z] at a; cases a
            · rw [show X.env.kindOf x = X.env.scope.names.lookup x from rfl, z] at a; cases a
          · have : c' = c := by rw [hcl1 _ _ hcc] at hc'; cases hc'; rfl
            subst this
            refine .inr ⟨?_, c', by rw [cellsX]; exact lkF _ _ hjf hcc, hcell.keeps k1⟩
            rcases hV with q | q | q
            · have q' : (relabel scope X.env).names.lookup x = some .local := by rw [← hX'] at q; exact q
              rcases lookup_relabel q' with z | z
              · rw [hjf] at z; cases z
              · exact absurd z.1 (by decide)
            · exact .inl q
            · exact .inr q
    · intro x c e
      rw [cellsX] at e
      rcases lkE x c e with e | ⟨_, e⟩
      · exact ⟨_, (okA.empty x c (PySem.mem_of_lookup e)).1⟩
      · obtain ⟨v, q⟩ := I3.cell x c (hcl1 x c e)
        exact ⟨v, q.keeps k1⟩
    · rw [locX]; exact I3.hok.fresh (Nat.le_refl _)
    · intro x c e
      rw [cellsX] at e
      rcases lkE x c e with e | ⟨_, e⟩
      · exact I3.hok.fresh (Nat.le_of_succ_le (aboveA x c e))
      · exact I3.freeC x c (hcl1 x c e)
    · intro p hp
      have : p ∈ ([] : List (Addr × Obj)) := by rw [← hX'] at hp; exact hp
      cases this
    · rw [← hX']; exact I3.hok.kept k1
    · rw [← hX']
      show (capS own caps σ).length = N'.length
      unfold capS
      rw [S.eqN, List.length_append, List.length_append, List.length_replicate, List.length_map, List.length_map]
  have pX : X'.prog = X.prog := by rw [← hX']; rfl
  have wX : X'.w = X.w := by rw [← hX']; rfl
  have KX : X'.K = X.K := by rw [← hX']; rfl
  have AX : X'.A = X.A := by rw [← hX']; rfl
  have cX : X'.calm = true := by rw [← hX']; exact hc
  have xX : X'.xe = fun _ _ => False := by rw [← hX']; rfl
  have envX : X'.env = compEnvC scope cE g3.objs.size X.env := by rw [← hX']; rfl
  have exX : X'.ex = fp := by rw [← hX']; rfl
  have hg' : PG X' tg g := hX' ▸ hg _ _ _ _ _
  have ht' : PIf X' ifs tc := hX' ▸ ht _ _ _ _ _
  have he' : PE X' elt te := hX' ▸ he _ _ _ _ _
  have fpk : ∀ {H' : Hp}, (∀ b ∈ fp, H' b = none) → ∀ b ∈ fp, FpOk X' [] H' b := fun {H'} hn b hb => by
    refine ⟨hn b hb, ?_, ?_, ?_, ?_, ?_⟩
    · rw [locX]; exact Nat.ne_of_lt (fplt b hb)
    · rw [hfs]; intro z
      rcases List.mem_cons.mp (I3.stkSub b z) with e | e
      · exact (f2 b hb).2.1 e
      · exact (f2 b hb).2.2.1 e
    · rw [exX]; exact .inl hb
    · intro x c e
      rw [cellsX] at e
      rcases lkE x c e with e | ⟨_, e⟩
      · have h1 : g3.objs.size + 1 ≤ c := aboveA x c e
        exact fun z => absurd (Nat.lt_of_lt_of_le (fplt b hb) (Nat.le_of_succ_le h1)) (by rw [z]; exact Nat.lt_irrefl _)
      · exact (f2 b hb).2.2.2.2.1 x c (hcl1 x c e)
    · intro p hp
      have : p ∈ ([] : List (Addr × Obj)) := by rw [← hX'] at hp; exact hp
      cases this
  have st1 : tn 0 h₁ := T.keep _ _ _ st2 fun b hb o e => k1 b o (old3 b o e)
  -- back to the outer context
  have back : ∀ {σ' : St} {H' : Hp} {s' : Shared} {pp : List (Addr × Obj)} {h' : Heap}, Inv X' pp σ' H' s' → Heap.SameBut g3.objs.size s'.heap h' → Inv X pins σ H' { s' with heap := h' } := fun {σ' H' s' pp h'} I' sb => by
    have u := I'.base
    rw [hfs, exX] at u
    have hs0 : X'.s₀.heap = g3 := by rw [← hX']; rfl
    have hH0 : X'.H₀ = upd H2 s2.heap.objs.size (.lst []) := by rw [← hX']; rfl
    rw [hs0, hH0] at u
    have ne : ∀ b o, g3.get? b = some o → b ≠ g3.objs.size := fun b o e => Nat.ne_of_lt (Heap.lt_size e)
    have hCn : H' g3.objs.size = none := by have := I'.free; rw [locX] at this; exact this
    refine I3.call' (s' := { s' with heap := h' }) (ch := fp) ?_ ⟨?_, ?_, ?_, ?_, ?_, ?_, ?_⟩ ?_ I'.bare ?_
    · have := I'.os; rw [← hX'] at this; exact this
    · intro b o e n hb hx; exact sb.extBut b o (ne b o e) (u.keep b o e n hb hx)
    · intro b o e n hb hx
      obtain ⟨sl, q⟩ := u.slot b o e n hb hx
      exact ⟨sl, sb.extBut b _ (ne b o e) q⟩
    · exact u.free
    · intro b o e hx
      obtain ⟨o', q⟩ := u.there b o e hx
      exact ⟨o', sb.extBut b _ (ne b o e) q⟩
    · exact u.tups
    · exact u.frzs
    · exact u.tbls
    · have hok := I'.hok
      rw [pX, wX] at hok
      intro a o e
      refine (hok a o e).stay (fun b v hb r => sb.extBut b v ?_ r) (fun b r => r) fun b xs r => r
      rcases hb with rfl | hb
      · intro z; rw [z, hCn] at e; cases e
      · intro z; rw [z, hCn] at hb; cases hb
    · intro b hb
      refine ⟨(f2 b hb).2.2.2.1, (f2 b hb).2.1, (f2 b hb).2.2.2.2.1, (f2 b hb).2.2.2.2.2⟩
  have loop : ∀ s3 : Shared, s3 = { s2 with heap := h₁, toks := s2.toks } →
      codeAny (model X.prog X.w) X.A (.compLoop (.ListComp elt [⟨tg, iter, ifs, 0⟩] scope pos) 0 (.ref it) (.ref s2.heap.objs.size) (compEnvC scope cE g3.objs.size X.env)) (RR (.ref s2.heap.objs.size) g3.objs.size) s3 := by
    rintro s3 rfl
    refine codeAny_compLoop_gen (fun n s' => ∃ i σ' H', Inv X' [] σ' H' s' ∧ tn i s'.heap ∧ (∀ b ∈ fp, H' b = none) ∧ W i n σ' H') ?_ m0 ⟨0, _, _, I4, st1, fpn, w0⟩
    rintro n s5 ⟨i, σ5, H5, I5, st5, fr5, w5⟩
    rcases turn i n σ5 H5 w5 with ⟨stop, qn⟩ | ⟨go, N, hN, step⟩
    · have q := T.done X' pX wX KX cX i [] s5 σ5 H5 (fun _ _ => False) I5 (fpk fr5) st5 stop
      rw [AX] at q
      refine thn q fun r s6 ⟨hr, I6⟩ => ?_
      subst hr
      obtain ⟨m, hn, _⟩ := I6.loc
      rw [locX] at hn
      refine hRR _ _ s6 m H5 hn ?_ ?_ I3.sz ?_ ?_ qn fun h' sb => back I6 sb
      · exact Nat.ne_of_gt I3.lt
      · intro x c e
        obtain ⟨v, q⟩ := I3.cell x c e
        exact Nat.ne_of_lt q.lt
      · intro pp hpp
        exact Nat.ne_of_lt (Heap.lt_size (I3.pin pp hpp).1)
      · have := I6.free; rw [locX] at this; exact this
    · have q := T.item X' pX wX KX cX i [] s5 σ5 H5 (fun _ _ => False) I5 (fpk fr5) st5 go
      rw [AX] at q
      refine thn q fun r s6 ⟨u, hr, h6⟩ => ?_
      subst hr
      refine thn h6 fun _ s7 ⟨x, H7, I7, r7, y7, st7, fr7⟩ => ?_
      have I7' := I7.pinned (fpk fr7) (T.obj _ _ st7)
      have q8 := hg' _ s7 σ5 H7 x u _ I7' r7 (step x H7 y7)
      rw [pX, wX, AX, envX, xX] at q8
      refine thn q8 fun _ s8 ⟨σ8, H8, I8, q8⟩ => ?_
      have q9 := ht' _ s8 σ8 H8 _ I8 q8
      rw [pX, wX, AX, envX, xX] at q9
      have again : ∀ {σ' : St} {H' : Hp} {s' : Shared}, Inv X' ([] ++ pinsAt fp s7.heap) σ' H' s' → N σ' H' → ∃ m, m < n ∧ ∃ i σ' H', Inv X' [] σ' H' s' ∧ tn i s'.heap ∧ (∀ b ∈ fp, H' b = none) ∧ W i m σ' H' := fun {σ' H' s'} I' n' => by
        obtain ⟨m', hm, w'⟩ := hN σ' H' n'
        refine ⟨m', hm, i + 1, σ', H', I'.unpinned, T.keep _ _ _ st7 fun b hb o e => (I'.pin (b, o) (List.mem_append_right _ (List.mem_append_right _ (mem_pinsAt hb e)))).1, fun b hb => ?_, w'⟩
        obtain ⟨o, e, d⟩ := T.obj _ _ st7 b hb
        exact (I'.pin (b, o) (List.mem_append_right _ (List.mem_append_right _ (mem_pinsAt hb e)))).2.1
      refine thn q9 fun ok s9 ⟨H9, I9, q9⟩ => ?_
      cases ok with
      | false =>
        simp only [Bool.false_eq_true, if_false] at q9 ⊢
        exact again I9 q9
      | true =>
        simp only [if_true] at q9 ⊢
        have q10 := he' _ s9 σ8 H9 _ I9 q9
        rw [pX, wX, AX, envX, xX] at q10
        refine thn q10 fun y s10 ⟨v, H10, I10, rv, xs, hxs, hz, q10⟩ => ?_
        have q11 := mt_append (X := X') _ s10 σ8 H10 (.ref s2.heap.objs.size) [v] (.ref s2.heap.objs.size) [y] (fun _ H' => N σ8 H') I10 rfl (.cons rv .nil) ⟨_, xs, v, rfl, rfl, hxs, hz, q10⟩
        rw [pX, wX, AX, xX] at q11
        exact thn q11 fun _ s11 ⟨_, H11, I11, _, q11⟩ => again I11 q11
  exact codeAny_compStart_list (loop _ rfl) (T.self _ 0 _ _ _ st1 (loop _ rfl))

/-- [elt for tg in iter if c] -/
theorem pe_comp {own : List Str} {caps : List Nat} {N' : List Str} {esc scope : Scope} {elt iter tg : Expr} {ifs : List Expr} {pos : Pos} {wi : TI} {g : TG} {tc : TT} {te : TE}
    (hesc : X.env.scope = esc) (S : CompScope X.N esc own caps N' scope) (hc : X.calm = true) (hi : PI X tg iter wi)
    (hg : ∀ cl C s H ex, PG (compCx X scope cl N' C s H ex) tg g) (ht : ∀ cl C s H ex, PIf (compCx X scope cl N' C s H ex) ifs tc) (he : ∀ cl C s H ex, PE (compCx X scope cl N' C s H ex) elt te)
    (hs : ∀ x, foldedSetIterable iter X.env x = pure x := by intro _; rfl) :
    PE X (.ListComp elt [⟨tg, iter, ifs, 0⟩] scope pos) (tComp own caps wi g tc te) := by
  intro pins s σ H Q I h
  obtain ⟨cl, hcl, hcl1, hcl2⟩ := closure_of (scope := scope) (env := X.env) fun y hy hf => by
    have := S.fr y hy hf
    rw [← hesc] at this
    exact I.ok.has y.1 this
  rw [eval_ListComp]
  refine wpAny_comprehension_free (use := none) rfl hs hcl S.kind S.uniq (thn (hi pins s σ H _ I h) fun v s1 h1 => thn h1 fun itv s2 h2 => ?_)
  obtain ⟨it, fp, tn, J, H2, e, I2, T, st2, f2, q⟩ := h2
  subst e
  refine comp_block (RR := fun acc C => compPost (model X.prog X.w) X.A X.xe none (EP X pins σ Q) acc C) hesc S hc hcl1 hcl2 hg ht he I2 T st2 f2 q ?_
  intro D C s' m H' hn _ _ _ _ _ q' hb
  exact ⟨m, hn, fun h' sb => ⟨.ref D, H', hb h' sb, rfl, q'⟩⟩
/-- name = [elt for tg in iter if c] -/
theorem ps_setComp {own : List Str} {caps : List Nat} {N' : List Str} {esc scope : Scope} {elt iter tg : Expr} {ifs : List Expr} {pos spos py : Pos} {y : Str} {i : Nat} {wi : TI} {g : TG} {tc : TT} {te : TE}
    (hesc : X.env.scope = esc) (S : CompScope X.N esc own caps N' scope) (hc : X.calm = true) (hi : PI X tg iter wi)
    (hg : ∀ cl C s H ex, PG (compCx X scope cl N' C s H ex) tg g) (ht : ∀ cl C s H ex, PIf (compCx X scope cl N' C s H ex) ifs tc) (he : ∀ cl C s H ex, PE (compCx X scope cl N' C s H ex) elt te)
    (hN : X.N.Nodup) (hy : X.N[i]? = some y) (hx : Loc X.env.scope y) (hf : X.fn y = true ∨ X.env.scope.names.lookup y = some .local)
    (hsw : swapsWith (.ListComp elt [⟨tg, iter, ifs, 0⟩] scope pos) (some (.Name y py)) spos.line X.env = pure true)
    (hs : ∀ x, foldedSetIterable iter X.env x = pure x := by intro _; rfl) :
    PS X (.Assign [.Name y py] (.ListComp elt [⟨tg, iter, ifs, 0⟩] scope pos) spos) (tAsg (tComp own caps wi g tc te) (gName i)) := by
  intro pins s σ H D0 I h
  obtain ⟨cl, hcl, hcl1, hcl2⟩ := closure_of (scope := scope) (env := X.env) fun y hy hf => by
    have := S.fr y hy hf
    rw [← hesc] at this
    exact I.ok.has y.1 this
  rw [exec_Assign_Name_used _ _ _ _ hsw]
  refine wpAny_bind (wpAny_standAt (wpAny_bind ?_))
  show wpAny _ X.A (do let _ ← comprehension (.ListComp elt [⟨tg, iter, ifs, 0⟩] scope pos) scope X.env _ (newList []) false (eval iter X.env) (some (assign (.Name y py) X.env))) _ _ s
  refine wpAny_bind (wpAny_mono (wpAny_comprehension_free (use := some (assign (.Name y py) X.env)) (Q := fun _ s' => SP X pins D0 .next s') rfl hs hcl S.kind S.uniq
    (thn (hi pins s σ H _ I h) fun v s1 h1 => thn h1 fun itv s2 h2 => ?_)) (fun _ s' hq => wpAny_pure (wpAny_pure hq)) fun _ _ e => e)
  obtain ⟨it, fp, tn, J, H2, e, I2, T, st2, f2, q⟩ := h2
  subst e
  refine comp_block (RR := fun acc C => compPost (model X.prog X.w) X.A X.xe (some (assign (.Name y py) X.env)) (fun _ s' => SP X pins D0 .next s') acc C) hesc S hc hcl1 hcl2 hg ht he I2 T st2 f2 q ?_
  intro D C s' m H' hn hCL hCc hC0 hCp hCn q' hb
  have I' : Inv X pins σ H' s' := hb s'.heap (.refl ..)
  show wpAny _ X.A (assign (.Name y py) X.env (.ref D)) _ _ s'
  refine wpAny_assign_Name (store_ok2 I' hN hy hx (v := .ref D) rfl (fun s'' I'' ⟨a, sb, ha⟩ => ?_) hf)
  have hCa : C ≠ a := by
    rcases ha with rfl | ha
    · exact hCL
    · exact fun z => hCc y a ha z.symm
  refine ⟨m, hn.sameBut sb hCa, fun h' sb' => ⟨_, H', ?_, q'⟩⟩
  exact I''.turned (t' := s''.toks) (fun b o hb e => sb'.extBut b o hb e) hCn hCL (.inr hC0) hCc hCp
end
end L2

set_option maxHeartbeats 4000000
namespace L2
open PySem PySem.Spec PyProof.Rows

/-! ### data behind a value -/
mutual
inductive RdD (K : PySem.W.Frag) (H : Hp) : V → PyData → Prop where
  | non : RdD K H .non .none
  | bl (b : Bool) : RdD K H (.bl b) (.bool b)
  | int (i : Int) : RdD K H (.int i) (.int i)
  | str (x : Str) : RdD K H (.str x) (.str x)
  | lst {a : Addr} {xs : List V} {ds : List PyData} (h : SqL K H a xs) (r : RdDs K H xs ds) : RdD K H (.ref a) (.list ds)
  | tup {a : Addr} {xs : List V} {ds : List PyData} (h : SqT K H a xs) (r : RdDs K H xs ds) : RdD K H (.ref a) (.tuple ds)
inductive RdDs (K : PySem.W.Frag) (H : Hp) : List V → List PyData → Prop where
  | nil : RdDs K H [] []
  | cons {x : V} {xs : List V} {d : PyData} {ds : List PyData} (h : RdD K H x d) (r : RdDs K H xs ds) : RdDs K H (x :: xs) (d :: ds)
end
section
variable {K : PySem.W.Frag} {H H' : Hp}
theorem Same.tup {a : Addr} {xs : List V} (e : Same H H') (h : SqT K H a xs) : SqT K H' a xs := by
  rcases h with (h | ⟨o, h⟩) | h
  · exact .inl (.inl (e _ _ h))
  · exact .inl (.inr ⟨o, e _ _ h⟩)
  · exact .inr h
theorem Same.upd {p : Addr} {o : HO} (h : H p = none) : Same H (upd H p o) := fun b u e => by rw [upd_ne (ne_of_none e h)]; exact e
theorem Same.updr {p : Addr} {o : HO} (s : Same H H') (h : H p = none) : Same H (L2.upd H' p o) := fun b u e => by rw [upd_ne (ne_of_none e h)]; exact s b u e
mutual
theorem RdD.mono (s : Same H H') : ∀ {v : V} {d : PyData}, RdD K H v d → RdD K H' v d
  | _, _, .non => .non
  | _, _, .bl b => .bl b
  | _, _, .int i => .int i
  | _, _, .str x => .str x
  | _, _, .lst h r => .lst (s.seq h) (RdDs.mono s r)
  | _, _, .tup h r => .tup (s.tup h) (RdDs.mono s r)
theorem RdDs.mono (s : Same H H') : ∀ {v : List V} {d : List PyData}, RdDs K H v d → RdDs K H' v d
  | _, _, .nil => .nil
  | _, _, .cons h r => .cons (RdD.mono s h) (RdDs.mono s r)
end
theorem RdDs.ints : ∀ ns : List Int, RdDs K H (ns.map V.int) (ns.map PyData.int)
  | [] => .nil
  | n :: r => .cons (.int n) (RdDs.ints r)
theorem RdDs.append : ∀ {xs ys : List V} {ds es : List PyData}, RdDs K H xs ds → RdDs K H ys es → RdDs K H (xs ++ ys) (ds ++ es)
  | _, _, _, _, .nil, h => h
  | _, _, _, _, .cons a r, h => .cons a (RdDs.append r h)
end
section
variable {X : Cx} {pins : List (Addr × Obj)} {σ : St} {H : Hp} {s : Shared}
mutual
theorem Inv.reads (I : Inv X pins σ H s) : ∀ {v : V} {d : PyData} {u : Value}, RdD X.K H v d → RelV v u → ∃ as, Reads s.heap u d as
  | _, _, _, .non, r => by cases (show _ = Value.none from r); exact ⟨_, .none⟩
  | _, _, _, .bl b, r => by cases (show _ = Value.bool b from r); exact ⟨_, .bool b⟩
  | _, _, _, .int i, r => by obtain ⟨t, rfl⟩ := r; exact ⟨_, .int i t⟩
  | _, _, _, .str x, r => by obtain ⟨t, rfl⟩ := r; exact ⟨_, .str x t⟩
  | _, _, _, .lst (a := a) h q, r => by
    cases (show _ = Value.ref a from r)
    obtain ⟨its, rv, ⟨o, n, e, c, _, d⟩, _⟩ := I.list h
    obtain ⟨as, ra⟩ := Inv.readsAll I q rv
    exact ⟨_, .list e c d (by simpa using ra)⟩
  | _, _, _, .tup (a := a) h q, r => by
    cases (show _ = Value.ref a from r)
    obtain ⟨its, rv, ⟨o, e, c, n, d⟩, _⟩ := I.tuple h
    obtain ⟨as, ra⟩ := Inv.readsAll I q rv
    exact ⟨_, .tuple e c d (by simpa using ra)⟩
theorem Inv.readsAll (I : Inv X pins σ H s) : ∀ {v : List V} {d : List PyData} {u : List Value}, RdDs X.K H v d → Vals v u → ∃ as, ReadsAll s.heap u d as
  | _, _, _, .nil, r => by cases r; exact ⟨_, .nil⟩
  | _, _, _, .cons h q, r => by
    cases r with
    | cons r rr =>
      obtain ⟨a1, h1⟩ := Inv.reads I h r
      obtain ⟨a2, h2⟩ := Inv.readsAll I q rr
      exact ⟨_, .cons h1 h2⟩
end
end
/-- what may be shown and compared -/
structure FitD (d : PyData) : Prop where
  sh : d.showable = true
  nd : d.hasDict = false
  dp : d.depth ≤ 60
  sz : d.shown.length ≤ sizeLine
section
variable {X : Cx}
theorem op_eqD (hu : X.A.units + 64 < cLine) : OpR X (compareOp .Eq) (fun x y H Q => ∃ dx dy, RdD X.K H x dx ∧ RdD X.K H y dy ∧ SeqAt.shaped dx = true ∧ SeqAt.shaped dy = true ∧ Q (.bl (PyData.eqv dx dy)) H) := by
  intro pins s σ H x y v u Q I rx ry ⟨dx, dy, h1, h2, s1, s2, q⟩
  obtain ⟨as, r1⟩ := I.reads h1 rx
  obtain ⟨bs, r2⟩ := I.reads h2 ry
  exact SeqAt.compareEq_shaped r1 r2 s1 s2 hu ⟨.bl _, H, I, rfl, q⟩
theorem op_neD (hu : X.A.units + 64 < cLine) : OpR X (compareOp .NotEq) (fun x y H Q => ∃ dx dy, RdD X.K H x dx ∧ RdD X.K H y dy ∧ SeqAt.shaped dx = true ∧ SeqAt.shaped dy = true ∧ Q (.bl (!PyData.eqv dx dy)) H) := by
  intro pins s σ H x y v u Q I rx ry ⟨dx, dy, h1, h2, s1, s2, q⟩
  obtain ⟨as, r1⟩ := I.reads h1 rx
  obtain ⟨bs, r2⟩ := I.reads h2 ry
  exact SeqAt.compareNe_shaped r1 r2 s1 s2 hu ⟨.bl _, H, I, rfl, q⟩
/-- repr -/
theorem call_repr {k : Nat} (hr : Room k X.A) : CallR X (.builtin "repr") (fun xs H Q => ∃ x d, xs = [x] ∧ RdD X.K H x d ∧ FitD d ∧ Q (.str d.shown) H) := by
  intro pins s σ H xs us Q I r h
  obtain ⟨x, d, rfl, hd, F, q⟩ := h
  obtain ⟨u, rfl, ru⟩ := vals1 r
  obtain ⟨as, rd⟩ := I.reads hd ru
  have hun : X.A.units + 61 < cLine := by have := hr.units; omega
  have fin : ∀ (h' : Heap) (u : Tok) (tk : Nat), (∀ b o, s.heap.get? b = some o → h'.get? b = some o) → EP X pins σ Q (.str d.shown u) { s with heap := h', toks := tk } := fun h' u tk k => ⟨.str d.shown, H, I.kept k, ⟨u, rfl⟩, q⟩
  cases rd with
  | none => exact P.repr_of_none (fin s.heap _ _ fun _ _ e => e)
  | bool b => exact P.repr_of_bool (by have := fin s.heap s.toks (s.toks + 1) fun _ _ e => e; simpa only [PyData.shown] using this)
  | int i t => exact P.repr_of_int (by simpa only [PyData.showable, decide_eq_true_eq] using F.sh) (by have := fin s.heap s.toks (s.toks + 1) fun _ _ e => e; simpa only [PyData.shown] using this)
  | str y t => exact P.repr_of_str (by have := fin s.heap s.toks (s.toks + 1) fun _ _ e => e; simpa only [PyData.shown] using this) (by simpa only [PyData.shown] using F.sz)
  | list h1 h2 h3 h4 => exact repr_of_reads' (.list h1 h2 h3 h4) F.sh (fun z => by rw [F.nd] at z; cases z) hr.gd (by have := F.dp; omega) (fun _ _ e => e) (fun h' u tk k => fin h' u tk k) F.sz
  | tuple h1 h2 h3 h4 => exact repr_of_reads' (.tuple h1 h2 h3 h4) F.sh (fun z => by rw [F.nd] at z; cases z) hr.gd (by have := F.dp; omega) (fun _ _ e => e) (fun h' u tk k => fin h' u tk k) F.sz
  | dict h1 h2 h3 h4 h5 => cases hd
/-- isinstance(x, T): T a built-in's name or an own class -/
theorem call_isi : CallR X (.builtin "isinstance") (fun xs H Q => ∃ x c t b, xs = [x, c] ∧ TyOf X.K H x t ∧ (∀ cv, RelV c cv → PySem.W.kitOne X.K t cv = some b) ∧ Q (.bl b) H) := by
  intro pins s σ H xs us Q I r h
  obtain ⟨x, c, t, b, rfl, ty, e, q⟩ := h
  cases r with
  | cons r1 r =>
    cases r with
    | cons r2 r =>
      cases r
      exact isinst_ok I r1 ty (e _ r2) fun tk => ⟨.bl b, H, I.tok _, rfl, q⟩
/-- // by a positive divisor of less than 9000 bits -/
theorem op_fdivB : OpR X (binaryOp .FloorDiv) (rI (fun _ j => 0 < j ∧ j.natAbs.log2 < 9000) fun i j => .int (i / j)) := opI fun i j _ _ _ _ _ hc q => by
  have h1 : (0 : Int) < j := hc.1
  exact floordiv_int (by omega) (by rw [Int.fdiv_eq_ediv_of_nonneg i (by omega)]; exact q) (.inl (PyProof.noPylong_of_log2 hc.2))
/-- all, any of a list of truths -/
theorem truthB {prog : Program} {w : World} {A : Around} {its : List Value} {bs : List Bool} (r : Vals (bs.map V.bl) its) : TruthOf prog w A (fun i v => its.toArray[i]? = some v) (fun i => bs.getD i false) := by
  intro i v s Q E hv hq
  rw [List.getElem?_toArray] at hv
  have hi : i < its.length := (List.getElem?_eq_some_iff.mp hv).1
  have hl := r.length
  rw [List.length_map] at hl
  have hb : (bs.map V.bl)[i]? = some (.bl (bs.getD i false)) := by
    rw [List.getElem?_map, List.getD_eq_getElem?_getD, List.getElem?_eq_getElem (by omega)]; rfl
  obtain ⟨u, hu, ru⟩ := r.get hb
  rw [hv] at hu
  cases hu
  cases (show v = Value.bool _ from ru)
  exact wpAny_truthy_bool hq
theorem range_all {bs : List Bool} : ((List.range bs.length).all fun i => bs.getD i false) = bs.all id := by
  have : (List.range bs.length).map (fun i => bs.getD i false) = bs := by
    apply List.ext_getElem
    · simp
    · intro i h1 h2; simp at h1; simp [h1]
  conv => rhs; rw [← this, List.all_map]
  rfl
theorem range_any {bs : List Bool} : ((List.range bs.length).any fun i => bs.getD i false) = bs.any id := by
  have : (List.range bs.length).map (fun i => bs.getD i false) = bs := by
    apply List.ext_getElem
    · simp
    · intro i h1 h2; simp at h1; simp [h1]
  conv => rhs; rw [← this, List.any_map]
  rfl
theorem call_all (hc : X.calm = true) : CallR X (.builtin "all") (fun xs H Q => ∃ (a : Addr) (bs : List Bool), xs = [.ref a] ∧ SqL X.K H a (bs.map V.bl) ∧ Q (.bl (bs.all id)) H) := by
  intro pins s σ H xs us Q I r h
  obtain ⟨a, bs, rfl, hq, q⟩ := h
  obtain ⟨u, rfl, ru⟩ := vals1 r
  cases ru
  obtain ⟨its, rv, p, hz⟩ := I.list hq
  have hl := rv.length
  rw [List.length_map] at hl
  refine call_all_walk (wpAny_pyIter_list p.isList ?_)
  have hne : a ≠ s.heap.objs.size := by obtain ⟨o, n, e, _⟩ := p; exact Nat.ne_of_lt (Heap.lt_size e)
  refine ⟨s.heap.objs.size, _, _, _, _, _, (fun i => bs.getD i false), rfl, Walks.list (A := X.A.in1) (I.ok.hd hc) _ a hne its.toArray, ⟨⟨_, Heap.get?_push_size _ rfl, rfl, rfl⟩, p.isList.push _⟩, truthB rv, fun h' tk k => ?_⟩
  rw [List.size_toArray, ← hl, range_all]
  refine ⟨.bl _, H, I.kept (t' := tk) fun b o e => k b o ?_ (Heap.get?_push_of_some _ e), rfl, q⟩
  simpa using Nat.ne_of_lt (Heap.lt_size e)
theorem call_any (hc : X.calm = true) : CallR X (.builtin "any") (fun xs H Q => ∃ (a : Addr) (bs : List Bool), xs = [.ref a] ∧ SqL X.K H a (bs.map V.bl) ∧ Q (.bl (bs.any id)) H) := by
  intro pins s σ H xs us Q I r h
  obtain ⟨a, bs, rfl, hq, q⟩ := h
  obtain ⟨u, rfl, ru⟩ := vals1 r
  cases ru
  obtain ⟨its, rv, p, hz⟩ := I.list hq
  have hl := rv.length
  rw [List.length_map] at hl
  refine call_any_walk (wpAny_pyIter_list p.isList ?_)
  have hne : a ≠ s.heap.objs.size := by obtain ⟨o, n, e, _⟩ := p; exact Nat.ne_of_lt (Heap.lt_size e)
  refine ⟨s.heap.objs.size, _, _, _, _, _, (fun i => bs.getD i false), rfl, Walks.list (A := X.A.in1) (I.ok.hd hc) _ a hne its.toArray, ⟨⟨_, Heap.get?_push_size _ rfl, rfl, rfl⟩, p.isList.push _⟩, truthB rv, fun h' tk k => ?_⟩
  rw [List.size_toArray, ← hl, range_any]
  refine ⟨.bl _, H, I.kept (t' := tk) fun b o e => k b o ?_ (Heap.get?_push_of_some _ e), rfl, q⟩
  simpa using Nat.ne_of_lt (Heap.lt_size e)
end
end L2

set_option maxHeartbeats 4000000
namespace L2
open PySem PySem.Spec PyProof.Rows
/-- the members of a set made of a row of ints: how often each one is met first -/
abbrev metOf (ns : List Int) (n : Nat) : List Int := firstMet (fun i => ns.getD i 0) n
section
variable {prog : Program} {w : World} {A : Around} {E : Value → Shared → Prop} {s : Shared}
abbrev SetEnd (prog : Program) (w : World) (s : Shared) (ns : List Int) (n : Nat) (h' : Heap) : Prop :=
  h'.SetOf (intKind prog w) s.heap.objs.size (fun k' => (metOf ns n).any (· == k')) (metOf ns n).length ∧ ∀ b o, b < s.heap.objs.size → s.heap.get? b = some o → h'.get? b = some o
end
end L2

set_option maxHeartbeats 4000000
namespace L2
open PySem PySem.Spec PyProof.Rows
section
variable {X : Cx}
/-- the ints lo, lo + 1, .. -/
def rngI (lo : Int) (n : Nat) : List Int := (List.range n).map fun i : Nat => lo + (i : Int)
theorem rngI_get {lo : Int} {n i : Nat} (h : i < n) : (rngI lo n)[i]? = some (lo + i) := by unfold rngI; rw [List.getElem?_map, List.getElem?_range h]; rfl
theorem rngI_len {lo : Int} {n : Nat} : (rngI lo n).length = n := by unfold rngI; rw [List.length_map, List.length_range]
end
end L2

set_option maxHeartbeats 4000000
namespace L2
open PySem PySem.Spec PyProof.Rows

/-! ### short forms -/
def nodupS : List Str → Bool
  | [] => true
  | x :: r => !(r.contains x) && nodupS r
theorem nodupS_ok : ∀ {l : List Str}, nodupS l = true → l.Nodup
  | [], _ => List.nodup_nil
  | x :: r, h => by
    unfold nodupS at h
    simp only [Bool.and_eq_true, Bool.not_eq_true'] at h
    refine List.nodup_cons.mpr ⟨fun z => ?_, nodupS_ok h.2⟩
    have := List.contains_iff_mem.mpr z
    rw [h.1] at this; cases this
def isLoc (sc : Scope) (x : Str) : Bool := match sc.names.lookup x with
  | some .local => true
  | some .cell => true
  | _ => false
theorem isLoc_ok {sc : Scope} {x : Str} (h : isLoc sc x = true) : Loc sc x := by
  unfold isLoc at h
  split at h
  · rename_i e; exact .inl e
  · rename_i e; exact .inr e
  · cases h
def isPlainLoc (sc : Scope) (x : Str) : Bool := match sc.names.lookup x with
  | some .local => true
  | _ => false
theorem isPlainLoc_ok {sc : Scope} {x : Str} (h : isPlainLoc sc x = true) : sc.names.lookup x = some .local := by
  unfold isPlainLoc at h
  split at h
  · rename_i e; exact e
  · cases h
def isVis (sc : Scope) (x : Str) : Bool := match sc.names.lookup x with
  | some .local => true
  | some .cell => true
  | some .free => true
  | _ => false
theorem isVis_ok {sc : Scope} {x : Str} (h : isVis sc x = true) : Vis sc x := by
  unfold isVis at h
  split at h
  · rename_i e; exact .inl e
  · rename_i e; exact .inr (.inl e)
  · rename_i e; exact .inr (.inr e)
  · cases h
def isGlob (sc : Scope) (x : Str) : Bool := match sc.names.lookup x with
  | some .globalImplicit => true
  | _ => false
def noStar : Expr → Bool
  | .Starred _ _ => false
  | _ => true
theorem star_cons {e : Expr} {es : List Expr} {env : Env} (h : noStar e = true) : starEach (e :: es) env = (false, eval e env) :: starEach es env := by cases e <;> first | rfl | cases h
def noStars : List Expr → Bool
  | [] => true
  | e :: r => noStar e && noStars r
theorem noStars_any {env : Env} {pos : Pos} : ∀ {es : List Expr}, noStars es = true → (backTo pos (starEach es env)).any (·.1) = false
  | [], _ => rfl
  | e :: r, h => by
    unfold noStars at h
    rw [Bool.and_eq_true] at h
    rw [star_cons h.1]
    exact noStars_any h.2
section
variable {X : Cx}
theorem pc {e : Expr} {es : List Expr} {te : TE} {t : TA} (ha : PE X e te) (hr : PA X es t) (hs : noStar e = true := by rfl) : PA X (e :: es) (tCons te t) := pa_cons ha hr (star_cons hs)
theorem gl_of {x : Str} (h : isGlob X.env.scope x = true) : Gl X x := by
  unfold isGlob at h
  split at h
  · rename_i e; exact e
  · cases h
/-- a name in slot i -/
theorem vn (i : Nat) {x : Str} {pos : Pos} (hN : X.N[i]? = some x := by rfl) (hv : isVis X.env.scope x = true := by kernel_rfl) (hd : (x == ("__debug__" : Str)) = false := by kernel_rfl) (hcd : (x == ("__classdict__" : Str)) = false := by kernel_rfl) :
    PE X (.Name x pos) (tVar i) := pe_var hN (isVis_ok hv) hd hcd
/-- the target in slot i, in a def -/
theorem gn (i : Nat) {x : Str} {pos : Pos} (hi : X.N[i]? = some x := by rfl) (hN : nodupS X.N = true := by kernel_rfl) (hx : isPlainLoc X.env.scope x = true := by kernel_rfl) : PG X (.Name x pos) (gName i) :=
  pg_name (nodupS_ok hN) hi (.inl (isPlainLoc_ok hx)) (.inr (isPlainLoc_ok hx))
theorem gnf (i : Nat) {x : Str} {pos : Pos} (hf : X.fn x = true) (hi : X.N[i]? = some x := by rfl) (hN : nodupS X.N = true := by kernel_rfl) (hx : isLoc X.env.scope x = true := by kernel_rfl) : PG X (.Name x pos) (gName i) :=
  pg_name (nodupS_ok hN) hi (isLoc_ok hx) (.inl hf)
/-- name = e -/
theorem sset (i : Nat) {x : Str} {e : Expr} {te : TE} {pos pos' : Pos} (hf : X.fn x = true) (he : PE X e te) (hi : X.N[i]? = some x := by rfl) (hN : nodupS X.N = true := by kernel_rfl) (hx : isLoc X.env.scope x = true := by kernel_rfl)
    (hs : swapsWith e (some (.Name x pos')) pos.line X.env = pure false := by rfl) : PS X (.Assign [.Name x pos'] e pos) (tAsg te (gName i)) :=
  ps_set (nodupS_ok hN) hi (isLoc_ok hx) he hs (.inl hf)
/-- a call of a built-in function, a type -/
theorem cb {x : Str} {id : String} {r : List V → Hp → VK → Prop} {e : Expr} {es : List Expr} {t : TA} {p pos : Pos} (hc : CallR X (.builtin id) r) (hm : X.mg x = none) (ha : PA X (e :: es) t) (hg : isGlob X.env.scope x = true := by kernel_rfl) (hv : bootBuiltins x = some (.builtin id) := by kernel_rfl)
    (hn : x ≠ "__name__" := by decide) (hd : (x == ("__debug__" : Str)) = false := by kernel_rfl) (he : noStar e = true := by rfl) (hpl : noStars es = true := by rfl) :
    PE X (.Call (.Name x p) (e :: es) [] pos) (tCB r t) := pe_callB hc (gl_of hg) hm hv ha hn hd (star_cons he) (noStars_any hpl)
theorem ct {x : Str} {T : String} {r : List V → Hp → VK → Prop} {e : Expr} {es : List Expr} {t : TA} {p pos : Pos} (hc : CallR X (.type T) r) (hm : X.mg x = none) (ha : PA X (e :: es) t) (hg : isGlob X.env.scope x = true := by kernel_rfl) (hv : bootBuiltins x = some (.type T) := by kernel_rfl)
    (hn : x ≠ "__name__" := by decide) (hd : (x == ("__debug__" : Str)) = false := by kernel_rfl) (he : noStar e = true := by rfl) (hpl : noStars es = true := by rfl) :
    PE X (.Call (.Name x p) (e :: es) [] pos) (tCB r t) := pe_callTy hc (gl_of hg) hm hv ha hn hd (star_cons he) (noStars_any hpl)
/-- a built-in type as a value -/
theorem tyv (T : String) {x : Str} {pos : Pos} (hm : X.mg x = none) (hg : isGlob X.env.scope x = true := by kernel_rfl) (hv : bootBuiltins x = some (.type T) := by kernel_rfl) (hn : x ≠ "__name__" := by decide) (hd : (x == ("__debug__" : Str)) = false := by kernel_rfl) :
    PE X (.Name x pos) (tC (.ty T)) := pe_bltn (gl_of hg) hm hv rfl hn hd
theorem rng1 {tg a : Expr} {ta : TA} {p pos : Pos} (hm : X.mg "range" = none) (ha : PA X [a] ta) (hg : isGlob X.env.scope "range" = true := by kernel_rfl) (hs : starEach [a] X.env = [(false, eval a X.env)] := by rfl) : PI X tg (.Call (.Name "range" p) [a] [] pos) (iRng1 ta) := pi_range1 (gl_of hg) hm ha hs
theorem rng2 {tg a b : Expr} {ta : TA} {p pos : Pos} (hm : X.mg "range" = none) (ha : PA X [a, b] ta) (hg : isGlob X.env.scope "range" = true := by kernel_rfl) (hs : starEach [a, b] X.env = [(false, eval a X.env), (false, eval b X.env)] := by rfl) (hs2 : starEach [b] X.env = [(false, eval b X.env)] := by rfl) :
    PI X tg (.Call (.Name "range" p) [a, b] [] pos) (iRng2 ta) := pi_range2 (gl_of hg) hm ha hs hs2
end
/-- a def of the text, with its promise -/
def Fn (P : Program) (w : World) (K : PySem.W.Frag) (mg : Str → Option Value) (base : Heap) (CX : CXT) (k : Nat) (x : Str) (ps : List Str) (sp : Sp) : Prop :=
  ∃ f fd, FnOk P w K mg base CX k f fd ps sp ∧ mg x = some (.ref f) ∧ PySem.W.keepIn K (.ref f) = true ∧ Binds K fd ps []
section
variable {X : Cx}
theorem fnc {CX : CXT} {k j : Nat} {x : Str} {ps : List Str} {sp : Sp} {E : XK} {e : Expr} {es : List Expr} {t : TA} {p pos : Pos} (G : Fn X.prog X.w X.K X.mg X.base CX k x ps sp) (hr : Room j X.A) (hx : Passes CX X E) (ha : PA X (e :: es) t) (hk : k ≤ j := by decide)
    (hg : isGlob X.env.scope x = true := by kernel_rfl) (hd : (x == ("__debug__" : Str)) = false := by kernel_rfl) (he : noStar e = true := by rfl) (hpl : noStars es = true := by rfl) :
    PE X (.Call (.Name x p) (e :: es) [] pos) (tCall sp [] E t) := by
  obtain ⟨f, fd, F, hm, kp, b⟩ := G
  exact pe_call F (hr.mono hk) (gl_of hg) hm kp b .nil hx ha hd (star_cons he) (noStars_any hpl)
end
/-- a def as the top has written it: from its facts -/
theorem Fn.mk {P : Program} {w : World} {K : PySem.W.Frag} {mg : Str → Option Value} {base h : Heap} {CX : CXT} {k : Nat} {x : Str} {ps : List Str} {sp : Sp} {st : Stmt} {f : Addr} {oc : Value} {od an : Option Addr} {osl : Array (Option Value)} {kV doc pm cdv ct : Value} (X : K.In h) (G : h.Ns mainGlobals mg)
    (a : PySem.W.nsIn K mainGlobals x = some (some (.ref f))) (l : K.lookup f = some ⟨oc, od, .func (PySem.W.fnOf x x (defArgs st) (defBody st) (defScope st) .none kV doc pm an cdv ct), osl⟩) (c : PySem.W.codeIn K cdv x = true) (kp : PySem.W.keepIn K (.ref f) = true)
    (hok : ∀ fd, Fun K x x st f fd → FnOk P w K mg base CX k f fd ps sp)
    (hb : ∀ (kV doc pm : Value) (an : Option Addr) (cdv ct : Value) (us : List Value), us.length = ps.length → bindArgs (PySem.W.fnOf x x (defArgs st) (defBody st) (defScope st) .none kV doc pm an cdv ct) ⟨us, []⟩ = pure (ps.zip us)) :
    Fn P w K mg base CX k x ps sp :=
  ⟨f, _, hok _ (fun_mk l c kp), PySem.W.mg_of X G a, kp, (fun_mk l c kp).binds hb⟩

/-- whether a thing of kind n is one of T -/
def isaB (n T : String) : Bool := n == T || (n == "bool" && T == "int")
def kinds7 : List String := ["NoneType", "bool", "int", "str", "list", "tuple", "dict"]
theorem kit7 {K : PySem.W.Frag} {n T : String} (hn : n ∈ kinds7) (hT : T ∈ ["int", "bool", "tuple", "list", "str"]) : PySem.W.kitOne K (.type n) (.type T) = some (isaB n T) := by
  simp only [kinds7, List.mem_cons, List.mem_singleton, List.not_mem_nil, or_false] at hn hT
  rcases hn with rfl | rfl | rfl | rfl | rfl | rfl | rfl <;> rcases hT with rfl | rfl | rfl | rfl | rfl <;> kernel_rfl
/-- x is of the kind n -/
def Kd (K : PySem.W.Frag) (H : Hp) (x : V) (n : String) : Prop := TyOf K H x (.type n) ∧ n ∈ kinds7
theorem Kd.mono {K : PySem.W.Frag} {H H' : Hp} {x : V} {n : String} (s : Same H H') (h : Kd K H x n) : Kd K H' x n := by
  refine ⟨?_, h.2⟩
  obtain ⟨h, _⟩ := h
  generalize ht : Value.type n = t at h
  cases h with
  | non => exact .non
  | bl x => exact .bl x
  | int i => exact .int i
  | str x => exact .str x
  | flt x => exact .flt x
  | lst e => exact .lst (s _ _ e)
  | frz e => exact .frz (s _ _ e)
  | tup e => exact .tup (s _ _ e)
  | dK e => exact .dK (s _ _ e)
  | dT e => exact .dT (s _ _ e)
  | ins e a b c d f => exact .ins (s _ _ e) a b c d f
/-- isinstance(x, T), T the name of a built-in type -/
def rIsa (K : PySem.W.Frag) (T : String) : List V → Hp → VK → Prop := fun xs H Q => ∃ x n, xs = [x, .ty T] ∧ Kd K H x n ∧ Q (.bl (isaB n T)) H
theorem call_isa {X : Cx} {T : String} (hT : T ∈ ["int", "bool", "tuple", "list", "str"]) : CallR X (.builtin "isinstance") (rIsa X.K T) := by
  intro pins s σ H xs us Q I r h
  obtain ⟨x, n, rfl, ⟨ty, hn⟩, q⟩ := h
  refine call_isi pins s σ H _ us Q I r ⟨x, .ty T, .type n, isaB n T, rfl, ty, fun cv rc => ?_, q⟩
  cases (show cv = Value.type T from rc)
  exact kit7 hn hT

/-! ### the same with the written part named -/
section
variable {X : Cx}
theorem ixT (K : PySem.W.Frag) (hK : X.K = K := by rfl) : IxR X (rIxT K) := hK ▸ ix_tup
theorem ixL (K : PySem.W.Frag) (hK : X.K = K := by rfl) : IxR X (rIxL K) := hK ▸ ix_list
theorem isaK (K : PySem.W.Frag) (T : String) (hT : T ∈ ["int", "bool", "tuple", "list", "str"] := by decide) (hK : X.K = K := by rfl) : CallR X (.builtin "isinstance") (rIsa K T) := hK ▸ call_isa hT
def rLen (K : PySem.W.Frag) : List V → Hp → VK → Prop := fun xs H Q => ∃ p ys, xs = [.ref p] ∧ (SqL K H p ys ∨ SqT K H p ys) ∧ Q (.int ys.length) H
theorem lenK (K : PySem.W.Frag) (hK : X.K = K := by rfl) : CallR X (.builtin "len") (rLen K) := hK ▸ call_len_seq
theorem itT (K : PySem.W.Frag) {tg l : Expr} {tl : TE} (hl : PE X l tl) (hK : X.K = K := by rfl) : PI X tg l (iTup K tl) := hK ▸ pi_tup hl
theorem itL (K : PySem.W.Frag) {tg l : Expr} {tl : TE} (hl : PE X l tl) (hK : X.K = K := by rfl) : PI X tg l (iList K tl) := hK ▸ pi_list hl
end
/-! ### a comprehension, its scope looked at by computing -/
def compOk (N : List Str) (esc : Scope) (own : List Str) (caps : List Nat) (N' : List Str) (sc : Scope) : Bool :=
  (sc.kind == .function) && nodupS (sc.names.map (·.1)) && sc.names.all (fun y => y.2 != .local || isPlainLoc sc y.1) && nodupS N' && decide (N' = own ++ caps.map fun j => N.getD j "") &&
    caps.all (fun j => decide (j < N.length) && (match sc.names.lookup (N.getD j "") with | some .free => true | _ => false)) &&
    sc.names.all (fun y => y.2 != .free || (match esc.names.lookup y.1 with | some .cell => true | some .free => true | _ => false))
theorem CompScope.of {N : List Str} {esc : Scope} {own : List Str} {caps : List Nat} {N' : List Str} {sc : Scope} (h : compOk N esc own caps N' sc = true) : CompScope N esc own caps N' sc := by
  unfold compOk at h
  simp only [Bool.and_eq_true, List.all_eq_true, decide_eq_true_eq, beq_iff_eq, bne_iff_ne, ne_eq, Bool.or_eq_true] at h
  obtain ⟨⟨⟨⟨⟨⟨h1, h2⟩, h3⟩, h4⟩, h5⟩, h6⟩, h7⟩ := h
  refine ⟨h1, nodupS_ok h2, fun y hy e => ?_, nodupS_ok h4, h5, fun j hj => ⟨(h6 j hj).1, ?_⟩, fun y hy e => ?_⟩
  · rcases h3 y hy with z | z
    · exact absurd e z
    · exact isPlainLoc_ok z
  · have := (h6 j hj).2
    split at this
    · rename_i z; exact z
    · cases this
  · rcases h7 y hy with z | z
    · exact absurd e z
    · split at z
      · rename_i q; exact .inl q
      · rename_i q; exact .inr q
      · cases z
theorem cmp {X : Cx} (own : List Str) (caps : List Nat) (N' : List Str) {scope : Scope} {elt iter tg : Expr} {ifs : List Expr} {pos : Pos} {wi : TI} {g : TG} {tc : TT} {te : TE} (hc : X.calm = true) (hi : PI X tg iter wi)
    (hg : ∀ cl C s H ex, PG (compCx X scope cl N' C s H ex) tg g) (ht : ∀ cl C s H ex, PIf (compCx X scope cl N' C s H ex) ifs tc) (he : ∀ cl C s H ex, PE (compCx X scope cl N' C s H ex) elt te)
    (hS : compOk X.N X.env.scope own caps N' scope = true := by kernel_rfl) (hs : ∀ x, foldedSetIterable iter X.env x = pure x := by intro _; rfl) :
    PE X (.ListComp elt [⟨tg, iter, ifs, 0⟩] scope pos) (tComp own caps wi g tc te) := pe_comp rfl (.of hS) hc hi hg ht he hs
end L2

set_option maxHeartbeats 4000000
namespace L2
open PySem PySem.Spec PyProof.Rows
section
variable {X : Cx}
/-- t + u, whatever they hold: the new tuple, or the one of both that is not empty -/
def rCatU : R2 := fun x y H Q => ∃ (a b : Addr) (xs ys : List V), x = .ref a ∧ y = .ref b ∧ H a = some (.tup xs) ∧ H b = some (.tup ys) ∧ xs.length + ys.length ≤ sizeLine ∧ ∀ p H', Same H H' → H' p = some (.tup (xs ++ ys)) → Q (.ref p) H'
theorem op_catU : OpR X (binaryOp .Add) rCatU := by
  intro pins s σ H x y v u Q I rx ry h
  obtain ⟨a, b, xs, ys, rfl, rfl, ha, hb, hz, q⟩ := h
  by_cases hx : xs = []
  · subst hx
    cases rx; cases ry
    obtain ⟨its, r1, p1, _⟩ := I.tuple (SqT.of ha)
    obtain ⟨its2, r2, p2, _⟩ := I.tuple (SqT.of hb)
    cases r1
    obtain ⟨⟨cls, dd, data, sl⟩, ho, hc, n, hd⟩ := id p1
    obtain ⟨⟨cls2, dd2, data2, sl2⟩, ho2, hc2, n2, hd2⟩ := id p2
    simp only at hc hd hc2 hd2
    subst hc hd hc2 hd2
    exact concat_meets ⟨_, ho, rfl⟩ ⟨_, ho2, rfl⟩ noFill_tuple_add seq_tuple_add PySem.F.slot_tuple_add PySem.F.entry_tuple_add (PySem.F.args_tuple_add_2 _ _) (tuple_addW0 a b _ _ n n2 dd dd2 sl sl2 rfl) ⟨ho, ho2, ⟨.ref b, H, I, rfl, q b H (Same.refl H) hb⟩⟩
  · refine op_catT pins s σ H _ _ v u Q I rx ry ⟨a, b, xs, ys, rfl, rfl, .of ha, .of hb, hx, hz, fun e => ?_, fun e p hp => q p _ (Same.upd hp) upd_same⟩
    subst e
    exact q a H (Same.refl H) (by rw [List.append_nil]; exact ha)
end
/-- while: a word by a number that falls, and what holds behind it -/
theorem tw_intro {c : TT} {tb : TS} {D : Ends} {σ : St} {H : Hp} (Pv : Nat → St → Hp → Prop) (Ex : St → Hp → Prop) (hend : ∀ σ H, Ex σ H → D.nx σ H) (h0 : ∃ m, Pv m σ H)
    (turn : (∀ σ H, Ex σ H → D.nx σ H) → ∀ m σ H, Pv m σ H → c σ H fun b H1 => if b = true then ∃ N : St → Hp → Prop, (∀ σ' H', N σ' H' → ∃ m', m' < m ∧ Pv m' σ' H') ∧ tb { D with nx := N, ct := N, bk := D.nx } σ H1 else D.nx σ H1) :
    tWhile c tb D σ H := ⟨Pv, h0, turn hend⟩
end L2

set_option maxHeartbeats 4000000
namespace L2
open PySem PySem.Spec PyProof.Rows
/-- an iterator that yields the row xs, whatever grows -/
structure SeqIt (J : It) (H : Hp) (xs : List V) : Prop where
  go : ∀ (i : Nat) H', Same H H' → i < xs.length → J.go i H'
  yld : ∀ (i : Nat) H' x H2, Same H H' → i < xs.length → J.yld i H' x H2 → H2 = H' ∧ xs[i]? = some x
  stop : ∀ H', Same H H' → J.stop xs.length H'
theorem seq_tup {K : PySem.W.Frag} {H : Hp} {a : Addr} {xs : List V} (h : SqT K H a xs) : SeqIt (Itt K a) H xs :=
  ⟨fun i H' s hi => ⟨xs, _, s.tup h, List.getElem?_eq_getElem hi⟩, fun i H' x H2 s _ y => ⟨y.1, y.2 xs (s.tup h)⟩, fun H' s => ⟨xs, s.tup h, Nat.le_refl _⟩⟩
theorem seq_lst {K : PySem.W.Frag} {H : Hp} {a : Addr} {xs : List V} (h : SqL K H a xs) : SeqIt (Itl K a) H xs :=
  ⟨fun i H' s hi => ⟨xs, _, s.seq h, List.getElem?_eq_getElem hi⟩, fun i H' x H2 s _ y => ⟨y.1, y.2 xs (s.seq h)⟩, fun H' s => ⟨xs, s.seq h, Nat.le_refl _⟩⟩
theorem seq_rng {H : Hp} (lo : Int) (n : Nat) : SeqIt (Itr lo n) H ((rngI lo n).map V.int) := by
  have hl : ((rngI lo n).map V.int).length = n := by rw [List.length_map, rngI_len]
  refine ⟨fun i H' s hi => by rw [hl] at hi; exact hi, fun i H' x H2 s hi y => ?_, fun H' s => by show n ≤ _; rw [hl]; exact Nat.le_refl _⟩
  rw [hl] at hi
  exact ⟨y.1, by rw [y.2, List.getElem?_map, rngI_get hi]; rfl⟩
/-- a comprehension of one name that only makes new things: f tells what is put in for each item -/
theorem comp_seq {J : It} {own : List Str} {caps : List Nat} {g : TG} {tc : TT} {te : TE} {σ : St} {H : Hp} {Q : VK} {xs : List V} (S : SeqIt J H xs) (cs : St) (hcs : capS own caps σ = none :: cs) (f : V → Option V) (hz : xs.length ≤ 1000000)
    (hs : ∀ (i : Nat) x v0 H', xs[i]? = some x → Same H H' → ∀ (R : St → V → Hp → Prop) (R' : St → Hp → Prop), (∀ v H5, f x = some v → Same H' H5 → R (some x :: cs) v H5) → (∀ H4, f x = none → Same H' H4 → R' (some x :: cs) H4) →
      g x (v0 :: cs) H' fun σ3 H3 => tc σ3 H3 fun b H4 => if b = true then te σ3 H4 (R σ3) else R' σ3 H4)
    (hd : ∀ D H', H D = none → Same H H' → H' D = some (.lst (xs.filterMap f)) → Q (.ref D) H') :
    CompK own caps g tc te σ Q J H := by
  intro D hD
  refine ⟨fun i m σ' H' => m = xs.length - i ∧ i ≤ xs.length ∧ (∃ v0, σ' = v0 :: cs) ∧ Same H H' ∧ H' D = some (.lst ((xs.take i).filterMap f)), ⟨_, rfl, Nat.zero_le _, ⟨none, hcs⟩, Same.upd hD, by rw [upd_same, List.take_zero]; rfl⟩, ?_⟩
  rintro i m σ' H' ⟨rfl, hi, ⟨v0, rfl⟩, s, hl⟩
  by_cases hlt : i < xs.length
  · refine .inr ⟨S.go i H' s hlt, _, fun σ2 H2 z => z, fun x H2 y => ?_⟩
    obtain ⟨rfl, hx⟩ := S.yld i H' x H2 s hlt y
    have ht : xs.take (i + 1) = xs.take i ++ [x] := by rw [List.take_add_one, hx]; rfl
    have hlen : ((xs.take i).filterMap f).length ≤ i := Nat.le_trans (List.length_filterMap_le _ _) (by rw [List.length_take]; omega)
    refine hs i x v0 H2 hx s _ _ (fun v H5 e s5 => ?_) (fun H4 e s4 => ?_)
    · refine ⟨_, s5 _ _ hl, ?_, xs.length - (i + 1), by omega, rfl, hlt, ⟨_, rfl⟩, (s.trans s5).updr hD, ?_⟩
      · have : (16777216 : Nat) = sizeLine := by decide
        omega
      · rw [upd_same, ht, List.filterMap_append, List.filterMap_cons, e]; rfl
    · refine ⟨xs.length - (i + 1), by omega, rfl, hlt, ⟨_, rfl⟩, s.trans s4, ?_⟩
      rw [s4 _ _ hl, ht, List.filterMap_append, List.filterMap_cons, e]
      simp
  · have e : i = xs.length := by omega
    subst e
    refine .inl ⟨S.stop H' s, hd D H' hD s ?_⟩
    rw [hl, List.take_length]
/-- a for over a row: Pv by the turn -/
theorem for_seq {J : It} {g : TG} {tb : TS} {D : Ends} {σ : St} {H0 H : Hp} {xs : List V} (S : SeqIt J H0 xs) (Pv : Nat → St → Hp → Prop) (h0 : Pv 0 σ H) (hS : ∀ i σ H, Pv i σ H → Same H0 H)
    (hs : ∀ (i : Nat) x σ H, xs[i]? = some x → Pv i σ H → g x σ H fun σ2 H2 => tb { D with nx := Pv (i + 1), ct := Pv (i + 1), bk := D.nx } σ2 H2) (hd : ∀ σ H, Pv xs.length σ H → D.nx σ H) :
    ∃ W : Nat → Nat → St → Hp → Prop, (∃ m, W 0 m σ H) ∧ ∀ i m σ H, W i m σ H →
      (J.stop i H ∧ D.nx σ H) ∨ (J.go i H ∧ ∃ N : St → Hp → Prop, (∀ σ' H', N σ' H' → ∃ m', m' < m ∧ W (i + 1) m' σ' H') ∧ ∀ x H', J.yld i H x H' → g x σ H' fun σ2 H2 => tb { D with nx := N, ct := N, bk := D.nx } σ2 H2) := by
  refine ⟨fun i m σ H => m = xs.length - i ∧ i ≤ xs.length ∧ Pv i σ H, ⟨_, rfl, Nat.zero_le _, h0⟩, ?_⟩
  rintro i m σ H ⟨rfl, hi, p⟩
  have s := hS i σ H p
  by_cases hlt : i < xs.length
  · refine .inr ⟨S.go i H s hlt, Pv (i + 1), fun σ' H' p' => ⟨xs.length - (i + 1), by omega, rfl, hlt, p'⟩, fun x H' y => ?_⟩
    obtain ⟨rfl, hx⟩ := S.yld i H x H' s hlt y
    exact hs i x σ _ hx p
  · have e : i = xs.length := by omega
    subst e
    exact .inl ⟨S.stop H s, hd σ H p⟩
theorem tT {A B : Hp → Prop} {σ : St} {H : Hp} (h : A H) : tTrue σ H fun b H4 => if b = true then A H4 else B H4 := by
  show if true = true then A H else B H
  rw [if_pos rfl]; exact h
theorem fm_some {α β : Type} (g : α → β) : ∀ xs : List α, xs.filterMap (fun y => some (g y)) = xs.map g
  | [] => rfl
  | x :: r => by rw [List.filterMap_cons, List.map_cons, fm_some g r]
theorem fm_if {α β : Type} (p : α → Bool) (g : α → β) : ∀ xs : List α, xs.filterMap (fun y => if p y = true then some (g y) else none) = (xs.filter p).map g
  | [] => rfl
  | x :: r => by
    rw [List.filterMap_cons, List.filter_cons, fm_if p g r]
    by_cases h : p x = true
    · rw [if_pos h, if_pos h]; rfl
    · rw [if_neg h, if_neg h]
theorem iteP {c A B : Prop} [Decidable c] (hc : c) (h : A) : if c then A else B := by rw [if_pos hc]; exact h
theorem iteN {c A B : Prop} [Decidable c] (hc : ¬ c) (h : B) : if c then A else B := by rw [if_neg hc]; exact h
theorem ixget {xs : List V} {i : Int} (h0 : 0 ≤ i) (h1 : i < xs.length) : ∃ v, atI xs i = some v ∧ v ∈ xs := by
  obtain ⟨j, rfl⟩ := Int.eq_ofNat_of_zero_le h0
  have hj : j < xs.length := by omega
  exact ⟨xs[j], atI_nat (List.getElem?_eq_getElem hj), List.getElem_mem hj⟩
/-- one name, no test -/
theorem comp_map {J : It} {own : List Str} {caps : List Nat} {te : TE} {σ : St} {H : Hp} {Q : VK} {xs : List V} (S : SeqIt J H xs) (cs : St) (hcs : capS own caps σ = none :: cs) (f : V → V) (hz : xs.length ≤ 1000000)
    (hs : ∀ (i : Nat) x H', xs[i]? = some x → Same H H' → ∀ R : VK, (∀ H5, Same H' H5 → R (f x) H5) → te (some x :: cs) H' R)
    (hd : ∀ D H', H D = none → Same H H' → H' D = some (.lst (xs.map f)) → Q (.ref D) H') : CompK own caps (gName 0) tTrue te σ Q J H := by
  refine comp_seq S cs hcs (fun x => some (f x)) hz (fun i x v0 H' hx s R R' h1 h2 => ?_) fun D H' hD s hl => hd D H' hD s (by rw [hl, fm_some])
  show tTrue (some x :: cs) H' fun b H4 => if b = true then te (some x :: cs) H4 (R (some x :: cs)) else R' (some x :: cs) H4
  exact tT (A := fun H4 => te (some x :: cs) H4 (R (some x :: cs))) (hs i x H' hx s _ fun H5 s5 => h1 _ H5 rfl s5)
/-- one name, a test -/
theorem comp_filt {J : It} {own : List Str} {caps : List Nat} {tc : TT} {te : TE} {σ : St} {H : Hp} {Q : VK} {xs : List V} (S : SeqIt J H xs) (cs : St) (hcs : capS own caps σ = none :: cs) (p : V → Bool) (f : V → V) (hz : xs.length ≤ 1000000)
    (hs : ∀ (i : Nat) x H', xs[i]? = some x → Same H H' → ∀ (R : VK) (R' : Hp → Prop), (p x = true → ∀ H5, Same H' H5 → R (f x) H5) → (p x = false → ∀ H4, Same H' H4 → R' H4) → tc (some x :: cs) H' fun b H4 => if b = true then te (some x :: cs) H4 R else R' H4)
    (hd : ∀ D H', H D = none → Same H H' → H' D = some (.lst ((xs.filter p).map f)) → Q (.ref D) H') : CompK own caps (gName 0) tc te σ Q J H := by
  refine comp_seq S cs hcs (fun x => if p x = true then some (f x) else none) hz (fun i x v0 H' hx s R R' h1 h2 => ?_) fun D H' hD s hl => hd D H' hD s (by rw [hl, fm_if])
  exact hs i x H' hx s (R (some x :: cs)) (R' (some x :: cs)) (fun e H5 s5 => h1 _ H5 (by rw [if_pos e]) s5) fun e H4 s4 => h2 H4 (by rw [if_neg (by rw [e]; decide)]) s4
/-! ### data of ints -/
theorem showAll_ints : ∀ {ns : List Int}, (∀ n ∈ ns, n.natAbs < 2 ^ 200) → PyData.showableAll (ns.map PyData.int) = true ∧ PyData.hasDictAll (ns.map PyData.int) = false ∧ PyData.depthAll (ns.map PyData.int) = 0 ∧ PyData.leavesShortAll 300 (ns.map PyData.int) = true ∧ PyData.bulkAll (ns.map PyData.int) = ns.length ∧ PyData.canLayAll0 (ns.map PyData.int) = true
  | [], _ => ⟨rfl, rfl, rfl, rfl, rfl, rfl⟩
  | n :: r, h => by
    obtain ⟨h1, h2, h3, h4, h5, h6⟩ := showAll_ints (ns := r) fun m hm => h m (List.mem_cons_of_mem _ hm)
    have hn := h n List.mem_cons_self
    have hlog : n.natAbs.log2 < 1920 := by
      by_cases h0 : n.natAbs = 0
      · rw [h0]; decide +kernel
      · have := (Nat.log2_lt h0).mpr hn
        omega
    have hlen : (PyData.shown (.int n)).length ≤ 300 := by
      have h2 : n.natAbs.log2 < 200 := by
        by_cases h0 : n.natAbs = 0
        · rw [h0]; decide +kernel
        · exact (Nat.log2_lt h0).mpr hn
      have := int_text_length_le (k := 200) (by decide) h2
      simp only [PyData.shown]
      rw [PySem.ofString_length]; omega
    refine ⟨?_, ?_, ?_, ?_, ?_, ?_⟩
    · simp only [List.map_cons, PyData.showableAll, PyData.showable, h1, Bool.and_true, decide_eq_true_eq]; exact hlog
    · simp only [List.map_cons, PyData.hasDictAll, PyData.hasDict, h2, Bool.or_false]
    · simp only [List.map_cons, PyData.depthAll, PyData.depth, h3]; rfl
    · simp only [List.map_cons, PyData.leavesShortAll, PyData.leavesShort, h4, Bool.and_true, decide_eq_true_eq]; exact hlen
    · simp only [List.map_cons, PyData.bulkAll, PyData.bulk, h5, List.length_cons]; omega
    · simp only [List.map_cons, PyData.canLayAll0, PyData.canLay0, h6, Bool.and_true]
theorem fit_ints {ns : List Int} (hl : ns.length ≤ 50000) (h : ∀ n ∈ ns, n.natAbs < 2 ^ 200) : FitD (.tuple (ns.map PyData.int)) := by
  obtain ⟨h1, h2, h3, h4, h5, h6⟩ := showAll_ints h
  refine ⟨by simp only [PyData.showable]; exact h1, by simp only [PyData.hasDict]; exact h2, by simp only [PyData.depth, h3]; omega, ?_⟩
  have := PyData.shown_le_bulk 300 (by decide) (.tuple (ns.map PyData.int)) (by simp only [PyData.leavesShort]; exact h4)
  simp only [PyData.bulk, h5] at this
  have e : (16777216 : Nat) = sizeLine := by decide
  omega
end L2

set_option maxHeartbeats 4000000
namespace L2
open PySem PySem.Spec PyProof.Rows
/-- a def stands behind the top under its name -/
def DefIn (K : PySem.W.Frag) (x : Str) (st : Stmt) : Prop :=
  ∃ (f : Addr) (oc : Value) (od an : Option Addr) (osl : Array (Option Value)) (kV doc pm cdv ct : Value), PySem.W.nsIn K mainGlobals x = some (some (.ref f)) ∧
    K.lookup f = some ⟨oc, od, .func (PySem.W.fnOf x x (defArgs st) (defBody st) (defScope st) .none kV doc pm an cdv ct), osl⟩ ∧ PySem.W.codeIn K cdv x = true ∧ PySem.W.keepIn K (.ref f) = true
theorem DefIn.mk {K : PySem.W.Frag} {x : Str} {st : Stmt} {f : Addr} {oc : Value} {od an : Option Addr} {osl : Array (Option Value)} {kV doc pm cdv ct : Value} (a : PySem.W.nsIn K mainGlobals x = some (some (.ref f)))
    (l : K.lookup f = some ⟨oc, od, .func (PySem.W.fnOf x x (defArgs st) (defBody st) (defScope st) .none kV doc pm an cdv ct), osl⟩) (c : PySem.W.codeIn K cdv x = true) (k : PySem.W.keepIn K (.ref f) = true) : DefIn K x st :=
  ⟨f, oc, od, an, osl, kV, doc, pm, cdv, ct, a, l, c, k⟩
theorem DefIn.fn {P : Program} {w : World} {K : PySem.W.Frag} {mg : Str → Option Value} {base h : Heap} {CX : CXT} {k : Nat} {x : Str} {ps : List Str} {sp : Sp} {st : Stmt} (D : DefIn K x st) (X : K.In h) (G : h.Ns mainGlobals mg)
    (hok : ∀ f fd, Fun K x x st f fd → FnOk P w K mg base CX k f fd ps sp)
    (hb : ∀ (kV doc pm : Value) (an : Option Addr) (cdv ct : Value) (us : List Value), us.length = ps.length → bindArgs (PySem.W.fnOf x x (defArgs st) (defBody st) (defScope st) .none kV doc pm an cdv ct) ⟨us, []⟩ = pure (ps.zip us)) :
    Fn P w K mg base CX k x ps sp := by
  obtain ⟨f, oc, od, an, osl, kV, doc, pm, cdv, ct, a, l, c, kp⟩ := D
  exact Fn.mk X G a l c kp (fun fd F => hok f fd F) hb
/-- the law's own def, for walk_of -/
theorem DefIn.law {P : Program} {w : World} {K : PySem.W.Frag} {mg : Str → Option Value} {h : Heap} {CX : CXT} {k : Nat} {x : Str} {p : Str} {sp : Sp} {st : Stmt} {fa : Addr} (D : DefIn K x st) (X : K.In h) (G : h.Ns mainGlobals mg) (hfa : mg x = some (.ref fa))
    (hok : ∀ (base : Heap) f fd, base.Ns mainGlobals mg → K.In base → Fun K x x st f fd → FnOk P w K mg base CX k f fd [p] sp)
    (hb : ∀ (kV doc pm : Value) (an : Option Addr) (cdv ct : Value) (s : Shared) (u : Value), BindsTo s (PySem.W.fnOf x x (defArgs st) (defBody st) (defScope st) .none kV doc pm an cdv ct) ⟨[u], []⟩ [(p, u)]) :
    ∃ fd : FuncData, (∀ (s : Shared) (u : Value), BindsTo s fd ⟨[u], []⟩ [(p, u)]) ∧ ∀ base : Heap, K.In base → base.Ns mainGlobals mg → FnOk P w K mg base CX k fa fd [p] sp := by
  obtain ⟨f, oc, od, an, osl, kV, doc, pm, cdv, ct, a, l, c, kp⟩ := D
  have e := hfa.symm.trans (PySem.W.mg_of X G a)
  cases e
  exact ⟨_, fun s u => hb kV doc pm an cdv ct s u, fun base kb nb => hok base _ _ nb kb (fun_mk l c kp)⟩
end L2

namespace L2
open PySem PySem.Spec PyProof.Rows
end L2

set_option maxHeartbeats 4000000
namespace L2
open PySem PySem.Spec PyProof.Rows
theorem noFillTM : fillsNumberSlot (.type "tuple") "mul" = pure false :=
  PySem.fillsNumberSlot_seq (id := "tuple.__mul__") (r := some (.builtin "tuple.__rmul__")) PySem.F.slot_tuple_mul.lookup (by decide +kernel) PySem.F.slot_tuple_rmul.lookup (by decide +kernel)
theorem repT : seqRepeat? (.type "tuple") = pure (some (.builtin "tuple.__mul__")) := by
  unfold seqRepeat?; rw [PySem.seqSlot_of (T := "tuple") (name := "__mul__") (id := "tuple.__mul__") PySem.F.slot_tuple_mul.lookup (by decide +kernel), PySem.seqSlot_of (T := "tuple") (name := "__rmul__") (id := "tuple.__rmul__") PySem.F.slot_tuple_rmul.lookup (by decide +kernel)]; rfl
abbrev tob (dd : Option Addr) (items : Array Value) (n : Nat) (sl : Array (Option Value)) : Obj := { cls := .type "tuple", dict := dd, data := .seq items n, slots := sl }
theorem rmulT (a : Int) (t : Tok) (l : Addr) (items : Array Value) (n : Nat) (dd : Option Addr) (sl : Array (Option Value)) :
    Meets (Builtin.«int.__rmul__» ⟨[.int a t, .ref l], []⟩) (fun _ R s => s.heap.get? l = some (tob dd items n sl) ∧ R (.ok (.ret Value.notImplemented)) s) := .of_wp fun prog w A R s h => by
  obtain ⟨hp, g, d, tk, os⟩ := s; obtain ⟨hl, h⟩ := h
  wp_walk; exact ⟨_, rfl, h⟩
theorem mulT1 (l : Addr) (items : Array Value) (n : Nat) (dd : Option Addr) (sl : Array (Option Value)) (t : Tok) :
    Meets (Builtin.«tuple.__mul__» ⟨[.ref l, .int 1 t], []⟩) (fun _ R s => s.heap.get? l = some (tob dd items n sl) ∧ R (.ok (.ret (.ref l))) s) := .of_wp fun prog w A R s h => by
  obtain ⟨hp, g, d, tk, os⟩ := s; obtain ⟨hl, h⟩ := h
  have f1 := AutoSeq1.idx_int; have f2 := AutoSeq1.sub_tuple_tuple
  wp_walk using wpAny_loadPart' hl
  exact ⟨_, rfl, h⟩
theorem mulT0 (l : Addr) (items : Array Value) (n : Nat) (dd : Option Addr) (sl : Array (Option Value)) (t : Tok) (he : items.isEmpty = false) :
    Meets (Builtin.«tuple.__mul__» ⟨[.ref l, .int 0 t], []⟩) (fun _ R s => s.heap.get? l = some (tob dd items n sl) ∧ R (.ok (.ret (.ref s.heap.objs.size))) { s with heap := s.heap.push { cls := .type "tuple", data := .seq #[] } }) := .of_wp fun prog w A R s h => by
  obtain ⟨hp, g, d, tk, os⟩ := s; obtain ⟨hl, h⟩ := h
  have f1 := AutoSeq1.idx_int; have f2 := AutoSeq1.sub_tuple_tuple
  wp_walk using wpAny_loadPart' hl
  exact ⟨_, rfl, h⟩
theorem mulTn (l : Addr) (items : Array Value) (n : Nat) (dd : Option Addr) (sl : Array (Option Value)) (k : Int) (t : Tok) (h1 : ¬ (decide (k < -(2 ^ 63)) || decide (k ≥ 2 ^ 63)) = true) (h2 : ¬ (items.isEmpty || k == 1) = true) (h3 : ¬ (decide (k ≤ 0) || items.isEmpty) = true)
    (h4 : ¬ ((items.size : Int) * k > (2 ^ 63 - 1) / 8)) (h5 : ¬ Builtin.Tuple.tupleTooMany ((items.size : Int) * k) = true) (h6 : ((List.replicate k.toNat items).foldl (· ++ ·) #[]).size ≤ sizeLine) :
    Meets (Builtin.«tuple.__mul__» ⟨[.ref l, .int k t], []⟩) (fun _ R s => s.heap.get? l = some (tob dd items n sl) ∧ R (.ok (.ret (.ref s.heap.objs.size))) { s with heap := s.heap.push { cls := .type "tuple", data := .seq ((List.replicate k.toNat items).foldl (· ++ ·) #[]) } }) := .of_wp fun prog w A R s h => by
  obtain ⟨hp, g, d, tk, os⟩ := s; obtain ⟨hl, h⟩ := h
  have f1 := AutoSeq1.idx_int; have f2 := AutoSeq1.sub_tuple_tuple
  wp_walk using wpAny_loadPart' hl
  rw [if_neg h1]
  wp_walk using wpAny_loadPart' hl
  all_goals (try rw [if_neg h2])
  all_goals (try wp_walk using wpAny_loadPart' hl)
  all_goals (try rw [if_neg h3])
  all_goals (try wp_walk using wpAny_loadPart' hl)
  all_goals (try rw [if_neg h4])
  all_goals (try wp_walk using wpAny_loadPart' hl)
  all_goals (try rw [if_neg h5])
  all_goals (try wp_walk using wpAny_loadPart' hl)
  all_goals first | exact ⟨_, rfl, h⟩ | exact h6
end L2

set_option maxHeartbeats 4000000
namespace L2
open PySem PySem.Spec PyProof.Rows
theorem foldl_app (its : List Value) : ∀ (m : Nat) (acc : List Value), (List.replicate m its.toArray).foldl (· ++ ·) acc.toArray = (acc ++ (List.replicate m its).flatten).toArray
  | 0, acc => by simp
  | m + 1, acc => by
    rw [List.replicate_succ, List.foldl_cons, List.replicate_succ, List.flatten_cons, ← List.append_assoc]
    have : acc.toArray ++ its.toArray = (acc ++ its).toArray := by simp
    rw [this]
    exact foldl_app its m (acc ++ its)
section
variable {X : Cx}
theorem Vals.repl {xs : List V} {us : List Value} (r : Vals xs us) : ∀ m : Nat, Vals (List.replicate m xs).flatten (List.replicate m us).flatten
  | 0 => .nil
  | m + 1 => by rw [List.replicate_succ, List.replicate_succ, List.flatten_cons, List.flatten_cons]; exact r.append (Vals.repl r m)
/-- a tuple, not empty, so many times -/
def rRepT : R2 := fun x y H Q => ∃ (a : Addr) (xs : List V) (k : Nat), x = .ref a ∧ y = .int k ∧ H a = some (.tup xs) ∧ xs ≠ [] ∧ xs.length * k ≤ 1000000 ∧ k ≤ 1000000 ∧ ∀ p H', Same H H' → H' p = some (.tup (List.replicate k xs).flatten) → Q (.ref p) H'
theorem op_repT : OpR X (binaryOp .Mult) rRepT := by
  intro pins s σ H x y v u Q I rx ry h
  obtain ⟨a, xs, k, rfl, rfl, ha, hx, hz, hk, q⟩ := h
  cases rx
  obtain ⟨t, rfl⟩ := ry
  obtain ⟨its, r1, p1, _⟩ := I.tuple (SqT.of ha)
  have hl := r1.length
  have hne : its ≠ [] := fun e => by rw [e] at r1; cases r1; exact hx rfl
  have hem : its.toArray.isEmpty = false := by cases its with | nil => exact absurd rfl hne | cons _ _ => rfl
  obtain ⟨⟨cls, dd, data, sl⟩, ho, hc, n, hd⟩ := id p1
  simp only at hc hd
  subst hc hd
  have sz : (16777216 : Nat) = sizeLine := by decide
  have fl : (List.replicate ((k : Nat) : Int).toNat its.toArray).foldl (· ++ ·) #[] = ((List.replicate k its).flatten).toArray := by
    have := foldl_app its k []
    rw [Int.toNat_natCast]; simpa using this
  have flen : ((List.replicate k its).flatten).length = k * its.length := len_rep its k
  refine wpAny_binaryOp_repeat_ref (T := "tuple") (U := "int") (by decide) ⟨_, ho, rfl⟩ (fun s' => typeIs_int s' k t) noFillTM F.fills_int_mul F.slot_int_rmul repT F.slot_int_index.lookup
    (call_meets F.slot_int_rmul (typeIs_int s k t) F.entry_int_rmul (F.args_int_rmul_2 _ _) (rmulT k t a its.toArray n dd sl) ⟨ho, rfl, ⟨_, ho, rfl⟩, ?_⟩)
  by_cases k0 : k = 0
  · subst k0
    refine call_meets F.slot_tuple_mul ⟨_, ho, rfl⟩ F.entry_tuple_mul (F.args_tuple_mul_2 _ _) (mulT0 a its.toArray n dd sl t hem) ⟨ho, ?_⟩
    exact ⟨.ref s.heap.objs.size, _, I.laid (t' := s.toks) (o := .tup []) (fun b ob q => Heap.get?_push_of_some _ q) (Nat.le_refl _) ⟨Nat.zero_le _, [], .nil, IsTup.new _ _⟩, rfl, q _ _ (Same.upd (I.hok.fresh (Nat.le_refl _))) (by rw [upd_same]; rfl)⟩
  by_cases k1 : k = 1
  · subst k1
    refine call_meets F.slot_tuple_mul ⟨_, ho, rfl⟩ F.entry_tuple_mul (F.args_tuple_mul_2 _ _) (mulT1 a its.toArray n dd sl t) ⟨ho, ?_⟩
    exact ⟨.ref a, H, I, rfl, q _ _ (Same.refl H) (by rw [ha]; simp)⟩
  · refine call_meets F.slot_tuple_mul ⟨_, ho, rfl⟩ F.entry_tuple_mul (F.args_tuple_mul_2 _ _) (mulTn a its.toArray n dd sl k t ?_ ?_ ?_ ?_ ?_ ?_) ⟨ho, ?_⟩
    · simp only [Bool.or_eq_true, decide_eq_true_eq, not_or]; omega
    · rw [hem]; simp; omega
    · rw [hem]; simp; omega
    · rw [List.size_toArray, ← hl]
      have : ((xs.length * k : Nat) : Int) ≤ 1000000 := by omega
      rw [Int.natCast_mul] at this
      omega
    · unfold Builtin.Tuple.tupleTooMany
      rw [List.size_toArray, ← hl]
      have : ((xs.length * k : Nat) : Int) ≤ 1000000 := by omega
      rw [Int.natCast_mul] at this
      simp only [decide_eq_true_eq]
      omega
    · rw [fl, List.size_toArray, flen, ← hl, Nat.mul_comm]; omega
    · rw [fl]
      exact ⟨.ref s.heap.objs.size, _, I.laid (t' := s.toks) (o := .tup (List.replicate k xs).flatten) (fun b ob q => Heap.get?_push_of_some _ q) (Nat.le_refl _) ⟨by rw [len_rep, Nat.mul_comm]; omega, _, Vals.repl r1 k, IsTup.new _ _⟩, rfl, q _ _ (Same.upd (I.hok.fresh (Nat.le_refl _))) upd_same⟩
end
theorem gT {te : TE} {N : St → Hp → Prop} {Kt : St → V → Hp → Prop} {x : V} {v0 : Option V} {cs : St} {H : Hp} (h : te (some x :: cs) H (Kt (some x :: cs))) : gName 0 x (v0 :: cs) H fun σ3 H3 => tTrue σ3 H3 fun b H4 => if b = true then te σ3 H4 (Kt σ3) else N σ3 H4 := by
  show if true = true then te (some x :: cs) H (Kt (some x :: cs)) else N (some x :: cs) H
  rw [if_pos rfl]; exact h
/-- a comprehension of one name, no test, whose element may do more than make things: G by the turn, what is filled in, the heap -/
theorem comp_gen {J : It} {own : List Str} {caps : List Nat} {te : TE} {σ : St} {H : Hp} {Q : VK} {xs : List V} (G : Addr → Nat → List V → Hp → Prop) (cs : St) (hcs : capS own caps σ = none :: cs) (hz : xs.length ≤ 1000000)
    (S : ∀ D i ys H', H D = none → H' D = some (.lst ys) → G D i ys H' → (i < xs.length → J.go i H' ∧ ∀ x H2, J.yld i H' x H2 → H2 = H' ∧ xs[i]? = some x) ∧ (i = xs.length → J.stop i H'))
    (h0 : ∀ D, H D = none → G D 0 [] (upd H D (.lst [])))
    (hs : ∀ D (i : Nat) x ys H', H D = none → H' D = some (.lst ys) → xs[i]? = some x → G D i ys H' → ∀ R : VK, (∀ v H5, H5 D = some (.lst ys) → G D (i + 1) (ys ++ [v]) (upd H5 D (.lst (ys ++ [v]))) → R v H5) → te (some x :: cs) H' R)
    (hd : ∀ D ys H', H D = none → H' D = some (.lst ys) → ys.length = xs.length → G D xs.length ys H' → Q (.ref D) H') : CompK own caps (gName 0) tTrue te σ Q J H := by
  intro D hD
  refine ⟨fun i m σ' H' => m = xs.length - i ∧ i ≤ xs.length ∧ (∃ v0, σ' = v0 :: cs) ∧ ∃ ys, H' D = some (.lst ys) ∧ ys.length = i ∧ G D i ys H', ⟨_, rfl, Nat.zero_le _, ⟨none, hcs⟩, [], upd_same, rfl, h0 D hD⟩, ?_⟩
  rintro i m σ' H' ⟨rfl, hi, ⟨v0, rfl⟩, ys, hl, hy, g⟩
  obtain ⟨S1, S2⟩ := S D i ys H' hD hl g
  by_cases hlt : i < xs.length
  · refine .inr ⟨(S1 hlt).1, _, fun σ2 H2 z => z, fun x H2 y => ?_⟩
    obtain ⟨rfl, hx⟩ := (S1 hlt).2 x H2 y
    refine gT ?_
    refine hs D i x ys H2 hD hl hx g _ fun v H5 h5 g5 => ⟨ys, h5, ?_, xs.length - (i + 1), by omega, rfl, hlt, ⟨_, rfl⟩, ys ++ [v], upd_same, by rw [List.length_append]; simp [hy], g5⟩
    have : (16777216 : Nat) = sizeLine := by decide
    omega
  · have e : i = xs.length := by omega
    exact .inl ⟨S2 e, hd D ys H' hD hl (by omega) (e ▸ g)⟩
/-- name = [..] -/
theorem setc {X : Cx} (i : Nat) (own : List Str) (caps : List Nat) (N' : List Str) {scope : Scope} {elt iter tg : Expr} {ifs : List Expr} {pos spos py : Pos} {y : Str} {wi : TI} {g : TG} {tc : TT} {te : TE} (hc : X.calm = true) (hf : X.fn y = true) (hi : PI X tg iter wi)
    (hg : ∀ cl C s H ex, PG (compCx X scope cl N' C s H ex) tg g) (ht : ∀ cl C s H ex, PIf (compCx X scope cl N' C s H ex) ifs tc) (he : ∀ cl C s H ex, PE (compCx X scope cl N' C s H ex) elt te)
    (hS : compOk X.N X.env.scope own caps N' scope = true := by kernel_rfl) (hy : X.N[i]? = some y := by rfl) (hN : nodupS X.N = true := by kernel_rfl) (hx : isLoc X.env.scope y = true := by kernel_rfl)
    (hsw : swapsWith (.ListComp elt [⟨tg, iter, ifs, 0⟩] scope pos) (some (.Name y py)) spos.line X.env = pure true := by rfl) (hs : ∀ x, foldedSetIterable iter X.env x = pure x := by intro _; rfl) :
    PS X (.Assign [.Name y py] (.ListComp elt [⟨tg, iter, ifs, 0⟩] scope pos) spos) (tAsg (tComp own caps wi g tc te) (gName i)) := ps_setComp rfl (.of hS) hc hi hg ht he (nodupS_ok hN) hy (isLoc_ok hx) (.inl hf) hsw hs
end L2

set_option maxHeartbeats 4000000
/-! enumerate over a tuple -/
namespace PyY
open PySem
open AutoSeq1 (wpAny_loadPart')
section
variable {prog : Program} {w : World} {A : Around} {E : Value → Shared → Prop} {s : Shared}
theorem nextT_item {j a : Addr} {k : Nat} {us : Array Value} {y : Value} {Q : Value → Shared → Prop} (c : s.heap.IsTupleIter j a k) (d : s.heap.IsTuple a us) (e : us[k]? = some y)
    (q : ∀ g, g.IsTupleIter j a (k + 1) → Heap.SameBut j s.heap g → Q y { s with heap := g }) : wpAny (model prog w) A (Builtin.SmallTypes.nextOf (.ref j)) Q E s := by
  obtain ⟨oj, hj, cj, dj⟩ := id c
  obtain ⟨oa, ha, _, na, da⟩ := d
  unfold Builtin.SmallTypes.nextOf
  refine wpAny_bind (wpAny_callSpecial?_slot (name := Str.ofString "__next__") c.typeIs F.slot_tuple_iterator_next (wpAny_call_entry F.slot_tuple_iterator_next c.typeIs F.entry_tuple_iterator_next ?_ (F.args_tuple_iterator_next_1 _)))
  show wpAny _ _ (field (.ref j) 0 >>= _) _ _ s
  refine wpAny_bind (wpAny_field hj dj (x := .ref a) rfl ?_)
  show wpAny _ _ (if (Value.ref a == Value.none) = true then _ else _) _ _ s
  rw [if_neg (show ¬ ((Value.ref a == Value.none) = true) from Bool.false_ne_true)]
  show wpAny _ _ (field (.ref j) 1 >>= _) _ _ s
  refine wpAny_bind (wpAny_field hj dj (x := .int k 0) rfl ?_)
  show wpAny _ _ (seqItems? (.ref a) >>= _) _ _ s
  refine wpAny_bind (wpAny_seqItems ha da ?_)
  simp only [Int.toNat_natCast, e]
  refine wpAny_bind (wpAny_setField hj dj (by simp) (wpAny_pure ⟨y, rfl, wpAny_pure (q _ ?_ (Heap.SameBut.update ..))⟩))
  refine ⟨_, Heap.get?_update_self _ hj (Obj.isFreed_of_fields (Obj.data_mapFields dj _)), (Obj.cls_mapFields ..).trans cj, ?_⟩
  rw [Obj.data_mapFields dj]
  simp [rawInt]
theorem nextT_end {j a : Addr} {k : Nat} {us : Array Value} {Q : Value → Shared → Prop} (hn : A.handled = none) (c : s.heap.IsTupleIter j a k) (d : s.heap.IsTuple a us) (e : us[k]? = none)
    (q : ∀ g x, Heap.ExtBut j s.heap g → (∃ o, g.get? x = some o ∧ o.cls = .type "StopIteration") → E (.ref x) { s with heap := g }) : wpAny (model prog w) A (Builtin.SmallTypes.nextOf (.ref j)) Q E s := by
  obtain ⟨oj, hj, cj, dj⟩ := id c
  obtain ⟨oa, ha, _, na, da⟩ := d
  unfold Builtin.SmallTypes.nextOf
  refine wpAny_bind (wpAny_callSpecial?_slot (name := Str.ofString "__next__") c.typeIs F.slot_tuple_iterator_next (wpAny_call_entry F.slot_tuple_iterator_next c.typeIs F.entry_tuple_iterator_next ?_ (F.args_tuple_iterator_next_1 _)))
  show wpAny _ _ (field (.ref j) 0 >>= _) _ _ s
  refine wpAny_bind (wpAny_field hj dj (x := .ref a) rfl ?_)
  show wpAny _ _ (if (Value.ref a == Value.none) = true then _ else _) _ _ s
  rw [if_neg (show ¬ ((Value.ref a == Value.none) = true) from Bool.false_ne_true)]
  show wpAny _ _ (field (.ref j) 1 >>= _) _ _ s
  refine wpAny_bind (wpAny_field hj dj (x := .int k 0) rfl ?_)
  show wpAny _ _ (seqItems? (.ref a) >>= _) _ _ s
  refine wpAny_bind (wpAny_seqItems ha da ?_)
  simp only [Int.toNat_natCast, e]
  refine wpAny_bind (wpAny_rule (wpAny_bind (wpAny_setField hj dj (by simp) ?_)))
  show wpAny _ _ (newExc (.type "StopIteration") [] >>= _) _ _ { s with heap := _ }
  refine wpAny_bind ?_
  unfold newExc newTuple
  refine wpAny_bind (wpAny_newObj_type (Q := _) ?_ (by size_fits))
  refine wpAny_bind (m := firstArgMember _ _) (wpAny_of_eq (a := Value.none) (by first | rfl | (unfold firstArgMember; rfl)) ?_)
  refine wpAny_newObj_type (Q := _) ?_ (by size_fits)
  unfold raiseNew
  refine wpAny_bind (wpAny_handled ?_)
  have hn' : A.in1.handled = none := hn
  rw [hn']
  refine wpAny_bind (wpAny_pure (wpAny_throw (E := E) ?_))
  exact q _ _ (((Heap.SameBut.update ..).extBut.push _).push _) ⟨_, Heap.get?_push_size _ rfl, rfl⟩
theorem enumT_item {n j a : Addr} {k : Nat} {us : Array Value} {y old : Value} {Q : Option Value → Shared → Prop} (b : IsEnum s.heap n j k old) (c : s.heap.IsTupleIter j a k) (d : s.heap.IsTuple a us) (e : us[k]? = some y) (nj : n ≠ j)
    (q : ∀ g, IsEnumOut g n j ((k : Int) + 1) y s.heap.objs.size → g.IsTupleIter j a (k + 1) → g.get? s.heap.objs.size = some { cls := .type "tuple", data := .seq #[.int k s.toks, y] } → g.objs.size = s.heap.objs.size + 1 →
      (∀ x o, x ≠ n → x ≠ j → s.heap.get? x = some o → g.get? x = some o) → Q (some (.ref s.heap.objs.size)) { s with heap := g, toks := s.toks + 1 }) : wpAny (model prog w) A (pyNext (.ref n)) Q E s := by
  have tn : s.TypeIs (.ref n) "enumerate" := ⟨_, b, rfl⟩
  unfold pyNext
  refine wpAny_bind (wpAny_attempt (wpAny_callSpecial?_slot (name := Str.ofString "__next__") tn F.slot_enumerate_next (wpAny_call_entry F.slot_enumerate_next tn F.entry_enumerate_next ?_ (F.args_enumerate_next_1 _))))
  obtain ⟨g0, gs, dr, tk, os⟩ := s
  show wpAny _ _ (field (.ref n) 2 >>= _) _ _ _
  refine wpAny_bind (wpAny_field b rfl (x := .ref j) rfl ?_)
  refine wpAny_bind (nextT_item c d e fun g1 c1 s1 => ?_)
  replace s1 : Heap.SameBut j g0 g1 := s1
  have b1 : IsEnum g1 n j k old := (s1.2 n nj).trans b
  show wpAny _ _ (field (.ref n) 3 >>= _) _ _ ⟨g1, gs, dr, tk, os⟩
  refine wpAny_bind (wpAny_field b1 rfl (x := rawInt k) rfl ?_)
  show wpAny _ _ (field (.ref n) 4 >>= _) _ _ ⟨g1, gs, dr, tk, os⟩
  refine wpAny_bind (wpAny_field b1 rfl (x := .none) rfl ?_)
  show wpAny _ _ (mkInt k >>= _) _ _ ⟨g1, gs, dr, tk, os⟩
  refine wpAny_bind (wpAny_mkInt ?_)
  show wpAny _ _ (setField (.ref n) 3 (rawInt ((k : Int) + 1)) >>= _) _ _ ⟨g1, gs, dr, tk + 1, os⟩
  refine wpAny_bind (wpAny_setField_rec b1 (by simp) fun g2 b2 s2 => ?_)
  replace s2 : Heap.SameBut n g1 g2 := s2
  replace b2 : IsEnum g2 n j ((k : Int) + 1) old := b2
  show wpAny _ _ (setField (.ref n) 4 .none >>= _) _ _ ⟨g2, gs, dr, tk + 1, os⟩
  refine wpAny_bind (wpAny_setField_rec b2 (by simp) fun g3 b3 s3 => ?_)
  replace s3 : Heap.SameBut n g2 g3 := s3
  replace b3 : IsEnum g3 n j ((k : Int) + 1) old := b3
  show wpAny _ _ (newTuple [.int k tk, y] >>= _) _ _ ⟨g3, gs, dr, tk + 1, os⟩
  refine wpAny_bind (wpAny_newTuple ?_)
  have b4 : IsEnum (g3.push { cls := .type "tuple", data := .seq #[.int k tk, y] }) n j ((k : Int) + 1) old := Heap.get?_push_of_some _ b3
  generalize z4 : g3.push { cls := .type "tuple", data := .seq #[.int k tk, y] } = g4 at b4
  have sz : g3.objs.size = g0.objs.size := by rw [s3.1, s2.1, s1.1]
  have nl : n < g0.objs.size := Heap.lt_size b
  have t4 : g4.get? g0.objs.size = some { cls := .type "tuple", data := .seq #[.int k tk, y] } := by
    rw [← z4, ← sz]
    exact Heap.get?_push_size _ rfl
  have w4 : g4.objs.size = g0.objs.size + 1 := by
    rw [← z4, Heap.size_push, sz]
  have k4 : ∀ x o, x ≠ n → x ≠ j → g0.get? x = some o → g4.get? x = some o := fun x o xn xj hx => by
    rw [← z4]
    exact Heap.get?_push_of_some _ (s3.extBut x o xn (s2.extBut x o xn (s1.extBut x o xj hx)))
  have c4 : g4.IsTupleIter j a (k + 1) := by
    obtain ⟨o, ho, r⟩ := (c1.extBut s2.extBut (Ne.symm nj)).extBut s3.extBut (Ne.symm nj)
    rw [← z4]
    exact ⟨o, Heap.get?_push_of_some _ ho, r⟩
  show wpAny _ _ (Builtin.SmallTypes.ownedTupleIsFree (.ref n) >>= _) _ _ ⟨g4, gs, dr, tk + 1, os⟩
  rw [sz]
  clear z4 b3 s3 b2 s2 b1 s1 c1 sz g3 g2 g1
  refine wpAny_bind ?_
  unfold Builtin.SmallTypes.ownedTupleIsFree
  refine wpAny_bind (wpAny_field b4 rfl (x := .none) rfl (wpAny_pure ?_))
  rw [if_pos rfl]
  refine wpAny_bind (wpAny_rule (wpAny_bind (wpAny_field b4 rfl (x := old) rfl ?_)))
  refine wpAny_bind (wpAny_setField_rec b4 (by simp) fun g5 b5 s5 => ?_)
  replace s5 : Heap.SameBut n g4 g5 := s5
  replace b5 : IsEnum g5 n j ((k : Int) + 1) y := b5
  show wpAny _ _ (Builtin.SmallTypes.ownedTupleHandOut (.ref n) (.ref g0.objs.size) >>= _) _ _ ⟨g5, gs, dr, tk + 1, os⟩
  refine wpAny_bind ?_
  unfold Builtin.SmallTypes.ownedTupleHandOut
  refine wpAny_bind (wpAny_setField_rec b5 (by simp) fun g6 b6 s6 => ?_)
  replace s6 : Heap.SameBut n g5 g6 := s6
  replace b6 : IsEnumOut g6 n j ((k : Int) + 1) y g0.objs.size := b6
  refine wpAny_setField_rec b6 (by simp) fun g7 b7 s7 => ?_
  replace s7 : Heap.SameBut n g6 g7 := s7
  replace b7 : IsEnumOut g7 n j ((k : Int) + 1) y g0.objs.size := b7
  refine wpAny_bind (wpAny_letGo (wpAny_pure ⟨_, rfl, wpAny_pure (q g7 b7 ?_ ?_ ?_ ?_)⟩))
  · exact ((c4.extBut s5.extBut (Ne.symm nj)).extBut s6.extBut (Ne.symm nj)).extBut s7.extBut (Ne.symm nj)
  · exact s7.extBut _ _ (Nat.ne_of_gt nl) (s6.extBut _ _ (Nat.ne_of_gt nl) (s5.extBut _ _ (Nat.ne_of_gt nl) t4))
  · rw [s7.1, s6.1, s5.1, w4]
  · exact fun x o xn xj hx => s7.extBut x o xn (s6.extBut x o xn (s5.extBut x o xn (k4 x o xn xj hx)))
theorem enumT_end {n j a : Addr} {k : Nat} {us : Array Value} {old : Value} {Q : Option Value → Shared → Prop} (hn : A.handled = none) (b : IsEnum s.heap n j k old) (c : s.heap.IsTupleIter j a k) (d : s.heap.IsTuple a us) (e : us[k]? = none)
    (q : ∀ g, Heap.ExtBut j s.heap g → Q none { s with heap := g }) : wpAny (model prog w) A (pyNext (.ref n)) Q E s := by
  have tn : s.TypeIs (.ref n) "enumerate" := ⟨_, b, rfl⟩
  unfold pyNext
  refine wpAny_bind (wpAny_attempt (wpAny_callSpecial?_slot (name := Str.ofString "__next__") tn F.slot_enumerate_next (wpAny_call_entry F.slot_enumerate_next tn F.entry_enumerate_next ?_ (F.args_enumerate_next_1 _))))
  show wpAny _ _ (field (.ref n) 2 >>= _) _ _ _
  refine wpAny_bind (wpAny_field b rfl (x := .ref j) rfl ?_)
  refine wpAny_bind (nextT_end hn c d e fun g x xe xs => ?_)
  obtain ⟨o, ho, hc⟩ := xs
  refine wpAny_bind (wpAny_isInstance (T := "StopIteration") (b := true) ⟨o, ho, hc⟩ isSubtype_stop ?_)
  exact wpAny_pure (q _ xe)
theorem enumT_new (a : Addr) (us : Array Value) (n : Nat) (dd : Option Addr) (sl : Array (Option Value)) :
    Meets (Builtin.«enumerate.__new__» ⟨[.type "enumerate", .ref a], []⟩) (fun _ R s => s.heap.get? a = some { cls := .type "tuple", dict := dd, data := .seq us n, slots := sl } ∧
      R (.ok (.ret (.ref (s.heap.push { cls := .type "tuple_iterator", data := .fields #[.ref a, .int 0 0] }).objs.size)))
        { s with heap := (s.heap.push { cls := .type "tuple_iterator", data := .fields #[.ref a, .int 0 0] }).push { cls := .type "enumerate", data := .fields #[.none, .bool false, .ref s.heap.objs.size, rawInt 0, .none, .none] } }) :=
  .of_wp fun prog w A R s h => by
    obtain ⟨hh, gg, dr, tk, os⟩ := s
    obtain ⟨ha, h⟩ := h
    have sub := sub_enumerate
    have hT : Heap.IsTuple (Shared.heap ⟨hh, gg, dr, tk, os⟩) a us := ⟨_, ha, rfl, n, rfl⟩
    wp_walk using wpAny_loadPart' ha
    refine wpAny_stack_any fun st => wpAny_pure ?_
    split
    · rename_i c1 _ _ _ _ _
      cases (c1 == Value.type "enumerate") <;> (wp_walk using wpAny_loadPart' ha, wpAny_pyIter_tuple hT) <;> exact ⟨_, rfl, h⟩
    · wp_walk using wpAny_loadPart' ha, wpAny_pyIter_tuple hT
      exact ⟨_, rfl, h⟩
theorem call_enumT {a : Addr} {us : Array Value} {Q : Value → Shared → Prop} (hT : s.heap.IsTuple a us)
    (h : ∀ g, IsEnum g (s.heap.objs.size + 1) s.heap.objs.size 0 .none → g.IsTupleIter s.heap.objs.size a 0 → g.objs.size = s.heap.objs.size + 2 → (∀ b o, s.heap.get? b = some o → g.get? b = some o) → Q (.ref (s.heap.objs.size + 1)) { s with heap := g }) :
    wpAny (model prog w) A (call (.type "enumerate") [.ref a]) Q E s := by
  obtain ⟨⟨cc, dd, dt, sl⟩, ha, hc, n, hd⟩ := hT
  have hc' : cc = .type "tuple" := hc
  have hd' : dt = .seq us n := hd
  subst hc' hd'
  refine callType_new F.called_enumerate (by decide) (F.typeCall_enumerate_1 _) (F.newCall_enumerate_1 _) (fun obj => F.args_object_init_2 obj _) F.entry_enumerate_new (enumT_new a us n dd sl) ⟨ha, ?_⟩
  have hz : (s.heap.push { cls := .type "tuple_iterator", data := .fields #[.ref a, .int 0 0] }).objs.size = s.heap.objs.size + 1 := Heap.size_push ..
  show _ ∧ _
  rw [hz]
  have he : IsEnum ((s.heap.push { cls := .type "tuple_iterator", data := .fields #[.ref a, .int 0 0] }).push { cls := .type "enumerate", data := .fields #[.none, .bool false, .ref s.heap.objs.size, rawInt 0, .none, .none] }) (s.heap.objs.size + 1) s.heap.objs.size 0 .none := by
    have z := Heap.get?_push_size (s.heap.push { cls := .type "tuple_iterator", data := .fields #[.ref a, .int 0 0] }) (o := { cls := .type "enumerate", data := .fields #[.none, .bool false, .ref s.heap.objs.size, rawInt 0, .none, .none] }) rfl
    rw [hz] at z
    exact z
  exact ⟨⟨_, he, rfl⟩, h _ he ⟨_, Heap.get?_push_of_some _ (Heap.get?_push_size _ rfl), rfl, rfl⟩ (by rw [Heap.size_push, hz]) fun b o y => Heap.get?_push_of_some _ (Heap.get?_push_of_some _ y)⟩
end
end PyY

set_option maxHeartbeats 4000000
namespace L2
open PySem PySem.Spec PyProof.Rows
section
variable {X : Cx} {pins : List (Addr × Obj)} {σ : St} {H : Hp} {s : Shared} {h' : Heap}
/-- the objects of an iterator turn, and a new one is laid -/
theorem Inv.turnLay {t' : Nat} {ts : List Addr} {T : Addr} {o : HO} (I : Inv X pins σ H s) (k : ∀ b u, b ∉ ts → s.heap.get? b = some u → h'.get? b = some u) (ht : ∀ b ∈ ts, ∃ u, h'.get? b = some u) (hf : ∀ b ∈ ts, FpOk X pins H b) (hT : s.heap.objs.size ≤ T)
    (new : ObjOk X.prog X.w (upd H T o) h' T o) : Inv X pins σ (upd H T o) { s with heap := h', toks := t' } := by
  have fT : H T = none := I.hok.fresh hT
  have nts : ∀ b u, H b = some u → b ∉ ts := fun b u e z => by
    have := (hf b z).1
    rw [e] at this
    cases this
  refine I.call (ch := ts) (g' := s.gens) (d' := s.drawn) ⟨fun b u e _ _ nx => k b u nx e, fun b u e _ _ nx => ⟨u.slots, k b u nx e⟩, fun b u e n _ => ?_, fun b u e nx => ⟨u, k b u nx e⟩, fun b ys q => ?_, fun b u v q => ?_, fun b ps q => ⟨#[], ?_⟩⟩
    (fun b u e => ?_) I.bare fun b hb => ?_
  · rw [upd_ne (Nat.ne_of_lt (Nat.lt_of_lt_of_le (Heap.lt_size e) hT))]
    exact n
  · rw [upd_ne (ne_of_none q fT)]
    exact q
  · rw [upd_ne (ne_of_none q fT)]
    exact q
  · rw [upd_ne (ne_of_none q fT), q]
    simp
  · by_cases hb : b = T
    · subst hb
      rw [upd_same] at e
      cases e
      exact new
    · rw [upd_ne hb] at e
      refine (I.hok b u e).stay (fun c v hc q => k c v ?_ q) (fun c r => by rw [upd_ne (ne_of_none r fT)]; exact r) fun c ys r => by rw [upd_ne (ne_of_none r fT)]; exact r
      rcases hc with z | z
      · rw [z]
        exact nts b u e
      · exact nts c _ z
  · obtain ⟨f0, f1, f2, f3, f4, f5⟩ := hf b hb
    exact ⟨f3, f1, f4, f5⟩
theorem Inv.turnedL {t' : Nat} {ts : List Addr} (I : Inv X pins σ H s) (k : ∀ b u, b ∉ ts → s.heap.get? b = some u → h'.get? b = some u) (hf : ∀ b ∈ ts, FpOk X pins H b) : Inv X pins σ H { s with heap := h', toks := t' } := by
  have nts : ∀ b u, H b = some u → b ∉ ts := fun b u e z => by
    have := (hf b z).1
    rw [e] at this
    cases this
  refine I.call (ch := ts) (g' := s.gens) (d' := s.drawn) ⟨fun b u e _ _ nx => k b u nx e, fun b u e _ _ nx => ⟨u.slots, k b u nx e⟩, fun b u e n _ => n, fun b u e nx => ⟨u, k b u nx e⟩, fun b ys q => q, fun b u v q => q, fun b ps q => ⟨#[], by rw [q]; simp⟩⟩
    (fun b u e => ?_) I.bare fun b hb => ?_
  · refine (I.hok b u e).stay (fun c v hc q => k c v ?_ q) (fun c r => r) fun c ys r => r
    rcases hc with z | z
    · rw [z]
      exact nts b u e
    · exact nts c _ z
  · obtain ⟨f0, f1, f2, f3, f4, f5⟩ := hf b hb
    exact ⟨f3, f1, f4, f5⟩
end
/-- (0, x0), (1, x1), .. of the list, of the tuple at a -/
def Itle (K : PySem.W.Frag) (a : Addr) : It :=
  ⟨fun i H => ∃ xs x, SqL K H a xs ∧ xs[i]? = some x, fun i H x H' => ∃ T y, x = .ref T ∧ H T = none ∧ H' = upd H T (.tup [.int i, y]) ∧ ∀ xs, SqL K H a xs → xs[i]? = some y, fun i H => ∃ xs, SqL K H a xs ∧ xs.length ≤ i⟩
def Itte (K : PySem.W.Frag) (a : Addr) : It :=
  ⟨fun i H => ∃ xs x, SqT K H a xs ∧ xs[i]? = some x, fun i H x H' => ∃ T y, x = .ref T ∧ H T = none ∧ H' = upd H T (.tup [.int i, y]) ∧ ∀ xs, SqT K H a xs → xs[i]? = some y, fun i H => ∃ xs, SqT K H a xs ∧ xs.length ≤ i⟩
theorem turn_enumL {P : Program} {w : World} {K : PySem.W.Frag} {elts : List Expr} {x1} {pos : Pos} (a e it : Addr) (ne : e ≠ it) :
    Turn P w K (.Tuple elts x1 pos) (Itle K a) [e, it] e (fun i h => (∃ old, IsEnum h e it i old) ∧ h.IsListIter it a i) where
  mem := by simp
  obj := fun i h st b hb => by
    obtain ⟨⟨old, se⟩, ⟨o, e1, c, d⟩⟩ := st
    rcases List.mem_cons.mp hb with rfl | hb
    · exact ⟨_, se, fun v z => by
        have z' : Data.fields _ = Data.cell v := z
        cases z'⟩
    · have q : b = it := by simpa using hb
      subst q
      exact ⟨o, e1, fun v z => by rw [d] at z; cases z⟩
  keep := fun i h h' st k => by
    obtain ⟨⟨old, se⟩, si⟩ := st
    exact ⟨⟨old, k e (by simp) _ se⟩, si.at fun o q => k it (by simp) o q⟩
  item := by
    intro X hP hw hK hc i pins s σ H E I hf st hg
    subst hP hw hK
    obtain ⟨⟨old, se⟩, si⟩ := st
    obtain ⟨xs, x, hq, hx⟩ := hg
    obtain ⟨its, rv, p, hz⟩ := I.list hq
    obtain ⟨u, hu, ru⟩ := rv.get hx
    refine wpAny_pyNext_enum_item se si p.isList (x := u) (by simpa using hu) ne fun h1 ho hi1 hT hsz hk => ?_
    refine ⟨_, rfl, wpAny_letOwnedTupleGo_enum ho fun h2 he2 hs2 => ?_⟩
    have le : e < s.heap.objs.size := Heap.lt_size se
    have hs3 : Heap.SameBut e h1 h2 := hs2
    have hT2 : h2.get? s.heap.objs.size = some { cls := .type "tuple", data := .seq #[.int i s.toks, u] } := (hs3.2 _ (Nat.ne_of_gt le)).trans hT
    have hi2 : h2.IsListIter it a (i + 1) := hi1.at fun o q => (hs3.2 it (Ne.symm ne)).trans q
    have he3 : IsEnum h2 e it ((i + 1 : Nat) : Int) u := by
      have := he2
      simpa using this
    have nT : H s.heap.objs.size = none := I.hok.fresh (Nat.le_refl _)
    have I2 := I.turnLay (t' := s.toks + 1) (h' := h2) (ts := [e, it]) (T := s.heap.objs.size) (o := .tup [.int i, x]) (fun b v hb q => ?_) (fun b hb => ?_) hf (Nat.le_refl _) ⟨by show 2 ≤ sizeLine; decide, [.int i s.toks, u], .cons ⟨_, rfl⟩ (.cons ru .nil), _, hT2, rfl, 0, rfl⟩
    · refine ⟨.ref s.heap.objs.size, _, I2, rfl, ⟨_, x, rfl, nT, rfl, fun ys hy => by rw [I.list_inj hy hq]; exact hx⟩, ⟨⟨u, he3⟩, hi2⟩, fun b hb => ?_⟩
      have fb := (hf b hb).1
      have lb : b < s.heap.objs.size := by
        rcases List.mem_cons.mp hb with rfl | hb
        · exact le
        · have q : b = it := by simpa using hb
          subst q
          obtain ⟨o, e1, _⟩ := si
          exact Heap.lt_size e1
      rw [upd_ne (Nat.ne_of_lt lb)]
      exact fb
    · have q1 : b ≠ e := fun z => hb (by simp [z])
      have q2 : b ≠ it := fun z => hb (by simp [z])
      exact (hs3.2 b q1).trans (hk b v q1 q2 q)
    · rcases List.mem_cons.mp hb with rfl | hb
      · exact ⟨_, he3⟩
      · have q : b = it := by simpa using hb
        subst q
        obtain ⟨o, e1, _⟩ := hi2
        exact ⟨o, e1⟩
  done := by
    intro X hP hw hK hc i pins s σ H E I hf st hg
    subst hP hw hK
    obtain ⟨⟨old, se⟩, si⟩ := st
    obtain ⟨xs, hq, hx⟩ := hg
    obtain ⟨its, rv, p, hz⟩ := I.list hq
    have hl := rv.length
    exact wpAny_pyNext_enum_end (I.ok.hd hc) se si p.isList (by simp; omega) fun h1 eb => ⟨rfl, I.turnedL (t' := s.toks) (ts := [e, it]) (fun b o hb q => eb b o (fun z => hb (by simp [z])) q) hf⟩
  self := fun _ _ _ _ _ st h => by
    obtain ⟨⟨old, se⟩, si⟩ := st
    exact wpAny_pyIter_enum se h
theorem turn_enumT {P : Program} {w : World} {K : PySem.W.Frag} {elts : List Expr} {x1} {pos : Pos} (a e it : Addr) (ne : e ≠ it) :
    Turn P w K (.Tuple elts x1 pos) (Itte K a) [e, it] e (fun i h => (∃ old, IsEnum h e it i old) ∧ h.IsTupleIter it a i) where
  mem := by simp
  obj := fun i h st b hb => by
    obtain ⟨⟨old, se⟩, ⟨o, e1, c, d⟩⟩ := st
    rcases List.mem_cons.mp hb with rfl | hb
    · exact ⟨_, se, fun v z => by
        have z' : Data.fields _ = Data.cell v := z
        cases z'⟩
    · have q : b = it := by simpa using hb
      subst q
      exact ⟨o, e1, fun v z => by rw [d] at z; cases z⟩
  keep := fun i h h' st k => by
    obtain ⟨⟨old, se⟩, si⟩ := st
    exact ⟨⟨old, k e (by simp) _ se⟩, si.at fun o q => k it (by simp) o q⟩
  item := by
    intro X hP hw hK hc i pins s σ H E I hf st hg
    subst hP hw hK
    obtain ⟨⟨old, se⟩, si⟩ := st
    obtain ⟨xs, x, hq, hx⟩ := hg
    obtain ⟨its, rv, p, hz⟩ := I.tuple hq
    obtain ⟨u, hu, ru⟩ := rv.get hx
    refine PyY.enumT_item se si (show s.heap.IsTuple a its.toArray from p) (y := u) (by simpa using hu) ne fun h1 ho hi1 hT hsz hk => ?_
    refine ⟨_, rfl, wpAny_letOwnedTupleGo_enum ho fun h2 he2 hs2 => ?_⟩
    have le : e < s.heap.objs.size := Heap.lt_size se
    have hs3 : Heap.SameBut e h1 h2 := hs2
    have hT2 : h2.get? s.heap.objs.size = some { cls := .type "tuple", data := .seq #[.int i s.toks, u] } := (hs3.2 _ (Nat.ne_of_gt le)).trans hT
    have hi2 : h2.IsTupleIter it a (i + 1) := hi1.at fun o q => (hs3.2 it (Ne.symm ne)).trans q
    have he3 : IsEnum h2 e it ((i + 1 : Nat) : Int) u := by
      have := he2
      simpa using this
    have nT : H s.heap.objs.size = none := I.hok.fresh (Nat.le_refl _)
    have I2 := I.turnLay (t' := s.toks + 1) (h' := h2) (ts := [e, it]) (T := s.heap.objs.size) (o := .tup [.int i, x]) (fun b v hb q => ?_) (fun b hb => ?_) hf (Nat.le_refl _) ⟨by show 2 ≤ sizeLine; decide, [.int i s.toks, u], .cons ⟨_, rfl⟩ (.cons ru .nil), _, hT2, rfl, 0, rfl⟩
    · refine ⟨.ref s.heap.objs.size, _, I2, rfl, ⟨_, x, rfl, nT, rfl, fun ys hy => by rw [I.tuple_inj hy hq]; exact hx⟩, ⟨⟨u, he3⟩, hi2⟩, fun b hb => ?_⟩
      have fb := (hf b hb).1
      have lb : b < s.heap.objs.size := by
        rcases List.mem_cons.mp hb with rfl | hb
        · exact le
        · have q : b = it := by simpa using hb
          subst q
          obtain ⟨o, e1, _⟩ := si
          exact Heap.lt_size e1
      rw [upd_ne (Nat.ne_of_lt lb)]
      exact fb
    · have q1 : b ≠ e := fun z => hb (by simp [z])
      have q2 : b ≠ it := fun z => hb (by simp [z])
      exact (hs3.2 b q1).trans (hk b v q1 q2 q)
    · rcases List.mem_cons.mp hb with rfl | hb
      · exact ⟨_, he3⟩
      · have q : b = it := by simpa using hb
        subst q
        obtain ⟨o, e1, _⟩ := hi2
        exact ⟨o, e1⟩
  done := by
    intro X hP hw hK hc i pins s σ H E I hf st hg
    subst hP hw hK
    obtain ⟨⟨old, se⟩, si⟩ := st
    obtain ⟨xs, hq, hx⟩ := hg
    obtain ⟨its, rv, p, hz⟩ := I.tuple hq
    have hl := rv.length
    exact PyY.enumT_end (I.ok.hd hc) se si (show s.heap.IsTuple a its.toArray from p) (by simp; omega) fun h1 eb => ⟨rfl, I.turnedL (t' := s.toks) (ts := [e, it]) (fun b o hb q => eb b o (fun z => hb (by simp [z])) q) hf⟩
  self := fun _ _ _ _ _ st h => by
    obtain ⟨⟨old, se⟩, si⟩ := st
    exact wpAny_pyIter_enum se h

section
variable {X : Cx}
def iEnumL (K : PySem.W.Frag) (ta : TA) : TI := fun σ H R => ta σ H fun vs H1 => ∃ a, vs = [.ref a] ∧ (∃ xs, SqL K H1 a xs) ∧ R (Itle K a) H1
def iEnumT (K : PySem.W.Frag) (ta : TA) : TI := fun σ H R => ta σ H fun vs H1 => ∃ a, vs = [.ref a] ∧ (∃ xs, SqT K H1 a xs) ∧ R (Itte K a) H1
/-- either of them -/
def iEnum (K : PySem.W.Frag) (ta : TA) : TI := fun σ H R => ta σ H fun vs H1 => ∃ a, vs = [.ref a] ∧ (((∃ xs, SqL K H1 a xs) ∧ R (Itle K a) H1) ∨ ((∃ xs, SqT K H1 a xs) ∧ R (Itte K a) H1))
theorem enums {elts : List Expr} {x1} {pt : Pos} {l : Expr} {ta : TA} {p pos : Pos} (hm : X.mg "enumerate" = none) (ha : PA X [l] ta) (hg : isGlob X.env.scope "enumerate" = true := by kernel_rfl) (hs : starEach [l] X.env = [(false, eval l X.env)] := by rfl) :
    PI X (.Tuple elts x1 pt) (.Call (.Name "enumerate" p) [l] [] pos) (iEnum X.K ta) := by
  intro pins s σ H R I h
  refine Call_ (ld_blt I (gl_of hg) hm (show bootBuiltins "enumerate" = some (.type "enumerate") by kernel_rfl) (PyProof.Rows.callWith_type1 (thn (ha pos pins s σ H _ I h) fun us s1 ⟨vs, H1, I1, r1, q1⟩ => ?_) hs rfl))
  obtain ⟨a, e, q⟩ := q1
  subst e
  cases r1 with
  | cons r rr =>
    cases rr
    cases (show _ = Value.ref a from r)
    have sz : ∀ b, b ∈ [s1.heap.objs.size + 1, s1.heap.objs.size] → s1.heap.objs.size ≤ b := fun b hb => by
      rcases List.mem_cons.mp hb with rfl | hb
      · exact Nat.le_succ _
      · have : b = s1.heap.objs.size := by simpa using hb
        rw [this]
        exact Nat.le_refl _
    rcases q with ⟨⟨xs, hq⟩, q⟩ | ⟨⟨xs, hq⟩, q⟩
    · obtain ⟨its, rv, p, hz⟩ := I1.list hq
      refine call_enumerate_list p.isList fun g ge gi gs gk => ?_
      refine wpAny_pyIter_enum ge ?_
      exact ⟨_, [s1.heap.objs.size + 1, s1.heap.objs.size], _, _, H1, rfl, I1.kept (t' := s1.toks) gk, turn_enumL a _ _ (Nat.ne_of_gt (Nat.lt_succ_self _)), ⟨⟨_, ge⟩, gi⟩, fun b hb => I1.fpOk (sz b hb) (I1.hok.fresh (sz b hb)), q⟩
    · obtain ⟨its, rv, p, hz⟩ := I1.tuple hq
      refine PyY.call_enumT (show s1.heap.IsTuple a its.toArray from p) fun g ge gi gs gk => ?_
      refine wpAny_pyIter_enum ge ?_
      exact ⟨_, [s1.heap.objs.size + 1, s1.heap.objs.size], _, _, H1, rfl, I1.kept (t' := s1.toks) gk, turn_enumT a _ _ (Nat.ne_of_gt (Nat.lt_succ_self _)), ⟨⟨_, ge⟩, gi⟩, fun b hb => I1.fpOk (sz b hb) (I1.hok.fresh (sz b hb)), q⟩
theorem enumK (K : PySem.W.Frag) {elts : List Expr} {x1} {pt : Pos} {l : Expr} {ta : TA} {p pos : Pos} (hm : X.mg "enumerate" = none) (ha : PA X [l] ta) (hK : X.K = K := by rfl) (hg : isGlob X.env.scope "enumerate" = true := by kernel_rfl) (hs : starEach [l] X.env = [(false, eval l X.env)] := by rfl) :
    PI X (.Tuple elts x1 pt) (.Call (.Name "enumerate" p) [l] [] pos) (iEnum K ta) := hK ▸ enums hm ha hg hs
end
/-- a loop over the pairs, of a list or tuple that stays -/
structure EnIt (J : It) (At : Hp → Prop) (xs : List V) : Prop where
  go : ∀ i H, At H → i < xs.length → J.go i H
  yld : ∀ i H x H2, At H → J.yld i H x H2 → ∃ T y, x = .ref T ∧ H T = none ∧ H2 = upd H T (.tup [.int i, y]) ∧ xs[i]? = some y
  stop : ∀ i H, At H → xs.length ≤ i → J.stop i H
theorem en_lst {K : PySem.W.Frag} {a : Addr} {xs : List V} : EnIt (Itle K a) (fun H => SqL K H a xs) xs :=
  ⟨fun i H h hi => ⟨xs, xs[i], h, by simp [hi]⟩, fun i H x H2 h hy => by
    obtain ⟨T, y, e, hT, e2, q⟩ := hy
    exact ⟨T, y, e, hT, e2, q xs h⟩, fun i H h hi => ⟨xs, h, hi⟩⟩
theorem en_tup {K : PySem.W.Frag} {a : Addr} {xs : List V} : EnIt (Itte K a) (fun H => SqT K H a xs) xs :=
  ⟨fun i H h hi => ⟨xs, xs[i], h, by simp [hi]⟩, fun i H x H2 h hy => by
    obtain ⟨T, y, e, hT, e2, q⟩ := hy
    exact ⟨T, y, e, hT, e2, q xs h⟩, fun i H h hi => ⟨xs, h, hi⟩⟩
theorem for_enum {J : It} {g : TG} {tb : TS} {D : Ends} {σ : St} {H : Hp} {At : Hp → Prop} {xs : List V} (S : EnIt J At xs) (Pv : Nat → St → Hp → Prop) (h0 : Pv 0 σ H) (hS : ∀ i σ H, Pv i σ H → At H)
    (hs : ∀ (i : Nat) y σ H T, xs[i]? = some y → Pv i σ H → H T = none → g (.ref T) σ (upd H T (.tup [.int i, y])) fun σ2 H2 => tb { D with nx := Pv (i + 1), ct := Pv (i + 1), bk := D.nx } σ2 H2) (hd : ∀ σ H, Pv xs.length σ H → D.nx σ H) :
    ∃ W : Nat → Nat → St → Hp → Prop, (∃ m, W 0 m σ H) ∧ ∀ i m σ H, W i m σ H →
      (J.stop i H ∧ D.nx σ H) ∨ (J.go i H ∧ ∃ N : St → Hp → Prop, (∀ σ' H', N σ' H' → ∃ m', m' < m ∧ W (i + 1) m' σ' H') ∧ ∀ x H', J.yld i H x H' → g x σ H' fun σ2 H2 => tb { D with nx := N, ct := N, bk := D.nx } σ2 H2) := by
  refine ⟨fun i m σ H => m = xs.length - i ∧ i ≤ xs.length ∧ Pv i σ H, ⟨_, rfl, Nat.zero_le _, h0⟩, ?_⟩
  rintro i m σ H ⟨rfl, hi, p⟩
  have s := hS i σ H p
  by_cases hlt : i < xs.length
  · refine .inr ⟨S.go i H s hlt, Pv (i + 1), fun σ' H' p' => ⟨xs.length - (i + 1), by omega, rfl, hlt, p'⟩, fun x H' hy => ?_⟩
    obtain ⟨T, y, rfl, hT, rfl, hx⟩ := S.yld i H x H' s hy
    exact hs i y σ H T hx p hT
  · have e : i = xs.length := by omega
    subst e
    exact .inl ⟨S.stop _ H s (Nat.le_refl _), hd σ H p⟩
/-! ### range(lo, hi, -1) -/
def Itd (lo : Int) (n : Nat) : It := ⟨fun i _ => i < n, fun i H x H' => H' = H ∧ x = .int (lo - i), fun i _ => n ≤ i⟩
theorem turn_down {P : Program} {w : World} {K : PySem.W.Frag} {tg : Expr} (it : Addr) (lo : Int) (n : Nat) : Turn P w K tg (Itd lo n) [it] it (fun i h => IsRangeIter h it (lo + (i : Nat) * (-1)) ((n : Int) - (i : Nat)) (-1)) where
  mem := by simp
  obj := fun i h st b hb => by
    have e : b = it := by simpa using hb
    subst e
    exact ⟨_, st, fun v z => by
      have z' : Data.fields _ = Data.cell v := z
      cases z'⟩
  keep := fun i h h' st k => k it (by simp) _ st
  item := by
    intro X hP hw hK hc i pins s σ H E I hf st hg
    subst hP hw hK
    obtain ⟨f0, f1, f2, f3, f4, f5⟩ := hf it (by simp)
    have W := Walks.range (prog := X.prog) (w := X.w) (I.ok.hd hc) it lo (-1) n
    refine W.item i s _ _ hg st fun v h' tk hv st' kk => ?_
    obtain ⟨t, rfl⟩ := hv
    have I1 : Inv X pins σ H { s with heap := h', toks := tk } := I.turned (fun b o hb e => kk b o (by simpa using hb) e) f0 f1 f3 f4 f5
    refine ⟨_, rfl, go_of (s := { s with heap := h', toks := tk }) (n := "range_iterator") st' rfl rfl (by decide) ⟨.int (lo - i), H, I1, ⟨t, ?_⟩, ⟨rfl, rfl⟩, st', fun b hb => (hf b hb).1⟩⟩
    rw [show lo - (i : Int) = lo + (i : Int) * (-1) by omega]
  done := by
    intro X hP hw hK hc i pins s σ H E I hf st hg
    subst hP hw hK
    obtain ⟨f0, f1, f2, f3, f4, f5⟩ := hf it (by simp)
    exact wpAny_pyNext_range_end (I.ok.hd hc) st (by have : n ≤ i := hg; omega) fun h' eb => ⟨rfl, I.turned (t' := s.toks) (fun b o hb e => eb b o hb e) f0 f1 f3 f4 f5⟩
  self := fun _ _ _ _ _ st h => wpAny_pyIter_rangeiter st h
theorem rangeSize_down (a b : Int) : Builtin.Range.rangeSize a b (-1) = if b < a then a - b else 0 := by
  unfold Builtin.Range.rangeSize
  rw [if_neg (by decide), Int.neg_neg, Int.ediv_one]
  by_cases h : b < a
  · rw [if_pos h, if_pos h]
    omega
  · rw [if_neg h, if_neg h]
theorem small_down {a b : Int} (h1 : -(2 ^ 62) ≤ a) (h2 : a < 2 ^ 62) (h3 : -(2 ^ 62) ≤ b) (h4 : b < 2 ^ 62) : Builtin.Range.small a b (-1) = true := by
  unfold Builtin.Range.small
  rw [rangeSize_down]
  simp only [Builtin.Range.rangeFitsLong, Bool.and_eq_true, Bool.or_eq_true, decide_eq_true_eq, beq_iff_eq, show ¬ ((-1 : Int) > 0) by decide, if_false]
  split <;> omega
def iRngD (ta : TA) : TI := fun σ H R => ta σ H fun vs H1 => ∃ i j : Int, vs = [.int i, .int j, .int (-1)] ∧ (-(2 ^ 62) ≤ i ∧ i < 2 ^ 62 ∧ -(2 ^ 62) ≤ j ∧ j < 2 ^ 62) ∧ R (Itd i (i - j).toNat) H1
theorem rngD {X : Cx} {tg a b c : Expr} {ta : TA} {p pos : Pos} (hm : X.mg "range" = none) (ha : PA X [a, b, c] ta) (hg : isGlob X.env.scope "range" = true := by kernel_rfl) (hs : starEach [a, b, c] X.env = (false, eval a X.env) :: starEach [b, c] X.env := by rfl) (hs2 : (backTo pos (starEach [b, c] X.env)).any (·.1) = false := by rfl) :
    PI X tg (.Call (.Name "range" p) [a, b, c] [] pos) (iRngD ta) := by
  intro pins s σ H R I h
  refine Call_ (ld_blt I (gl_of hg) hm boot_range (PyProof.Rows.callWith_type1 (thn (ha pos pins s σ H _ I h) fun us s1 ⟨vs, H1, I1, r1, q1⟩ => ?_) hs hs2))
  obtain ⟨i, j, e, ⟨q1, q2, q3, q4⟩, q⟩ := q1
  subst e
  cases r1 with
  | cons r rr =>
    cases rr with
    | cons r' rr =>
      cases rr with
      | cons r'' rr =>
        cases rr
        obtain ⟨t, rfl⟩ := r
        obtain ⟨t', rfl⟩ := r'
        obtain ⟨t'', rfl⟩ := r''
        refine call_range_3 (by decide) ?_ (Or.inl (PyProof.noPylong_small (by decide)))
        refine wpAny_pyIter_range (IsRange.new ..) (small_down q1 q2 q3 q4) ?_
        have I2 : Inv X pins σ H1 { s1 with heap := s1.heap.push { cls := .type "range", data := .fields #[.int i t, .int j t', .int (-1) t''] }, toks := s1.toks } := I1.kept fun b o e => Heap.get?_push_of_some _ e
        refine ⟨(s1.heap.push { cls := .type "range", data := .fields #[.int i t, .int j t', .int (-1) t''] }).objs.size, [(s1.heap.push { cls := .type "range", data := .fields #[.int i t, .int j t', .int (-1) t''] }).objs.size], _, _, H1, rfl,
          I2.kept (t' := s1.toks) fun b o e => Heap.get?_push_of_some _ e, turn_down _ i (i - j).toNat, ?_, fun b hb => ?_, q⟩
        · have e1 : i + ((0 : Nat) : Int) * (-1) = i := by simp
          have e2 : (((i - j).toNat : Nat) : Int) - ((0 : Nat) : Int) = Builtin.Range.rangeSize i j (-1) := by rw [rangeSize_down]; split <;> omega
          show IsRangeIter _ _ (i + ((0 : Nat) : Int) * (-1)) ((((i - j).toNat : Nat) : Int) - ((0 : Nat) : Int)) (-1)
          rw [e1, e2]
          exact Heap.get?_push_size _ rfl
        · have e : b = (s1.heap.push { cls := .type "range", data := .fields #[.int i t, .int j t', .int (-1) t''] }).objs.size := by simpa using hb
          subst e
          exact I2.fpOk (Nat.le_refl _) (I2.hok.fresh (Nat.le_refl _))
theorem for_down {lo : Int} {n : Nat} {g : TG} {tb : TS} {D : Ends} {σ : St} {H : Hp} (Pv : Nat → St → Hp → Prop) (h0 : Pv 0 σ H)
    (hs : ∀ i σ H, i < n → Pv i σ H → g (.int (lo - i)) σ H fun σ2 H2 => tb { D with nx := Pv (i + 1), ct := Pv (i + 1), bk := D.nx } σ2 H2) (hd : ∀ σ H, Pv n σ H → D.nx σ H) :
    ∃ W : Nat → Nat → St → Hp → Prop, (∃ m, W 0 m σ H) ∧ ∀ i m σ H, W i m σ H →
      ((Itd lo n).stop i H ∧ D.nx σ H) ∨ ((Itd lo n).go i H ∧ ∃ N : St → Hp → Prop, (∀ σ' H', N σ' H' → ∃ m', m' < m ∧ W (i + 1) m' σ' H') ∧ ∀ x H', (Itd lo n).yld i H x H' → g x σ H' fun σ2 H2 => tb { D with nx := N, ct := N, bk := D.nx } σ2 H2) := by
  refine ⟨fun i m σ H => m = n - i ∧ i ≤ n ∧ Pv i σ H, ⟨n, by simp, Nat.zero_le _, h0⟩, ?_⟩
  rintro i m σ H ⟨rfl, hi, p⟩
  by_cases hlt : i < n
  · refine .inr ⟨hlt, Pv (i + 1), fun σ' H' p' => ⟨n - (i + 1), by omega, rfl, hlt, p'⟩, fun x H' hy => ?_⟩
    obtain ⟨e, rfl⟩ := hy
    subst e
    exact hs i σ _ hlt p
  · have e : i = n := by omega
    subst e
    exact .inl ⟨Nat.le_refl _, hd σ H p⟩
/-- the target (k, x) of a for over pairs -/
theorem g2 (K : PySem.W.Frag) (i j : Nat) {X : Cx} {x y : Str} {k} {px py pos : Pos} (hc : X.calm = true) (hx : PG X (.Name x px) (gName i)) (hy : PG X (.Name y py) (gName j)) (hK : X.K = K := by rfl)
    (hn : (assignEach [.Name x px, .Name y py] X.env).length = 2 := by rfl) (hst : (assignEach [.Name x px, .Name y py] X.env).findIdx? (·.1) = none := by rfl) :
    PG X (.Tuple [.Name x px, .Name y py] k pos) (gTup K 2 (gCons (gName i) (gCons (gName j) gNil))) := hK ▸ pg_tup hc (pgs_cons hx (pgs_cons hy pgs_nil)) hn hst
end L2

set_option maxHeartbeats 4000000
/-! zip of two lists or tuples -/
namespace PyY
open PySem
open AutoSeq1 (wpAny_loadPart')
/-- a list's iterator, or (b) a tuple's -/
def SIt (b : Bool) (h : Heap) (j a : Addr) (k : Nat) : Prop := match b with
  | true => h.IsTupleIter j a k
  | false => h.IsListIter j a k
def SSq (b : Bool) (h : Heap) (a : Addr) (us : Array Value) : Prop := match b with
  | true => h.IsTuple a us
  | false => h.IsList a us
theorem SIt.ext {b : Bool} {h h' : Heap} {c j a : Addr} {k : Nat} (x : SIt b h j a k) (e : Heap.ExtBut c h h') (n : j ≠ c) : SIt b h' j a k := by
  cases b
  · exact Heap.IsListIter.extBut x e n
  · exact Heap.IsTupleIter.extBut x e n
theorem SSq.ext {b : Bool} {h h' : Heap} {c a : Addr} {us : Array Value} (x : SSq b h a us) (e : Heap.ExtBut c h h') (n : a ≠ c) : SSq b h' a us := by
  cases b
  · exact Heap.IsList.extBut x e n
  · exact Heap.IsTuple.extBut x e n
theorem SIt.at {b : Bool} {h h' : Heap} {j a : Addr} {k : Nat} (x : SIt b h j a k) (e : ∀ o, h.get? j = some o → h'.get? j = some o) : SIt b h' j a k := by
  cases b
  · exact Heap.IsListIter.at x e
  · obtain ⟨o, ho, r⟩ := (show h.IsTupleIter j a k from x)
    exact ⟨o, e o ho, r⟩
theorem SSq.at {b : Bool} {h h' : Heap} {a : Addr} {us : Array Value} (x : SSq b h a us) (e : ∀ o, h.get? a = some o → h'.get? a = some o) : SSq b h' a us := by
  cases b
  · exact Heap.IsList.at x e
  · obtain ⟨o, ho, r⟩ := (show h.IsTuple a us from x)
    exact ⟨o, e o ho, r⟩
theorem SIt.obj {b : Bool} {h : Heap} {j a : Addr} {k : Nat} (x : SIt b h j a k) : ∃ o, h.get? j = some o ∧ ∀ v, o.data ≠ .cell v := by
  cases b
  · obtain ⟨o, ho, _, d⟩ := (show h.IsListIter j a k from x)
    exact ⟨o, ho, fun v z => by rw [d] at z; cases z⟩
  · obtain ⟨o, ho, _, d⟩ := (show h.IsTupleIter j a k from x)
    exact ⟨o, ho, fun v z => by rw [d] at z; cases z⟩
section
variable {prog : Program} {w : World} {A : Around} {E : Value → Shared → Prop} {s : Shared}
theorem nextS_item {b : Bool} {j a : Addr} {k : Nat} {us : Array Value} {y : Value} {Q : Value → Shared → Prop} (c : SIt b s.heap j a k) (d : SSq b s.heap a us) (e : us[k]? = some y)
    (q : ∀ g, SIt b g j a (k + 1) → Heap.SameBut j s.heap g → Q y { s with heap := g }) : wpAny (model prog w) A (Builtin.SmallTypes.nextOf (.ref j)) Q E s := by
  cases b
  · exact wpAny_nextOf_list_item c d e q
  · exact nextT_item c d e q
theorem nextS_end {b : Bool} {j a : Addr} {k : Nat} {us : Array Value} {Q : Value → Shared → Prop} (hn : A.handled = none) (c : SIt b s.heap j a k) (d : SSq b s.heap a us) (e : us[k]? = none)
    (q : ∀ g x, Heap.ExtBut j s.heap g → (∃ o, g.get? x = some o ∧ o.cls = .type "StopIteration") → E (.ref x) { s with heap := g }) : wpAny (model prog w) A (Builtin.SmallTypes.nextOf (.ref j)) Q E s := by
  cases b
  · exact wpAny_nextOf_list_end hn c d e q
  · exact nextT_end hn c d e q
/-- apart: the zip z, its pair of iterators p, its pair of items r, the iterators i, j, what they walk a, b -/
structure ZA (z p r i j a b : Addr) : Prop where
  pz : p ≠ z
  rz : r ≠ z
  iz : i ≠ z
  jz : j ≠ z
  pr : p ≠ r
  pi : p ≠ i
  pj : p ≠ j
  ri : r ≠ i
  rj : r ≠ j
  ij : i ≠ j
  az : a ≠ z
  ar : a ≠ r
  ai : a ≠ i
  aj : a ≠ j
  bz : b ≠ z
  br : b ≠ r
  bi : b ≠ i
  bj : b ≠ j
theorem zipS_item {u v : Bool} {z p r i j a b : Addr} {k : Nat} {us vs : Array Value} {x y o1 o2 : Value} {Q : Option Value → Shared → Prop} (D : ZA z p r i j a b)
    (hz : IsZip s.heap z p r .none) (hp : IsPair s.heap p (.ref i) (.ref j)) (hr : IsPair s.heap r o1 o2) (hi : SIt u s.heap i a k) (hj : SIt v s.heap j b k) (ha : SSq u s.heap a us) (hb : SSq v s.heap b vs) (ex : us[k]? = some x) (ey : vs[k]? = some y)
    (q : ∀ g, IsZip g z p r (rawInt s.heap.objs.size) → IsPair g r x y → SIt u g i a (k + 1) → SIt v g j b (k + 1) → IsPair g s.heap.objs.size x y → g.objs.size = s.heap.objs.size + 1 →
      (∀ c o, c ≠ z → c ≠ r → c ≠ i → c ≠ j → s.heap.get? c = some o → g.get? c = some o) → Q (some (.ref s.heap.objs.size)) { s with heap := g }) : wpAny (model prog w) A (pyNext (.ref z)) Q E s := by
  have tz : s.TypeIs (.ref z) "zip" := ⟨_, hz, rfl⟩
  unfold pyNext
  refine wpAny_bind (wpAny_attempt (wpAny_callSpecial?_slot (name := Str.ofString "__next__") tz F.slot_zip_next (wpAny_call_entry F.slot_zip_next tz F.entry_zip_next ?_ (F.args_zip_next_1 _))))
  show wpAny _ _ (field (.ref z) 2 >>= _) _ _ s
  refine wpAny_bind (wpAny_field hz rfl (x := .bool false) rfl ?_)
  show wpAny _ _ (field (.ref z) 3 >>= _) _ _ s
  refine wpAny_bind (wpAny_field hz rfl (x := .ref p) rfl ?_)
  refine wpAny_bind (wpAny_seqItems hp rfl ?_)
  show wpAny _ _ (Builtin.SmallTypes.ownedTupleIsFree (.ref z) >>= _) _ _ s
  refine wpAny_bind ?_
  unfold Builtin.SmallTypes.ownedTupleIsFree
  refine wpAny_bind (wpAny_field hz rfl (x := .none) rfl (wpAny_pure ?_))
  rw [if_pos rfl]
  refine wpAny_bind (wpAny_rule (wpAny_bind (wpAny_field hz rfl (x := .ref r) rfl ?_)))
  refine wpAny_bind (wpAny_setField_rec hz (by simp) fun g1 z1 s1 => ?_)
  replace z1 : IsZip g1 z p r .ellipsis := z1
  refine wpAny_bind ?_
  simp only [List.zipIdx_cons, List.zipIdx_nil, List.forIn_cons, List.forIn_nil]
  refine wpAny_bind (wpAny_bind (wpAny_onRaise ?_))
  show wpAny _ _ (Builtin.SmallTypes.nextOf (.ref i) >>= _) _ _ _
  refine wpAny_bind (nextS_item (hi.ext s1.extBut D.iz) (ha.ext s1.extBut D.az) ex fun g2 i2 s2 => wpAny_pure ?_)
  have r2 : IsPair g2 r o1 o2 := s2.extBut _ _ D.ri (s1.extBut _ _ D.rz hr)
  refine wpAny_bind (wpAny_seqItems r2 rfl ?_)
  refine wpAny_bind (wpAny_updateSeq_pair r2 fun g3 r3 s3 => ?_)
  replace r3 : IsPair g3 r x o2 := r3
  refine wpAny_bind (wpAny_letGo (wpAny_pure ?_))
  refine wpAny_bind (wpAny_bind (wpAny_onRaise ?_))
  show wpAny _ _ (Builtin.SmallTypes.nextOf (.ref j) >>= _) _ _ _
  refine wpAny_bind (nextS_item (((hj.ext s1.extBut D.jz).ext s2.extBut D.ij.symm).ext s3.extBut D.rj.symm) (((hb.ext s1.extBut D.bz).ext s2.extBut D.bi).ext s3.extBut D.br) ey fun g4 j4 s4 => wpAny_pure ?_)
  have r4 : IsPair g4 r x o2 := s4.extBut _ _ D.rj r3
  refine wpAny_bind (wpAny_seqItems r4 rfl ?_)
  refine wpAny_bind (wpAny_updateSeq_pair r4 fun g5 r5 s5 => ?_)
  replace r5 : IsPair g5 r x y := r5
  refine wpAny_bind (wpAny_letGo (wpAny_pure (wpAny_pure ?_)))
  refine wpAny_bind (wpAny_seqItems r5 rfl ?_)
  refine wpAny_bind (wpAny_newTuple ?_)
  have sz : g5.objs.size = s.heap.objs.size := by rw [s5.1, s4.1, s3.1, s2.1, s1.1]
  have z5 : IsZip g5 z p r .ellipsis := s5.extBut _ _ D.rz.symm (s4.extBut _ _ D.jz.symm (s3.extBut _ _ D.rz.symm (s2.extBut _ _ D.iz.symm z1)))
  have k5 : ∀ c o, c ≠ z → c ≠ r → c ≠ i → c ≠ j → s.heap.get? c = some o → g5.get? c = some o := fun c o c1 c2 c3 c4 e => s5.extBut _ _ c2 (s4.extBut _ _ c4 (s3.extBut _ _ c2 (s2.extBut _ _ c3 (s1.extBut _ _ c1 e))))
  have i5 : SIt u g5 i a (k + 1) := ((i2.ext s3.extBut D.ri.symm).ext s4.extBut D.ij).ext s5.extBut D.ri.symm
  have j5 : SIt v g5 j b (k + 1) := j4.ext s5.extBut D.rj.symm
  have zl : z < g5.objs.size := Heap.lt_size z5
  show wpAny _ _ (Builtin.SmallTypes.ownedTupleHandOut (.ref z) (.ref g5.objs.size) >>= _) _ _ _
  refine wpAny_bind ?_
  unfold Builtin.SmallTypes.ownedTupleHandOut
  have z6 : IsZip (g5.push { cls := .type "tuple", data := .seq #[x, y] }) z p r .ellipsis := Heap.get?_push_of_some _ z5
  refine wpAny_bind (wpAny_setField_rec z6 (by simp) fun g7 z7 s7 => ?_)
  replace z7 : IsZip g7 z p r (rawInt g5.objs.size) := z7
  refine wpAny_setField_rec z7 (by simp) fun g8 z8 s8 => ?_
  replace z8 : IsZip g8 z p r (rawInt g5.objs.size) := z8
  have up : ∀ c o, c ≠ z → g5.get? c = some o → g8.get? c = some o := fun c o c1 e => s8.extBut _ _ c1 (s7.extBut _ _ c1 (Heap.get?_push_of_some _ e))
  have t8 : IsPair g8 g5.objs.size x y := s8.extBut _ _ (Nat.ne_of_gt zl) (s7.extBut _ _ (Nat.ne_of_gt zl) (Heap.get?_push_size _ rfl))
  have e8 : g8.objs.size = g5.objs.size + 1 := by rw [s8.1, s7.1, Heap.size_push]
  rw [sz] at z8 t8 e8
  refine wpAny_pure ⟨_, rfl, wpAny_pure ?_⟩
  show Q (some (.ref g5.objs.size)) _
  rw [sz]
  exact q g8 z8 (up _ _ D.rz r5) (i5.at fun o e => up _ o D.iz e) (j5.at fun o e => up _ o D.jz e) t8 e8 fun c o c1 c2 c3 c4 e => up c o c1 (k5 c o c1 c2 c3 c4 e)
theorem zipS_stop {u v : Bool} {z p r i j a b : Addr} {k : Nat} {us vs : Array Value} {o1 o2 : Value} {Q : PySem.Fin → Shared → Prop} (hn : A.handled = none) (D : ZA z p r i j a b)
    (hz : IsZip s.heap z p r .none) (hp : IsPair s.heap p (.ref i) (.ref j)) (hr : IsPair s.heap r o1 o2) (hi : SIt u s.heap i a k) (hj : SIt v s.heap j b k) (ha : SSq u s.heap a us) (hb : SSq v s.heap b vs) (en : us[k]? = none ∨ vs[k]? = none)
    (q : ∀ g e, (∀ c o, c ≠ z → c ≠ r → c ≠ i → c ≠ j → s.heap.get? c = some o → g.get? c = some o) → (∃ o, g.get? e = some o ∧ o.cls = .type "StopIteration") → E (.ref e) { s with heap := g }) :
    wpAny (model prog w) A (Builtin.«zip.__next__» ⟨[.ref z], []⟩) Q E s := by
  show wpAny _ _ (field (.ref z) 2 >>= _) _ _ s
  refine wpAny_bind (wpAny_field hz rfl (x := .bool false) rfl ?_)
  show wpAny _ _ (field (.ref z) 3 >>= _) _ _ s
  refine wpAny_bind (wpAny_field hz rfl (x := .ref p) rfl ?_)
  refine wpAny_bind (wpAny_seqItems hp rfl ?_)
  show wpAny _ _ (Builtin.SmallTypes.ownedTupleIsFree (.ref z) >>= _) _ _ s
  refine wpAny_bind ?_
  unfold Builtin.SmallTypes.ownedTupleIsFree
  refine wpAny_bind (wpAny_field hz rfl (x := .none) rfl (wpAny_pure ?_))
  rw [if_pos rfl]
  refine wpAny_bind (wpAny_rule (wpAny_bind (wpAny_field hz rfl (x := .ref r) rfl ?_)))
  refine wpAny_bind (wpAny_setField_rec hz (by simp) fun g1 z1 s1 => ?_)
  replace z1 : IsZip g1 z p r .ellipsis := z1
  refine wpAny_bind ?_
  simp only [List.zipIdx_cons, List.zipIdx_nil, List.forIn_cons, List.forIn_nil]
  refine wpAny_bind (wpAny_bind (wpAny_onRaise ?_))
  show wpAny _ _ (Builtin.SmallTypes.nextOf (.ref i) >>= _) _ _ _
  cases ex : us[k]? with
  | none =>
    refine wpAny_bind (nextS_end hn (hi.ext s1.extBut D.iz) (ha.ext s1.extBut D.az) ex fun g2 e s2 he => ?_)
    obtain ⟨oe, hoe, hce⟩ := he
    have z2 : IsZip g2 z p r .ellipsis := s2 _ _ D.iz.symm z1
    have nez : e ≠ z := fun x => by
      subst x
      rw [z2] at hoe
      cases hoe
      simp at hce
    exact wpAny_setField_rec z2 (by simp) fun g3 _ s3 => q g3 e (fun c o c1 _ c3 _ x => s3.extBut _ _ c1 (s2 _ _ c3 (s1.extBut _ _ c1 x))) ⟨oe, s3.extBut _ _ nez hoe, hce⟩
  | some x =>
    have ey : vs[k]? = none := by
      rcases en with h | h
      · rw [ex] at h; cases h
      · exact h
    refine wpAny_bind (nextS_item (hi.ext s1.extBut D.iz) (ha.ext s1.extBut D.az) ex fun g2 i2 s2 => wpAny_pure ?_)
    have r2 : IsPair g2 r o1 o2 := s2.extBut _ _ D.ri (s1.extBut _ _ D.rz hr)
    refine wpAny_bind (wpAny_seqItems r2 rfl ?_)
    refine wpAny_bind (wpAny_updateSeq_pair r2 fun g3 r3 s3 => ?_)
    refine wpAny_bind (wpAny_letGo (wpAny_pure ?_))
    refine wpAny_bind (wpAny_bind (wpAny_onRaise ?_))
    show wpAny _ _ (Builtin.SmallTypes.nextOf (.ref j) >>= _) _ _ _
    refine wpAny_bind (nextS_end hn (((hj.ext s1.extBut D.jz).ext s2.extBut D.ij.symm).ext s3.extBut D.rj.symm) (((hb.ext s1.extBut D.bz).ext s2.extBut D.bi).ext s3.extBut D.br) ey fun g4 e s4 he => ?_)
    obtain ⟨oe, hoe, hce⟩ := he
    have z4 : IsZip g4 z p r .ellipsis := s4 _ _ D.jz.symm (s3.extBut _ _ D.rz.symm (s2.extBut _ _ D.iz.symm z1))
    have nez : e ≠ z := fun x => by
      subst x
      rw [z4] at hoe
      cases hoe
      simp at hce
    exact wpAny_setField_rec z4 (by simp) fun g5 _ s5 => q g5 e (fun c o c1 c2 c3 c4 x => s5.extBut _ _ c1 (s4 _ _ c4 (s3.extBut _ _ c2 (s2.extBut _ _ c3 (s1.extBut _ _ c1 x))))) ⟨oe, s5.extBut _ _ nez hoe, hce⟩
theorem zipS_end {u v : Bool} {z p r i j a b : Addr} {k : Nat} {us vs : Array Value} {o1 o2 : Value} {Q : Option Value → Shared → Prop} (hn : A.handled = none) (D : ZA z p r i j a b)
    (hz : IsZip s.heap z p r .none) (hp : IsPair s.heap p (.ref i) (.ref j)) (hr : IsPair s.heap r o1 o2) (hi : SIt u s.heap i a k) (hj : SIt v s.heap j b k) (ha : SSq u s.heap a us) (hb : SSq v s.heap b vs) (en : us[k]? = none ∨ vs[k]? = none)
    (q : ∀ g, (∀ c o, c ≠ z → c ≠ r → c ≠ i → c ≠ j → s.heap.get? c = some o → g.get? c = some o) → Q none { s with heap := g }) : wpAny (model prog w) A (pyNext (.ref z)) Q E s := by
  have tz : s.TypeIs (.ref z) "zip" := ⟨_, hz, rfl⟩
  unfold pyNext
  refine wpAny_bind (wpAny_attempt (wpAny_callSpecial?_slot (name := Str.ofString "__next__") tz F.slot_zip_next (wpAny_call_entry F.slot_zip_next tz F.entry_zip_next (zipS_stop hn D hz hp hr hi hj ha hb en fun g e hk he => ?_) (F.args_zip_next_1 _))))
  obtain ⟨o, ho, hc⟩ := he
  refine wpAny_bind (wpAny_isInstance (T := "StopIteration") (b := true) ⟨o, ho, hc⟩ isSubtype_stop ?_)
  exact wpAny_pure (q _ hk)
/-- the iterator of either -/
def sName (b : Bool) : String := match b with
  | true => "tuple_iterator"
  | false => "list_iterator"
theorem iterS {b : Bool} {a : Addr} {us : Array Value} {Q : Value → Shared → Prop} (h : SSq b s.heap a us) (q : Q (.ref s.heap.objs.size) { s with heap := s.heap.push { cls := .type (sName b), data := .fields #[.ref a, .int 0 0] } }) : wpAny (model prog w) A (pyIter (.ref a)) Q E s := by
  cases b
  · exact wpAny_pyIter_list h q
  · exact wpAny_pyIter_tuple h q
abbrev zh1 (h : Heap) (u : Bool) (a : Addr) : Heap := h.push { cls := .type (sName u), data := .fields #[.ref a, .int 0 0] }
abbrev zh2 (h : Heap) (u v : Bool) (a b : Addr) : Heap := (zh1 h u a).push { cls := .type (sName v), data := .fields #[.ref b, .int 0 0] }
abbrev zh3 (h : Heap) (u v : Bool) (a b : Addr) : Heap := (zh2 h u v a b).push { cls := .type "tuple", data := .seq #[.ref h.objs.size, .ref (zh1 h u a).objs.size] }
abbrev zh4 (h : Heap) (u v : Bool) (a b : Addr) : Heap := (zh3 h u v a b).push { cls := .type "tuple", data := .seq #[.none, .none] }
abbrev zh5 (h : Heap) (u v : Bool) (a b : Addr) : Heap := (zh4 h u v a b).push { cls := .type "zip", data := .fields #[.none, .bool false, .bool false, .ref (zh2 h u v a b).objs.size, .ref (zh3 h u v a b).objs.size] }
theorem SSq.push {b : Bool} {h : Heap} {a : Addr} {us : Array Value} (x : SSq b h a us) (o : Obj) : SSq b (h.push o) a us := x.at fun _ e => Heap.get?_push_of_some _ e
theorem zipS_new (u v : Bool) (a b : Addr) (us vs : Array Value) :
    Meets (Builtin.«zip.__new__» ⟨[.type "zip", .ref a, .ref b], []⟩) (fun _ R s => SSq u s.heap a us ∧ SSq v s.heap b vs ∧ R (.ok (.ret (.ref (zh4 s.heap u v a b).objs.size))) { s with heap := zh5 s.heap u v a b }) :=
  .of_wp fun prog w A R s h => by
    obtain ⟨hh, gg, dr, tk, os⟩ := s
    obtain ⟨ha, hb, h⟩ := h
    have sub := sub_zip
    have hA : SSq u (Shared.heap ⟨hh, gg, dr, tk, os⟩) a us := ha
    have hB : SSq v (Shared.heap ⟨zh1 hh u a, gg, dr, tk, os⟩) b vs := SSq.push hb _
    wp_walk using iterS hA, iterS hB
    exact ⟨_, rfl, h⟩
theorem call_zipS {u v : Bool} {a b : Addr} {us vs : Array Value} {Q : Value → Shared → Prop} (ha : SSq u s.heap a us) (hb : SSq v s.heap b vs)
    (q : ∀ g, IsZip g (s.heap.objs.size + 4) (s.heap.objs.size + 2) (s.heap.objs.size + 3) .none → IsPair g (s.heap.objs.size + 2) (.ref s.heap.objs.size) (.ref (s.heap.objs.size + 1)) → IsPair g (s.heap.objs.size + 3) .none .none →
      SIt u g s.heap.objs.size a 0 → SIt v g (s.heap.objs.size + 1) b 0 → (∀ c o, s.heap.get? c = some o → g.get? c = some o) → Q (.ref (s.heap.objs.size + 4)) { s with heap := g }) :
    wpAny (model prog w) A (call (.type "zip") [.ref a, .ref b]) Q E s := by
  refine callType_new F.called_zip (by decide) (F.typeCall_zip_2 _ _) (F.newCall_zip_2 _ _) (fun obj => F.args_object_init_3 obj _ _) F.entry_zip_new (zipS_new u v a b us vs) ⟨ha, hb, ?_⟩
  have e1 : (zh1 s.heap u a).objs.size = s.heap.objs.size + 1 := Heap.size_push ..
  have e2 : (zh2 s.heap u v a b).objs.size = s.heap.objs.size + 2 := by rw [Heap.size_push, e1]
  have e3 : (zh3 s.heap u v a b).objs.size = s.heap.objs.size + 3 := by rw [Heap.size_push, e2]
  have e4 : (zh4 s.heap u v a b).objs.size = s.heap.objs.size + 4 := by rw [Heap.size_push, e3]
  have w5 : (zh5 s.heap u v a b).get? (zh4 s.heap u v a b).objs.size = some _ := Heap.get?_push_size _ rfl
  have w4 : (zh5 s.heap u v a b).get? (zh3 s.heap u v a b).objs.size = some _ := Heap.get?_push_of_some _ (Heap.get?_push_size _ rfl)
  have w3 : (zh5 s.heap u v a b).get? (zh2 s.heap u v a b).objs.size = some _ := Heap.get?_push_of_some _ (Heap.get?_push_of_some _ (Heap.get?_push_size _ rfl))
  have w2 : (zh5 s.heap u v a b).get? (zh1 s.heap u a).objs.size = some _ := Heap.get?_push_of_some _ (Heap.get?_push_of_some _ (Heap.get?_push_of_some _ (Heap.get?_push_size _ rfl)))
  have w1 : (zh5 s.heap u v a b).get? s.heap.objs.size = some _ := Heap.get?_push_of_some _ (Heap.get?_push_of_some _ (Heap.get?_push_of_some _ (Heap.get?_push_of_some _ (Heap.get?_push_size _ rfl))))
  have it : ∀ (x : Bool) (g : Heap) (j c : Addr), g.get? j = some { cls := .type (sName x), data := .fields #[.ref c, .int 0 0] } → SIt x g j c 0 := fun x g j c e => by
    cases x <;> exact ⟨_, e, rfl, rfl⟩
  show _ ∧ _
  rw [e2, e3, e4] at w5
  rw [e1, e2] at w3
  rw [e3] at w4
  rw [e1] at w2
  rw [e4]
  exact ⟨⟨_, w5, rfl⟩, q _ w5 w3 w4 (it u _ _ _ w1) (it v _ _ _ w2) fun c o x => Heap.get?_push_of_some _ (Heap.get?_push_of_some _ (Heap.get?_push_of_some _ (Heap.get?_push_of_some _ (Heap.get?_push_of_some _ x))))⟩
end
end PyY

set_option maxHeartbeats 4000000
namespace L2
open PySem PySem.Spec PyProof.Rows
/-- a list, or (b) a tuple -/
def SqB (b : Bool) (K : PySem.W.Frag) (H : Hp) (a : Addr) (xs : List V) : Prop := match b with
  | true => SqT K H a xs
  | false => SqL K H a xs
theorem SqB.mono {b : Bool} {K : PySem.W.Frag} {H H' : Hp} {a : Addr} {xs : List V} (h : SqB b K H a xs) (s : Same H H') : SqB b K H' a xs := by
  cases b
  · exact s.seq h
  · exact s.tup h
theorem SqB.tup {K : PySem.W.Frag} {H : Hp} {a : Addr} {xs : List V} (h : SqT K H a xs) : SqB true K H a xs := h
section
variable {X : Cx} {pins : List (Addr × Obj)} {σ : St} {H : Hp} {s : Shared}
theorem Inv.sqB {b : Bool} {a : Addr} {xs : List V} (I : Inv X pins σ H s) (h : SqB b X.K H a xs) : ∃ its, Vals xs its ∧ PyY.SSq b s.heap a its.toArray := by
  cases b
  · obtain ⟨its, rv, p, _⟩ := I.list h
    exact ⟨its, rv, p.isList⟩
  · obtain ⟨its, rv, p, _⟩ := I.tuple h
    exact ⟨its, rv, p⟩
theorem Inv.sqB_inj {b : Bool} {a : Addr} {xs ys : List V} (I : Inv X pins σ H s) (h : SqB b X.K H a xs) (h' : SqB b X.K H a ys) : xs = ys := by
  cases b
  · exact I.list_inj h h'
  · exact I.tuple_inj h h'
end
def Itz (K : PySem.W.Frag) (u v : Bool) (a b : Addr) : It :=
  ⟨fun i H => ∃ xs ys x y, SqB u K H a xs ∧ SqB v K H b ys ∧ xs[i]? = some x ∧ ys[i]? = some y,
   fun i H x H' => ∃ T x1 y1, x = .ref T ∧ H T = none ∧ H' = upd H T (.tup [x1, y1]) ∧ (∀ xs, SqB u K H a xs → xs[i]? = some x1) ∧ ∀ ys, SqB v K H b ys → ys[i]? = some y1,
   fun i H => ∃ xs ys, SqB u K H a xs ∧ SqB v K H b ys ∧ (xs.length ≤ i ∨ ys.length ≤ i)⟩
theorem turn_zip {P : Program} {w : World} {K : PySem.W.Frag} {elts : List Expr} {x1} {pos : Pos} (u v : Bool) (a b z p r i j : Addr) (D : PyY.ZA z p r i j a b) :
    Turn P w K (.Tuple elts x1 pos) (Itz K u v a b) [z, p, r, i, j] z (fun k h => IsZip h z p r .none ∧ IsPair h p (.ref i) (.ref j) ∧ (∃ o1 o2, IsPair h r o1 o2) ∧ PyY.SIt u h i a k ∧ PyY.SIt v h j b k) where
  mem := by simp
  obj := fun k h st c hc => by
    obtain ⟨hz, hp, ⟨o1, o2, hr⟩, hi, hj⟩ := st
    simp only [List.mem_cons, List.not_mem_nil, or_false] at hc
    rcases hc with rfl | rfl | rfl | rfl | rfl
    · exact ⟨_, hz, fun v z => by
        have z' : Data.fields _ = Data.cell v := z
        cases z'⟩
    · exact ⟨_, hp, fun v z => by
        have z' : Data.seq _ _ = Data.cell v := z
        cases z'⟩
    · exact ⟨_, hr, fun v z => by
        have z' : Data.seq _ _ = Data.cell v := z
        cases z'⟩
    · exact hi.obj
    · exact hj.obj
  keep := fun k h h' st kk => by
    obtain ⟨hz, hp, ⟨o1, o2, hr⟩, hi, hj⟩ := st
    exact ⟨kk z (by simp) _ hz, kk p (by simp) _ hp, ⟨o1, o2, kk r (by simp) _ hr⟩, hi.at fun o q => kk i (by simp) o q, hj.at fun o q => kk j (by simp) o q⟩
  item := by
    intro X hP hw hK hc k pins s σ H E I hf st hg
    subst hP hw hK
    obtain ⟨hz, hp, ⟨o1, o2, hr⟩, hi, hj⟩ := st
    obtain ⟨xs, ys, x, y, hA, hB, hx, hy⟩ := hg
    obtain ⟨its, rv, pa⟩ := I.sqB hA
    obtain ⟨jts, rw', pb⟩ := I.sqB hB
    obtain ⟨ux, hux, rux⟩ := rv.get hx
    obtain ⟨uy, huy, ruy⟩ := rw'.get hy
    refine PyY.zipS_item D hz hp hr hi hj pa pb (x := ux) (y := uy) (by simpa using hux) (by simpa using huy) fun h1 z1 r1 i1 j1 t1 sz1 k1 => ?_
    refine ⟨_, rfl, wpAny_letOwnedTupleGo_zip z1 fun h2 z2 s2 => ?_⟩
    have lt : ∀ c ∈ [z, p, r, i, j], c < s.heap.objs.size := fun c hc' => by
      simp only [List.mem_cons, List.not_mem_nil, or_false] at hc'
      rcases hc' with rfl | rfl | rfl | rfl | rfl
      · exact Heap.lt_size hz
      · exact Heap.lt_size hp
      · exact Heap.lt_size hr
      · obtain ⟨o, e, _⟩ := hi.obj; exact Heap.lt_size e
      · obtain ⟨o, e, _⟩ := hj.obj; exact Heap.lt_size e
    have s3 : Heap.SameBut z h1 h2 := s2
    have t2 : IsPair h2 s.heap.objs.size ux uy := (s3.2 _ (Nat.ne_of_gt (lt z (by simp)))).trans t1
    have nT : H s.heap.objs.size = none := I.hok.fresh (Nat.le_refl _)
    have p2 : IsPair h2 p (.ref i) (.ref j) := (s3.2 _ D.pz).trans (k1 _ _ D.pz D.pr D.pi D.pj hp)
    have r2 : IsPair h2 r ux uy := (s3.2 _ D.rz).trans r1
    have i2 := i1.ext s3.extBut D.iz
    have j2 := j1.ext s3.extBut D.jz
    have I2 := I.turnLay (t' := s.toks) (h' := h2) (ts := [z, p, r, i, j]) (T := s.heap.objs.size) (o := .tup [x, y]) (fun c o hc' q => ?_) (fun c hc' => ?_) hf (Nat.le_refl _) ⟨by show 2 ≤ sizeLine; decide, [ux, uy], .cons rux (.cons ruy .nil), _, t2, rfl, 0, rfl⟩
    · refine ⟨.ref s.heap.objs.size, _, I2, rfl, ⟨_, x, y, rfl, nT, rfl, fun zs hzs => by rw [I.sqB_inj hzs hA]; exact hx, fun zs hzs => by rw [I.sqB_inj hzs hB]; exact hy⟩, ⟨z2, p2, ⟨_, _, r2⟩, i2, j2⟩, fun c hc' => ?_⟩
      rw [upd_ne (Nat.ne_of_lt (lt c hc'))]
      exact (hf c hc').1
    · have q1 : c ≠ z := fun e => hc' (by simp [e])
      have q2 : c ≠ r := fun e => hc' (by simp [e])
      have q3 : c ≠ i := fun e => hc' (by simp [e])
      have q4 : c ≠ j := fun e => hc' (by simp [e])
      exact (s3.2 c q1).trans (k1 c o q1 q2 q3 q4 q)
    · simp only [List.mem_cons, List.not_mem_nil, or_false] at hc'
      rcases hc' with rfl | rfl | rfl | rfl | rfl
      · exact ⟨_, z2⟩
      · exact ⟨_, p2⟩
      · exact ⟨_, r2⟩
      · obtain ⟨o, e, _⟩ := i2.obj; exact ⟨o, e⟩
      · obtain ⟨o, e, _⟩ := j2.obj; exact ⟨o, e⟩
  done := by
    intro X hP hw hK hc k pins s σ H E I hf st hg
    subst hP hw hK
    obtain ⟨hz, hp, ⟨o1, o2, hr⟩, hi, hj⟩ := st
    obtain ⟨xs, ys, hA, hB, hl⟩ := hg
    obtain ⟨its, rv, pa⟩ := I.sqB hA
    obtain ⟨jts, rw', pb⟩ := I.sqB hB
    have l1 := rv.length
    have l2 := rw'.length
    refine PyY.zipS_end (I.ok.hd hc) D hz hp hr hi hj pa pb ?_ fun h1 k1 => ⟨rfl, I.turnedL (t' := s.toks) (ts := [z, p, r, i, j]) (fun c o hc' q => ?_) hf⟩
    · rcases hl with h | h
      · exact .inl (by simp; omega)
      · exact .inr (by simp; omega)
    · exact k1 c o (fun e => hc' (by simp [e])) (fun e => hc' (by simp [e])) (fun e => hc' (by simp [e])) (fun e => hc' (by simp [e])) q
  self := fun _ _ _ _ _ st h => wpAny_pyIter_zip st.1 h
/-- a walk over pairs -/
structure ZiIt (J : It) (At : Hp → Prop) (ps : List (V × V)) : Prop where
  go : ∀ i H, At H → i < ps.length → J.go i H
  yld : ∀ i H x H2, At H → J.yld i H x H2 → ∃ T y z, x = .ref T ∧ H T = none ∧ H2 = upd H T (.tup [y, z]) ∧ ps[i]? = some (y, z)
  stop : ∀ i H, At H → ps.length ≤ i → J.stop i H
theorem zi_of {K : PySem.W.Frag} {u v : Bool} {a b : Addr} {xs ys : List V} : ZiIt (Itz K u v a b) (fun H => SqB u K H a xs ∧ SqB v K H b ys) (xs.zip ys) where
  go := fun i H h hi => by
    rw [List.length_zip] at hi
    exact ⟨xs, ys, xs[i]'(by omega), ys[i]'(by omega), h.1, h.2, by simp, by simp⟩
  yld := fun i H x H2 h hy => by
    obtain ⟨T, y, z, e, hT, e2, q1, q2⟩ := hy
    refine ⟨T, y, z, e, hT, e2, ?_⟩
    rw [List.getElem?_zip_eq_some]
    exact ⟨q1 xs h.1, q2 ys h.2⟩
  stop := fun i H h hi => by
    rw [List.length_zip] at hi
    exact ⟨xs, ys, h.1, h.2, by omega⟩
def iZip (K : PySem.W.Frag) (ta : TA) : TI := fun σ H R => ta σ H fun vs H1 => ∃ a b u v xs ys Hx, vs = [.ref a, .ref b] ∧ SqB u K Hx a xs ∧ SqB v K Hx b ys ∧ Same Hx H1 ∧ ∀ J At, ZiIt J At (xs.zip ys) → (∀ H', Same Hx H' → At H') → R J H1
theorem zips {X : Cx} {elts : List Expr} {x1} {pt : Pos} {l m : Expr} {ta : TA} {p pos : Pos} (hm : X.mg "zip" = none) (ha : PA X [l, m] ta) (hg : isGlob X.env.scope "zip" = true := by kernel_rfl) (hs : starEach [l, m] X.env = (false, eval l X.env) :: starEach [m] X.env := by rfl) (hs2 : (backTo pos (starEach [m] X.env)).any (·.1) = false := by rfl) :
    PI X (.Tuple elts x1 pt) (.Call (.Name "zip" p) [l, m] [] pos) (iZip X.K ta) := by
  intro pins s σ H R I h
  refine Call_ (ld_blt I (gl_of hg) hm (show bootBuiltins "zip" = some (.type "zip") by kernel_rfl) (PyProof.Rows.callWith_type1 (thn (ha pos pins s σ H _ I h) fun us s1 ⟨vs, H1, I1, r1, q1⟩ => ?_) hs hs2))
  obtain ⟨a, b, u, v, xs, ys, Hx, e, hA, hB, sm, q⟩ := q1
  subst e
  cases r1 with
  | cons r rr =>
    cases rr with
    | cons r' rr =>
      cases rr
      cases (show _ = Value.ref a from r)
      cases (show _ = Value.ref b from r')
      obtain ⟨its, rv, pa⟩ := I1.sqB (hA.mono sm)
      obtain ⟨jts, rw', pb⟩ := I1.sqB (hB.mono sm)
      have la : a < s1.heap.objs.size := by
        cases u
        · obtain ⟨o, e, _⟩ := (show s1.heap.IsList a _ from pa); exact Heap.lt_size e
        · obtain ⟨o, e, _⟩ := (show s1.heap.IsTuple a _ from pa); exact Heap.lt_size e
      have lb : b < s1.heap.objs.size := by
        cases v
        · obtain ⟨o, e, _⟩ := (show s1.heap.IsList b _ from pb); exact Heap.lt_size e
        · obtain ⟨o, e, _⟩ := (show s1.heap.IsTuple b _ from pb); exact Heap.lt_size e
      have nn : ∀ {c d : Nat}, c < d → (c : Addr) ≠ d := fun h => Nat.ne_of_lt h
      have D : PyY.ZA (s1.heap.objs.size + 4) (s1.heap.objs.size + 2) (s1.heap.objs.size + 3) s1.heap.objs.size (s1.heap.objs.size + 1) a b := by
        have la' : (a : Nat) < s1.heap.objs.size := la
        have lb' : (b : Nat) < s1.heap.objs.size := lb
        constructor <;> first | exact Nat.ne_of_lt (Nat.lt_of_lt_of_le la (Nat.le_add_right _ _)) | exact Nat.ne_of_lt (Nat.lt_of_lt_of_le lb (Nat.le_add_right _ _)) | exact Nat.ne_of_lt la | exact Nat.ne_of_lt lb | exact Nat.ne_of_lt (by omega) | exact Nat.ne_of_gt (by omega)
      refine PyY.call_zipS pa pb fun g gz gp gr gi gj gk => wpAny_pyIter_zip gz ?_
      have sz : ∀ c ∈ [s1.heap.objs.size + 4, s1.heap.objs.size + 2, s1.heap.objs.size + 3, s1.heap.objs.size, s1.heap.objs.size + 1], s1.heap.objs.size ≤ c := fun c hc => by
        simp only [List.mem_cons, List.not_mem_nil, or_false] at hc
        rcases hc with rfl | rfl | rfl | rfl | rfl
        · exact Nat.le_add_right _ _
        · exact Nat.le_add_right _ _
        · exact Nat.le_add_right _ _
        · exact Nat.le_refl _
        · exact Nat.le_add_right _ _
      exact ⟨_, [s1.heap.objs.size + 4, s1.heap.objs.size + 2, s1.heap.objs.size + 3, s1.heap.objs.size, s1.heap.objs.size + 1], _, _, H1, rfl, I1.kept (t' := s1.toks) gk, turn_zip u v a b _ _ _ _ _ D, ⟨gz, gp, ⟨_, _, gr⟩, gi, gj⟩, fun c hc => I1.fpOk (sz c hc) (I1.hok.fresh (sz c hc)), q _ _ zi_of fun H' s' => ⟨hA.mono s', hB.mono s'⟩⟩
theorem zipK (K : PySem.W.Frag) {X : Cx} {elts : List Expr} {x1} {pt : Pos} {l m : Expr} {ta : TA} {p pos : Pos} (hm : X.mg "zip" = none) (ha : PA X [l, m] ta) (hK : X.K = K := by rfl) (hg : isGlob X.env.scope "zip" = true := by kernel_rfl) (hs : starEach [l, m] X.env = (false, eval l X.env) :: starEach [m] X.env := by rfl) (hs2 : (backTo pos (starEach [m] X.env)).any (·.1) = false := by rfl) :
    PI X (.Tuple elts x1 pt) (.Call (.Name "zip" p) [l, m] [] pos) (iZip K ta) := hK ▸ zips hm ha hg hs hs2
/-- a comprehension over pairs, the target (x, y), no test, that only makes new things -/
theorem comp_zip {K : PySem.W.Frag} {J : It} {At : Hp → Prop} {own : List Str} {caps : List Nat} {te : TE} {σ : St} {H Hx : Hp} {Q : VK} {ps : List (V × V)} (S : ZiIt J At ps) (hAt : ∀ H', Same Hx H' → At H') (sx : Same Hx H) (cs : St) (hcs : capS own caps σ = none :: none :: cs) (f : V → V → V) (hz : ps.length ≤ 1000000)
    (hs : ∀ (i : Nat) x y H', ps[i]? = some (x, y) → Same H H' → ∀ R : VK, (∀ H5, Same H' H5 → R (f x y) H5) → te (some x :: some y :: cs) H' R)
    (hd : ∀ D H', H D = none → Same H H' → H' D = some (.lst (ps.map fun p => f p.1 p.2)) → Q (.ref D) H') : CompK own caps (gTup K 2 (gCons (gName 0) (gCons (gName 1) gNil))) tTrue te σ Q J H := by
  intro D hD
  refine ⟨fun i m σ' H' => m = ps.length - i ∧ i ≤ ps.length ∧ (∃ v0 v1, σ' = v0 :: v1 :: cs) ∧ Same H H' ∧ H' D = some (.lst ((ps.take i).map fun p => f p.1 p.2)), ⟨_, rfl, Nat.zero_le _, ⟨none, none, hcs⟩, Same.upd hD, by rw [upd_same, List.take_zero]; rfl⟩, ?_⟩
  rintro i m σ' H' ⟨rfl, hi, ⟨v0, v1, rfl⟩, s, hl⟩
  have at' := hAt H' (sx.trans s)
  by_cases hlt : i < ps.length
  · refine .inr ⟨S.go i H' at' hlt, fun σ2 H2 => (∃ v0 v1, σ2 = v0 :: v1 :: cs) ∧ Same H H2 ∧ H2 D = some (.lst ((ps.take (i + 1)).map fun p => f p.1 p.2)), fun σ2 H2 z => ⟨ps.length - (i + 1), by omega, rfl, hlt, z.1, z.2.1, z.2.2⟩, fun x H2 hy => ?_⟩
    obtain ⟨T, y, z, rfl, hT, rfl, hx⟩ := S.yld i H' x H2 at' hy
    have ht : ps.take (i + 1) = ps.take i ++ [(y, z)] := by rw [List.take_add_one, hx]; rfl
    refine ⟨T, _, rfl, .of upd_same, rfl, _, _, rfl, _, _, rfl, rfl, ?_⟩
    refine tT (A := fun H4 => te (some y :: some z :: cs) H4 fun v H5 => ∃ xs, H5 D = some (.lst xs) ∧ xs.length < sizeLine ∧ (∃ v0 v1, (some y :: some z :: cs : St) = v0 :: v1 :: cs) ∧ Same H (upd H5 D (.lst (xs ++ [v]))) ∧ (upd H5 D (.lst (xs ++ [v]))) D = some (.lst ((ps.take (i + 1)).map fun p => f p.1 p.2))) ?_
    refine hs i y z _ hx (s.trans (Same.upd hT)) _ fun H5 s5 => ⟨_, s5 _ _ (Same.upd hT _ _ hl), ?_, ⟨_, _, rfl⟩, ((s.trans (Same.upd hT)).trans s5).updr hD, ?_⟩
    · rw [List.length_map, List.length_take]
      have : (16777216 : Nat) = sizeLine := by decide
      omega
    · rw [upd_same, ht, List.map_append]
      rfl
  · have e : i = ps.length := by omega
    subst e
    refine .inl ⟨S.stop _ H' at' (Nat.le_refl _), hd D H' hD s ?_⟩
    rw [hl, List.take_length]
end L2

set_option maxHeartbeats 4000000
namespace L2
open PySem PySem.Spec PyProof.Rows
section
variable {X : Cx}
/-- x in a list or tuple of data -/
def rInD (K : PySem.W.Frag) (neg : Bool) : R2 := fun x y H Q => ∃ p xs ds dx, y = .ref p ∧ (SqL K H p xs ∨ SqT K H p xs) ∧ RdDs K H xs ds ∧ RdD K H x dx ∧ PyData.canLayAll0 ds = true ∧ dx.canLay0 = true ∧ dx.depth ≤ 60 ∧ Q (.bl (if neg then !(ds.any fun y => y.eqv dx) else ds.any fun y => y.eqv dx)) H
end
end L2
namespace L2
open PySem
end L2

set_option maxHeartbeats 4000000
namespace C4
open PySem L2 PySem.Spec PyProof.Rows
def top (i : Nat) : Stmt := PySem.Challenge.pw_classtab_k04_widened_narrowed_divided.main.body.getD i (.Pass ⟨0, 0, 0, 0⟩)
abbrev sFeed : Stmt := top 15
abbrev sDraw : Stmt := top 16
/-! ### the feed -/
structure FeedAt (H : Hp) (p q : Addr) (ns : List Int) (i j k : Int) : Prop where
  hp : H p = some (.lst [.ref q, .int i, .int j, .int k])
  hq : H q = some (.lst (ns.map V.int))
  hn : ns.length ≤ 63
  hi : 0 ≤ i
  hj : 0 ≤ j
  hk : 0 ≤ k
def Feed (H : Hp) (p : Addr) : Prop := ∃ q ns i j k, FeedAt H p q ns i j k
theorem FeedAt.ne {H : Hp} {p q : Addr} {ns : List Int} {i j k : Int} (F : FeedAt H p q ns i j k) : q ≠ p := fun e => by
  have h1 := F.hp
  have h2 := F.hq
  rw [e, h1] at h2
  cases ns with
  | nil => simp at h2
  | cons n r => simp at h2
theorem FeedAt.upd {H : Hp} {p q : Addr} {ns : List Int} {i j k i' j' k' : Int} (F : FeedAt H p q ns i j k) (h1 : 0 ≤ i') (h2 : 0 ≤ j') (h3 : 0 ≤ k') : FeedAt (upd H p (.lst [.ref q, .int i', .int j', .int k'])) p q ns i' j' k' :=
  ⟨upd_same, by rw [upd_ne F.ne]; exact F.hq, F.hn, h1, h2, h3⟩
theorem FeedAt.mono {H H' : Hp} {p q : Addr} {ns : List Int} {i j k : Int} (s : Same H H') (F : FeedAt H p q ns i j k) : FeedAt H' p q ns i j k := ⟨s _ _ F.hp, s _ _ F.hq, F.hn, F.hi, F.hj, F.hk⟩
theorem ints_inj : ∀ {ns ms : List Int}, ns.map V.int = ms.map V.int → ns = ms
  | [], [], _ => rfl
  | [], _ :: _, h => by cases h
  | _ :: _, [], h => by cases h
  | n :: r, m :: t, h => by
    simp only [List.map_cons, List.cons.injEq, V.int.injEq] at h
    rw [h.1, ints_inj h.2]
theorem FeedAt.uniq {H : Hp} {p q q' : Addr} {ns ns' : List Int} {i j k i' j' k' : Int} (F : FeedAt H p q ns i j k) (G : FeedAt H p q' ns' i' j' k') : q' = q ∧ ns' = ns := by
  have h1 := F.hp.symm.trans G.hp
  simp only [Option.some.injEq, HO.lst.injEq, List.cons.injEq, V.ref.injEq] at h1
  have e : q' = q := h1.1.symm
  subst e
  have h2 := F.hq.symm.trans G.hq
  simp only [Option.some.injEq, HO.lst.injEq] at h2
  exact ⟨rfl, (ints_inj h2).symm⟩
/-- all but the feed stays, and the feed is one again -/
structure Dr (p : Addr) (H H' : Hp) : Prop where
  keep : ∀ b o, H b = some o → b ≠ p → H' b = some o
  at_ : ∀ q ns i j k, FeedAt H p q ns i j k → ∃ i' j' k', FeedAt H' p q ns i' j' k'
theorem Dr.feed {p : Addr} {H H' : Hp} (d : Dr p H H') (F : Feed H p) : Feed H' p := by
  obtain ⟨q, ns, i, j, k, F⟩ := F
  obtain ⟨i', j', k', F'⟩ := d.at_ q ns i j k F
  exact ⟨q, ns, i', j', k', F'⟩
structure Bl (mg : Str → Option Value) : Prop where
  list : mg "list" = none
  len : mg "len" = none
  abs : mg "abs" = none
  range : mg "range" = none
  tuple : mg "tuple" = none
  isi : mg "isinstance" = none
  all : mg "all" = none
  set : mg "set" = none
  repr : mg "repr" = none
  any : mg "any" = none
  int : mg "int" = none
  bool : mg "bool" = none
def spFeed (K : PySem.W.Frag) : Sp := fun vs H Q _ => ∃ (a : Addr) (ns : List Int), vs = [.ref a] ∧ SqL K H a (ns.map V.int) ∧ ∀ p H', Same H H' → H p = none → Feed H' p → Q (.ref p) H'
def spDraw : Sp := fun vs H Q _ => ∃ (p : Addr) (m : Int), vs = [.ref p, .int m] ∧ Feed H p ∧ 0 < m ∧ m.natAbs.log2 < 9000 ∧ ∀ r H', 0 ≤ r → r < m → Dr p H H' → Q (.int r) H'
section
variable {P : Program} {w : World} {K : PySem.W.Frag} {mg : Str → Option Value} {base : Heap}
theorem cut_ints (ns : List Int) (lo hi : Option Int) : ∃ ms : List Int, cutV (ns.map V.int) lo hi = ms.map V.int ∧ (∀ k : Nat, hi = some (k : Int) → ms.length ≤ k) := by
  refine ⟨(ns.drop (HT.sIx ns.length 0 lo)).take (HT.sIx ns.length ns.length hi - HT.sIx ns.length 0 lo), ?_, fun k e => ?_⟩
  · unfold cutV; rw [List.length_map, List.map_take, List.map_drop]
  · subst e
    rw [List.length_take, HT.sIx_nat]; omega
theorem scFeed : FnScope ["_law_script"] ["_law_script"] (defScope sFeed) := ⟨rfl, rfl, rfl, by decide +kernel, rfl, by decide +kernel, by decide +kernel⟩
theorem ok_feed {f : Addr} {fd : FuncData} (F : Fun K "_law_feed" "_law_feed" sFeed f fd) (T : Bl mg) : FnOk P w K mg base CX0 1 f fd ["_law_script"] (spFeed K) := by
  refine F.ok scFeed (fun vs H Q E h => ?_) (fun cdv A outer s H vs Q E hr h => ?_)
  · obtain ⟨a, ns, rfl, _⟩ := h; rfl
  · obtain ⟨a, ns, rfl, hS, k⟩ := h
    refine ⟨_, pss_one (ps_ret (pe_lst (pc (ct call_list_of T.list (pc (pe_slice sl_list (vn 0) po_none (po_some pe_int)) pa_nil)) (pc pe_int (pc pe_int (pc pe_int pa_nil)))))), ?_⟩
    refine ⟨_, rfl, _, rfl, a, _, rfl, hS, fun p1 h1 => ⟨p1, _, rfl, .inl (.of upd_same), fun q hq => ⟨by show 4 ≤ sizeLine; decide, fun p hp => ?_⟩⟩⟩
    obtain ⟨ms, e, hl⟩ := cut_ints ns none (some 63)
    rw [e] at hp ⊢
    have s1 : Same H (upd H p1 (.lst (ms.map V.int))) := Same.upd h1
    have s2 := s1.trans (Same.upd (o := .lst (ms.map V.int)) (e ▸ hq))
    have s3 := s2.trans (Same.upd (o := .lst [.ref q, .int 0, .int 0, .int 0]) hp)
    refine k p _ s3 (s2.free hp) ⟨q, ms, 0, 0, 0, upd_same, ?_, hl 63 rfl, by decide, by decide, by decide⟩
    have nq : q ≠ p := fun z => by rw [← z, upd_same] at hp; cases hp
    rw [upd_ne nq, upd_same]
theorem scDraw : FnScope ["_law_feed_here", "_law_many", "_law_found", "_law_cell", "_law_stirred"] ["_law_feed_here", "_law_many"] (defScope sDraw) := ⟨rfl, rfl, rfl, by decide +kernel, rfl, by decide +kernel, by decide +kernel⟩
theorem ok_draw {f : Addr} {fd : FuncData} (F : Fun K "_law_draw" "_law_draw" sDraw f fd) (T : Bl mg) : FnOk P w K mg base CX0 1 f fd ["_law_feed_here", "_law_many"] spDraw := by
  refine F.ok scDraw (fun vs H Q E h => ?_) (fun cdv A outer s H vs Q E hr h => ?_)
  · obtain ⟨p, m, rfl, _⟩ := h; rfl
  · obtain ⟨p, m, rfl, ⟨q, ns, i, j, k0, F⟩, hm, hml, k⟩ := h
    refine ⟨_, pss_cons (ps_asg (pe_op op_add (pe_ix ix_list (vn 0) pe_int (fun _ _ => rfl)) pe_int) (pg_sub (vn 0) pe_int set_list))
      (pss_cons (ps_while PassesOwn.never (pw_and (pt_cmpR op_eq (pe_ix ix_list (vn 0) pe_int (fun _ _ => rfl)) pe_int (nomark _)) (pw_and1 (pt_cmpR op_lt (pe_ix ix_list (vn 0) pe_int (fun _ _ => rfl)) (cb call_len_seq T.len (pc (pe_ix ix_list (vn 0) pe_int (fun _ _ => rfl)) pa_nil)) (nomark _)))).pt
        (pss_cons (ps_if (pt_cmpR op_ge (cb call_abs T.abs (pc (pe_ix ix_list (pe_ix ix_list (vn 0) pe_int (fun _ _ => rfl)) (pe_ix ix_list (vn 0) pe_int (fun _ _ => rfl)) (fun _ _ => rfl)) pa_nil)) (pe_op op_pow pe_int pe_int) (nomark _))
            (pss_one (ps_asg (cb call_abs T.abs (pc (pe_ix ix_list (pe_ix ix_list (vn 0) pe_int (fun _ _ => rfl)) (pe_ix ix_list (vn 0) pe_int (fun _ _ => rfl)) (fun _ _ => rfl)) pa_nil)) (pg_sub (vn 0) pe_int set_list))) pss_nil)
          (pss_one (ps_asg (pe_op op_add (pe_ix ix_list (vn 0) pe_int (fun _ _ => rfl)) pe_int) (pg_sub (vn 0) pe_int set_list)))))
      (pss_cons (ps_if (pt_cmpR op_gt (pe_ix ix_list (vn 0) pe_int (fun _ _ => rfl)) pe_int (nomark _))
          (pss_cons (sset 2 rfl (pe_op op_mod (pe_ix ix_list (vn 0) pe_int (fun _ _ => rfl)) (vn 1)))
            (pss_cons (ps_asg (pe_op op_fdivB (pe_ix ix_list (vn 0) pe_int (fun _ _ => rfl)) (vn 1)) (pg_sub (vn 0) pe_int set_list)) (pss_one (ps_ret (vn 2))))) pss_nil)
      (pss_cons (sset 3 rfl pe_int)
      (pss_cons (ps_if (pt_cmpR op_gt (cb call_len_seq T.len (pc (pe_ix ix_list (vn 0) pe_int (fun _ _ => rfl)) pa_nil)) pe_int (nomark _))
          (pss_one (sset 3 rfl (pe_ix ix_list (pe_ix ix_list (vn 0) pe_int (fun _ _ => rfl)) (pe_op op_mod (pe_ix ix_list (vn 0) pe_int (fun _ _ => rfl)) (cb call_len_seq T.len (pc (pe_ix ix_list (vn 0) pe_int (fun _ _ => rfl)) pa_nil))) (fun _ _ => rfl)))) pss_nil)
      (pss_cons (sset 4 rfl (pe_op op_mod (pe_op op_add (pe_op op_add (pe_op op_mul (pe_op op_mod (vn 3) pe_int) pe_int) (pe_op op_mul pe_int (pe_ix ix_list (vn 0) pe_int (fun _ _ => rfl)))) pe_int) pe_int))
      (pss_cons (sset 4 rfl (pe_op op_mod (pe_op op_mul (vn 4) (pe_op op_add (vn 4) pe_int)) pe_int))
      (pss_one (ps_ret (pe_op op_mod (pe_op op_mod (pe_op op_mul (vn 4) pe_int) pe_int) (vn 1)))))))))), ?_⟩
    -- feed[1] = feed[1] + 1
    refine ⟨_, rfl, p, _, _, _, rfl, rfl, .of F.hp, rfl, _, _, rfl, rfl, _, rfl, p, _, _, _, rfl, rfl, F.hp, rfl, ?_⟩
    have F1 : FeedAt (upd H p (.lst [.ref q, .int (i + 1), .int j, .int k0])) p q ns (i + 1) j k0 := F.upd (by have := F.hi; omega) F.hj F.hk
    refine tw_intro (fun n σ' H' => ∃ i' j' k', σ' = [some (.ref p), some (.int m), none, none, none] ∧ FeedAt H' p q ns i' j' k' ∧ (∀ b, b ≠ p → H' b = H b) ∧ n = (63 - k').toNat)
      (fun σ' H' => ∃ i' j' k', σ' = [some (.ref p), some (.int m), none, none, none] ∧ FeedAt H' p q ns i' j' k' ∧ (∀ b, b ≠ p → H' b = H b)) ?hend ⟨_, _, _, _, rfl, F1, fun b hb => upd_ne hb, rfl⟩ ?turn
    case turn =>
      rintro hend n σ' H' ⟨i', j', k', rfl, F', hb', rfl⟩
      refine ⟨_, rfl, p, _, _, _, rfl, rfl, .of F'.hp, rfl, rfl, _, rfl, ?_⟩
      refine ite2 (fun hj => ?_) (fun hj => ?_)
      · obtain ⟨kn, rfl⟩ := Int.eq_ofNat_of_zero_le F'.hk
        refine ⟨_, rfl, p, _, _, _, rfl, rfl, .of F'.hp, rfl, _, rfl, p, _, _, _, rfl, rfl, .of F'.hp, rfl, q, _, rfl, .inl (.of F'.hq), _, _, rfl, rfl, _, rfl, ?_⟩
        refine ite2 (fun hl => ?_) (fun hl => hend _ _ ⟨i', j', _, rfl, F', hb'⟩)
        refine ⟨_, fun _ _ z => z, ?_⟩
        have hl' : kn < ns.length := by
          have := of_decide_eq_true hl
          rw [List.length_map] at this; omega
        obtain ⟨z, hz⟩ : ∃ z, ns[kn]? = some z := ⟨_, List.getElem?_eq_getElem hl'⟩
        have hz' : atI (ns.map V.int) (kn : Int) = some (.int z) := atI_nat (by rw [List.getElem?_map, hz]; rfl)
        refine ⟨_, rfl, p, _, _, _, rfl, rfl, .of F'.hp, rfl, _, rfl, p, _, _, _, rfl, rfl, .of F'.hp, rfl, q, _, _, _, rfl, rfl, .of F'.hq, hz', _, rfl, _, _, rfl, rfl, ⟨by decide, by decide, by decide⟩, _, _, rfl, rfl, _, rfl, ?_⟩
        have hn63 := F'.hn
        refine ite2 (fun hg => ?_) (fun hg => ?_)
        · refine ⟨_, rfl, p, _, _, _, rfl, rfl, .of F'.hp, rfl, _, rfl, p, _, _, _, rfl, rfl, .of F'.hp, rfl, q, _, _, _, rfl, rfl, .of F'.hq, hz', _, rfl, _, rfl, p, _, _, _, rfl, rfl, F'.hp, rfl, ?_⟩
          have F2 : FeedAt (upd H' p (.lst [.ref q, .int i', .int (if z < 0 then -z else z), .int kn])) p q ns i' (if z < 0 then -z else z) kn := F'.upd F'.hi (by split <;> omega) F'.hk
          refine ⟨_, rfl, p, _, _, _, rfl, rfl, .of F2.hp, rfl, _, _, rfl, rfl, _, rfl, p, _, _, _, rfl, rfl, F2.hp, rfl, ?_⟩
          exact ⟨(63 - ((kn : Int) + 1)).toNat, by omega, i', _, (kn : Int) + 1, rfl, F2.upd F'.hi (by split <;> omega) (by omega), fun b hb => by rw [upd_ne hb, upd_ne hb]; exact hb' b hb, rfl⟩
        · refine ⟨_, rfl, p, _, _, _, rfl, rfl, .of F'.hp, rfl, _, _, rfl, rfl, _, rfl, p, _, _, _, rfl, rfl, F'.hp, rfl, ?_⟩
          exact ⟨(63 - ((kn : Int) + 1)).toNat, by omega, i', j', (kn : Int) + 1, rfl, F'.upd F'.hi F'.hj (by omega), fun b hb => by rw [upd_ne hb]; exact hb' b hb, rfl⟩
      · exact hend _ _ ⟨i', j', k', rfl, F', hb'⟩
    case hend =>
      rintro σ' H' ⟨i', j', k', rfl, F', hb'⟩
      have dr : ∀ {H2 : Hp} {i2 j2 k2 : Int}, FeedAt H2 p q ns i2 j2 k2 → (∀ b, b ≠ p → H2 b = H b) → Dr p H H2 := fun {H2 i2 j2 k2} F2 hb2 => ⟨fun b o e hb => by rw [hb2 b hb]; exact e, fun q' ns' _ _ _ G => by obtain ⟨rfl, rfl⟩ := F.uniq G; exact ⟨i2, j2, k2, F2⟩⟩
      refine ⟨_, rfl, p, _, _, _, rfl, rfl, .of F'.hp, rfl, _, _, rfl, rfl, _, rfl, ?_⟩
      refine ite2 (fun hg => ?_) (fun hg => ?_)
      · refine ⟨_, rfl, p, _, _, _, rfl, rfl, .of F'.hp, rfl, _, rfl, _, _, rfl, rfl, hm, ?_⟩
        refine ⟨_, rfl, p, _, _, _, rfl, rfl, .of F'.hp, rfl, _, rfl, _, _, rfl, rfl, ⟨hm, hml⟩, _, rfl, p, _, _, _, rfl, rfl, F'.hp, rfl, _, rfl, ?_⟩
        have F2 := F'.upd (i' := i') (j' := j' / m) (k' := k') F'.hi (Int.ediv_nonneg F'.hj (by omega)) F'.hk
        exact k _ _ (Int.emod_nonneg _ (by omega)) (Int.emod_lt_of_pos _ hm) (dr F2 fun b hb => by rw [upd_ne hb]; exact hb' b hb)
      · -- cell = 0; if len(feed[0]) > 0: ..
        have tail : ∀ c : Int, tSeq (tAsg (tOp (rI (fun _ j => 0 < j) fun i j => .int (i % j)) (tOp (rI0 fun i j => .int (i + j)) (tOp (rI0 fun i j => .int (i + j)) (tOp (rI CMul fun i j => .int (i * j)) (tOp (rI (fun _ j => 0 < j) fun i j => .int (i % j)) (tVar 3) (tC (.int 2147483647))) (tC (.int 48271))) (tOp (rI CMul fun i j => .int (i * j)) (tC (.int 7919)) (tOp (rIxL K) (tVar 0) (tC (.int 1))))) (tC (.int 12345))) (tC (.int 2147483629))) (gName 4))
            (tSeq (tAsg (tOp (rI (fun _ j => 0 < j) fun i j => .int (i % j)) (tOp (rI CMul fun i j => .int (i * j)) (tVar 4) (tOp (rI0 fun i j => .int (i + j)) (tVar 4) (tC (.int 40692)))) (tC (.int 2147483587))) (gName 4))
              (tRet (tOp (rI (fun _ j => 0 < j) fun i j => .int (i % j)) (tOp (rI (fun _ j => 0 < j) fun i j => .int (i % j)) (tOp (rI CMul fun i j => .int (i * j)) (tVar 4) (tC (.int 16807))) (tC (.int 2147483563))) (tVar 1)))) { nx := fun _ H' => Q .non H', rt := Q } [some (.ref p), some (.int m), none, some (.int c), none] H' := by
          intro c
          refine ⟨_, rfl, _, _, rfl, rfl, (by show (0 : Int) < _; decide), _, _, rfl, rfl, .inl ⟨by omega, by omega⟩, _, rfl, p, _, _, _, rfl, rfl, .of F'.hp, rfl, _, _, rfl, rfl, .inl ⟨by decide, by decide⟩, _, _, rfl, rfl, _, _, rfl, rfl, _, _, rfl, rfl, (by show (0 : Int) < _; decide), ?_⟩
          refine ⟨_, rfl, _, rfl, _, _, rfl, rfl, _, _, rfl, rfl, .inl ⟨by omega, by omega⟩, _, _, rfl, rfl, (by show (0 : Int) < _; decide), ?_⟩
          refine ⟨_, rfl, _, _, rfl, rfl, .inl ⟨by omega, by omega⟩, _, _, rfl, rfl, (by show (0 : Int) < _; decide), _, rfl, _, _, rfl, rfl, hm, ?_⟩
          exact k _ _ (Int.emod_nonneg _ (by omega)) (Int.emod_lt_of_pos _ hm) (dr F' hb')
        refine ⟨_, rfl, p, _, _, _, rfl, rfl, .of F'.hp, rfl, q, _, rfl, .inl (.of F'.hq), _, _, rfl, rfl, _, rfl, ?_⟩
        refine ite2 (fun hl => ?_) (fun hl => ?_)
        · have hl' : 0 < ns.length := by
            have := of_decide_eq_true hl
            rw [List.length_map] at this; omega
          have hr0 : 0 ≤ i' % (ns.length : Int) ∧ i' % (ns.length : Int) < ns.length := ⟨Int.emod_nonneg _ (by omega), Int.emod_lt_of_pos _ (by omega)⟩
          obtain ⟨rn, hrn⟩ := Int.eq_ofNat_of_zero_le hr0.1
          obtain ⟨z, hz⟩ : ∃ z, ns[rn]? = some z := ⟨_, List.getElem?_eq_getElem (by omega)⟩
          have hz' : atI (ns.map V.int) (i' % ((ns.map V.int).length : Int)) = some (.int z) := by rw [List.length_map, hrn]; exact atI_nat (by rw [List.getElem?_map, hz]; rfl)
          refine ⟨_, rfl, p, _, _, _, rfl, rfl, .of F'.hp, rfl, _, rfl, p, _, _, _, rfl, rfl, .of F'.hp, rfl, _, rfl, p, _, _, _, rfl, rfl, .of F'.hp, rfl, q, _, rfl, .inl (.of F'.hq), _, _, rfl, rfl, (by show (0 : Int) < ((ns.map V.int).length : Int); rw [List.length_map]; omega), q, _, _, _, rfl, rfl, .of F'.hq, hz', ?_⟩
          exact tail z
        · exact tail 0
end
end C4

set_option maxHeartbeats 4000000
namespace C4
open PySem L2 PySem.Spec PyProof.Rows
/-! ### heaps and the feed -/
theorem Feed.mono {H H' : Hp} {p : Addr} (s : Same H H') (F : Feed H p) : Feed H' p := by
  obtain ⟨q, ns, i, j, k, F⟩ := F
  exact ⟨q, ns, i, j, k, F.mono s⟩
theorem Dr.trans {p : Addr} {H H1 H2 : Hp} (a : Dr p H H1) (b : Dr p H1 H2) : Dr p H H2 :=
  ⟨fun c o e n => b.keep c o (a.keep c o e n) n, fun q ns i j k F => let ⟨_, _, _, G⟩ := a.at_ q ns i j k F; b.at_ _ _ _ _ _ G⟩
theorem Dr.refl {p : Addr} {H : Hp} : Dr p H H := ⟨fun _ _ e _ => e, fun _ _ i j k F => ⟨i, j, k, F⟩⟩
theorem Dr.of {p : Addr} {H H1 : Hp} (a : Same H H1) : Dr p H H1 := ⟨fun c o e _ => a c o e, fun _ _ i j k F => ⟨i, j, k, F.mono a⟩⟩
theorem Dr.same {p : Addr} {H H1 H2 : Hp} (a : Dr p H H1) (b : Same H1 H2) : Dr p H H2 := a.trans (.of b)
theorem Dr.pre {p : Addr} {H H1 H2 : Hp} (a : Same H H1) (b : Dr p H1 H2) : Dr p H H2 := (Dr.of a).trans b
/-- a thing that was not there is changed -/
theorem Dr.updN {p l : Addr} {H H1 : Hp} {o : HO} (a : Dr p H H1) (h : H l = none) : Dr p H (upd H1 l o) :=
  ⟨fun c u e n => by rw [upd_ne (ne_of_none e h)]; exact a.keep c u e n, fun q ns i j k F => by
    obtain ⟨i', j', k', G⟩ := a.at_ q ns i j k F
    exact ⟨i', j', k', by rw [upd_ne (ne_of_none F.hp h)]; exact G.hp, by rw [upd_ne (ne_of_none F.hq h)]; exact G.hq, G.hn, G.hi, G.hj, G.hk⟩⟩
/-- what is not a list cannot be the feed -/
theorem Feed.neT {p a : Addr} {H : Hp} {xs : List V} (F : Feed H p) (h : H a = some (.tup xs)) : a ≠ p := fun e => by
  obtain ⟨q, ns, i, j, k, F⟩ := F
  rw [e, F.hp] at h; cases h
theorem Dr.tup {p a : Addr} {H H' : Hp} {xs : List V} (d : Dr p H H') (F : Feed H p) (h : H a = some (.tup xs)) : H' a = some (.tup xs) := d.keep a _ h (F.neT h)
/-! ### things -/
def wholeB (n : String) : Bool := isaB n "int" && !isaB n "bool"
def elB (c : Int) : V → Bool
  | .int i => decide (0 ≤ i) && decide (i < c)
  | _ => false
def isI : V → Bool
  | .int _ => true
  | _ => false
theorem kd_whole {K : PySem.W.Frag} {H : Hp} {x : V} {n : String} (h : Kd K H x n) : wholeB n = isI x := by
  obtain ⟨h, hm⟩ := h
  generalize ht : Value.type n = t at h
  cases h <;> (try cases ht) <;> first | rfl | decide
theorem kd_isTup {K : PySem.W.Frag} {H : Hp} {x : V} {n : String} (h : Kd K H x n) : isaB n "tuple" = decide (n = "tuple") := by
  unfold isaB
  by_cases e : n = "tuple"
  · subst e; decide
  · simp [e]
/-- an item of a thing: its kind, its data -/
def El (K : PySem.W.Frag) (H : Hp) (y : V) : Prop := ∃ n d, Kd K H y n ∧ RdD K H y d ∧ d.canLay0 = true ∧ d.depth ≤ 10
theorem El.mono {K : PySem.W.Frag} {H H' : Hp} {y : V} (s : Same H H') (h : El K H y) : El K H' y := by
  obtain ⟨n, d, a, b, c⟩ := h
  exact ⟨n, d, a.mono s, b.mono s, c⟩
/-- a thing: a tuple of items, or of another kind -/
inductive Th (K : PySem.W.Frag) (H : Hp) : V → Option (List V) → Prop where
  | tup {a : Addr} {xs : List V} (h : H a = some (.tup xs)) (hl : xs.length ≤ 1000) (he : ∀ y ∈ xs, El K H y) : Th K H (.ref a) (some xs)
  | other {x : V} {n : String} (h : Kd K H x n) (hn : n ≠ "tuple") : Th K H x none
theorem Th.kd {K : PySem.W.Frag} {H : Hp} {x : V} {o : Option (List V)} (h : Th K H x o) : ∃ n, Kd K H x n ∧ (isaB n "tuple" = o.isSome) := by
  cases h with
  | tup h hl he => exact ⟨"tuple", ⟨.tup h, by decide⟩, rfl⟩
  | other h hn => exact ⟨_, h, by rw [kd_isTup h]; simp [hn]⟩
def thingsB (o : Option (List V)) (c : Int) : Bool := match o with
  | none => false
  | some xs => xs.all (elB c)
def intsV (xs : List V) : List Int := xs.filterMap fun y => match y with | .int i => some i | _ => none
def spWhole (K : PySem.W.Frag) : Sp := fun vs H Q _ => ∃ x n, vs = [x] ∧ Kd K H x n ∧ Q (.bl (isI x)) H
section
variable {P : Program} {w : World} {K : PySem.W.Frag} {mg : Str → Option Value} {base : Heap}
theorem rngI_mem {lo : Int} {n : Nat} {y : Int} (h : y ∈ rngI lo n) : lo ≤ y ∧ y < lo + n := by
  unfold rngI at h
  obtain ⟨i, hi, rfl⟩ := List.mem_map.mp h
  have := List.mem_range.mp hi
  omega
theorem log_small {m : Int} (h : 0 < m) (h2 : m < 2 ^ 64) : m.natAbs.log2 < 9000 := by
  have := (Nat.log2_lt (n := m.natAbs) (k := 64) (by omega)).mpr (by omega)
  omega
theorem eqvNil (ds : List PyData) : PyData.eqv (.list ds) (.list []) = ds.isEmpty := by
  cases ds with
  | nil => rfl
  | cons d r => rfl
theorem shapedL {ds : List PyData} (h : ∀ d ∈ ds, d.canLay0 = true ∧ d.depth ≤ 10) : SeqAt.shaped (.list ds) = true := by
  have h1 : PyData.canLayAll0 ds = true ∧ PyData.depthAll ds ≤ 10 := by
    induction ds with
    | nil => exact ⟨rfl, Nat.zero_le _⟩
    | cons d r ih =>
      obtain ⟨a, b⟩ := ih fun e he => h e (List.mem_cons_of_mem _ he)
      obtain ⟨c, e⟩ := h d List.mem_cons_self
      exact ⟨by simp only [PyData.canLayAll0, c, a, Bool.and_self], by simp only [PyData.depthAll]; omega⟩
  unfold SeqAt.shaped
  rw [Bool.and_eq_true]
  have h2 : (PyData.list ds).depth ≤ 64 := by simp only [PyData.depth]; omega
  exact ⟨by simp only [PyData.canLay0]; exact h1.1, decide_eq_true h2⟩
theorem filt_empty {α : Type} (p : α → Bool) : ∀ xs : List α, (xs.filter fun y => !p y).isEmpty = xs.all p
  | [] => rfl
  | x :: r => by
    rw [List.filter_cons, List.all_cons]
    cases p x with
    | true => simpa using filt_empty p r
    | false => rfl
theorem els_data {H : Hp} : ∀ {xs : List V}, (∀ y ∈ xs, El K H y) → ∃ ds, RdDs K H xs ds ∧ ds.length = xs.length ∧ ∀ d ∈ ds, d.canLay0 = true ∧ d.depth ≤ 10
  | [], _ => ⟨[], .nil, rfl, fun d h => by cases h⟩
  | x :: r, h => by
    obtain ⟨ds, a, b, c⟩ := els_data (xs := r) fun y hy => h y (List.mem_cons_of_mem _ hy)
    obtain ⟨n, d, _, e1, e2⟩ := h x List.mem_cons_self
    refine ⟨d :: ds, .cons e1 a, by rw [List.length_cons, List.length_cons, b], fun e he => ?_⟩
    rcases List.mem_cons.mp he with rfl | he
    · exact e2
    · exact c e he
theorem isEmpty_of_len {α β : Type} {xs : List α} {ys : List β} (h : xs.length = ys.length) : xs.isEmpty = ys.isEmpty := by
  cases xs <;> cases ys <;> first | rfl | cases h
end
theorem el_int {K : PySem.W.Frag} {H : Hp} (i : Int) : El K H (.int i) := ⟨"int", .int i, ⟨.int i, by decide⟩, .int i, rfl, Nat.zero_le _⟩
theorem el_ints {K : PySem.W.Frag} {H : Hp} {ns : List Int} : ∀ y ∈ ns.map V.int, El K H y := fun y hy => by
  obtain ⟨z, _, rfl⟩ := List.mem_map.mp hy
  exact el_int z
end C4

set_option maxHeartbeats 4000000
namespace C4
open PySem L2 PySem.Spec PyProof.Rows
abbrev sPrimes : Stmt := top 1
abbrev sPlaces : Stmt := top 2
abbrev sWhl : Stmt := top 7
abbrev sGcd : Stmt := top 17
abbrev sLawPl : Stmt := top 19
abbrev sLawNum : Stmt := top 23
/-! ### mirrors -/
def strip : Nat → Int → Int → Int
  | 0, r, _ => r
  | g + 1, r, p => if r % p = 0 then strip g (r / p) p else r
def pr : Nat → Int → Int → List Int → List Int
  | 0, _, _, acc => acc
  | f + 1, r, p, acc => if 1 < r then pr f (strip 6 r p) (p + 1) (if r % p = 0 then acc ++ [p] else acc) else acc
def ends : Nat → Int → Int → Bool
  | 0, r, _ => decide (r ≤ 1)
  | f + 1, r, p => if 1 < r then ends f (strip 6 r p) (p + 1) else true
def primesM (n : Int) : List Int := pr 100 n 2 []
def phiM (n : Int) : Int := (primesM n).foldl (fun f p => f / p * (p - 1)) n
def gcdR : Nat → Int → Int → Int
  | 0, a, _ => a
  | f + 1, a, b => if 0 < b then gcdR f b (a % b) else a
def gcdF (a b : Int) : Int := gcdR 100 a b
def lawPl (n : Int) : Int := (((rngI 1 n.toNat).filter fun k => decide (gcdF k n = 1)).length : Nat)
def okN (n : Nat) : Bool := ends 100 n 2 && (primesM n).all (fun p => decide (2 ≤ p) && decide (p ≤ 60)) && decide (phiM n = lawPl n) && decide (1 ≤ phiM n) && decide (phiM n ≤ 60)
theorem okN_all : ((List.range 61).all fun n => n == 0 || okN n) = true := by decide +kernel
theorem okN_of {n : Nat} (h1 : 1 ≤ n) (h2 : n ≤ 60) : ends 100 n 2 = true ∧ (∀ p ∈ primesM n, 2 ≤ p ∧ p ≤ 60) ∧ phiM n = lawPl n ∧ 1 ≤ phiM n ∧ phiM n ≤ 60 := by
  have h := List.all_eq_true.mp okN_all n (List.mem_range.mpr (by omega))
  have h0 : (n == 0) = false := by simp; omega
  rw [h0, Bool.false_or] at h
  unfold okN at h
  simp only [Bool.and_eq_true, decide_eq_true_eq, List.all_eq_true] at h
  exact ⟨h.1.1.1.1, h.1.1.1.2, h.1.1.2, h.1.2, h.2⟩
theorem div_bounds {r p : Int} (hr : 1 ≤ r) (hp : 2 ≤ p) (h : r % p = 0) : 1 ≤ r / p ∧ 2 * (r / p) ≤ r := by
  have e : p * (r / p) = r := Int.mul_ediv_cancel' (Int.dvd_of_emod_eq_zero h)
  generalize r / p = q at e
  have q1 : 1 ≤ q := by
    apply Classical.byContradiction
    intro hn
    have : p * q ≤ p * 0 := Int.mul_le_mul_of_nonneg_left (by omega) (by omega)
    omega
  have : 2 * q ≤ p * q := Int.mul_le_mul_of_nonneg_right hp (by omega)
  omega
theorem strip_bounds : ∀ (g : Nat) {r p : Int}, 1 ≤ r → 2 ≤ p → 1 ≤ strip g r p ∧ strip g r p ≤ r
  | 0, r, p, hr, _ => ⟨hr, Int.le_refl _⟩
  | g + 1, r, p, hr, hp => by
    unfold strip
    by_cases h : r % p = 0
    · rw [if_pos h]
      obtain ⟨a, b⟩ := div_bounds hr hp h
      have := strip_bounds g (r := r / p) (p := p) a hp
      omega
    · rw [if_neg h]; omega
theorem strip_same {g : Nat} {r p : Int} (h : ¬ r % p = 0) : strip g r p = r := by
  cases g with
  | zero => rfl
  | succ g => unfold strip; rw [if_neg h]
def spPrimes : Sp := fun vs H Q _ => ∃ n : Nat, vs = [.int n] ∧ 1 ≤ n ∧ n ≤ 60 ∧ ∀ l H', Same H H' → H' l = some (.lst ((primesM n).map V.int)) → Q (.ref l) H'
def spPlaces : Sp := fun vs H Q _ => ∃ n : Nat, vs = [.int n] ∧ 1 ≤ n ∧ n ≤ 60 ∧ ∀ H', Same H H' → Q (.int (phiM n)) H'
def spGcd : Sp := fun vs H Q _ => ∃ a b : Int, vs = [.int a, .int b] ∧ 0 ≤ b ∧ b < 100 ∧ Q (.int (gcdF a b)) H
def spLawPl : Sp := fun vs H Q _ => ∃ n : Nat, vs = [.int n] ∧ 1 ≤ n ∧ n ≤ 60 ∧ ∀ H', Same H H' → Q (.int (lawPl n)) H'
section
variable {P : Program} {w : World} {K : PySem.W.Frag} {mg : Str → Option Value} {base : Heap}
theorem scPrimes : FnScope ["n", "primes", "rest", "p"] ["n"] (defScope sPrimes) := ⟨rfl, rfl, rfl, by decide +kernel, rfl, by decide +kernel, by decide +kernel⟩
theorem ok_primes {f : Addr} {fd : FuncData} (F : Fun K "primes_of" "primes_of" sPrimes f fd) (T : Bl mg) : FnOk P w K mg base CX0 1 f fd ["n"] spPrimes := by
  refine F.ok scPrimes (fun vs H Q E h => ?_) (fun cdv A outer s H vs Q E hr h => ?_)
  · obtain ⟨n, rfl, _⟩ := h; rfl
  · obtain ⟨n, rfl, n1, n60, q⟩ := h
    obtain ⟨hends, hps, _⟩ := okN_of n1 n60
    refine ⟨_, pss_cons (sset 1 rfl (pe_lst pa_nil)) (pss_cons (sset 2 rfl (vn 0)) (pss_cons (sset 3 rfl pe_int)
      (pss_cons (ps_while PassesOwn.never (pt_cmpR op_gt (vn 2) pe_int (nomark _))
        (pss_cons (ps_if (pt_cmpR op_eq (pe_op op_mod (vn 2) (vn 3)) pe_int (nomark _)) (pss_one (ps_expr (pe_bm PySem.F.plainAttrs_list PySem.F.slot_list_append PySem.F.type_list_append mt_append (vn 1) (pc (vn 3) pa_nil)))) pss_nil)
        (pss_cons (ps_while PassesOwn.never (pt_cmpR op_eq (pe_op op_mod (vn 2) (vn 3)) pe_int (nomark _)) (pss_one (sset 2 rfl (pe_op op_fdiv (vn 2) (vn 3)))))
        (pss_one (ps_aug (i := 3) (nodupS_ok (by kernel_rfl)) rfl (isLoc_ok (by kernel_rfl)) pe_int ip_add (.inl rfl))))))
      (pss_one (ps_ret (vn 1)))))), ?_⟩
    refine ⟨by decide, fun l hl => ⟨_, rfl, ?_⟩⟩
    have s1 : Same H (upd H l (.lst [])) := Same.upd hl
    refine tw_intro (fun f σ' H' => ∃ (r p : Int) (acc : List Int), σ' = [some (.int n), some (.ref l), some (.int r), some (.int p)] ∧ H' = upd H l (.lst (acc.map V.int)) ∧ 1 ≤ r ∧ r ≤ 60 ∧ 2 ≤ p ∧ p + f = 102 ∧ acc.length + f ≤ 100 ∧ ends f r p = true ∧ pr f r p acc = primesM n)
      (fun σ' H' => ∃ r p : Option V, σ' = [some (.int n), some (.ref l), r, p] ∧ H' = upd H l (.lst ((primesM n).map V.int))) ?hend ⟨100, n, 2, [], rfl, rfl, by omega, by omega, by omega, by omega, by decide, hends, rfl⟩ ?turn
    case hend =>
      rintro σ' H' ⟨r, p, rfl, rfl⟩
      exact ⟨_, rfl, q l _ (Same.upd hl) upd_same⟩
    case turn =>
      rintro hend f σ' H' ⟨r, p, acc, rfl, rfl, r1, r60, p2, pf, al, he, hp⟩
      refine ⟨_, rfl, _, _, rfl, rfl, _, rfl, ?_⟩
      refine ite2 (fun h1 => ?_) (fun h1 => ?_)
      rotate_left
      · have h1 : ¬ 1 < r := fun z => h1 (decide_eq_true z)
        refine hend _ _ ⟨_, _, rfl, ?_⟩
        have : pr f r p acc = acc := by cases f with | zero => rfl | succ f => unfold pr; rw [if_neg h1]
        rw [← hp, this]
      have h1 : 1 < r := of_decide_eq_true h1
      obtain ⟨g, rfl⟩ : ∃ g, f = g + 1 := by
        cases f with
        | zero => unfold ends at he; have := of_decide_eq_true he; omega
        | succ g => exact ⟨g, rfl⟩
      refine ⟨_, fun _ _ z => z, ?_⟩
      unfold ends at he
      unfold pr at hp
      rw [if_pos h1] at he hp
      have sz : (16777216 : Nat) = sizeLine := by decide
      refine ⟨_, rfl, _, rfl, _, _, rfl, rfl, (by show (0 : Int) < p; omega), rfl, _, rfl, ?_⟩
      obtain ⟨acc', hacc, hp', hA⟩ : ∃ acc' : List Int, acc' = (if r % p = 0 then acc ++ [p] else acc) ∧ pr g (strip 6 r p) (p + 1) acc' = primesM n ∧ acc'.length ≤ acc.length + 1 := ⟨_, rfl, hp, by split <;> simp⟩
      obtain ⟨sb1, sb2⟩ := strip_bounds 6 (r := r) (p := p) r1 p2
      refine ite2 (fun h2 => ?_) (fun h2 => ?_)
      · have h2 : r % p = 0 := V.int.inj (of_decide_eq_true h2)
        refine ⟨_, rfl, .inl ⟨rfl, _, .of upd_same⟩, _, rfl, l, _, _, rfl, rfl, upd_same, by rw [List.length_map]; omega, ?_⟩
        have e1 : upd (upd H l (.lst (acc.map V.int))) l (.lst (acc.map V.int ++ [.int p])) = upd H l (.lst (acc'.map V.int)) := by
          rw [upd_upd, hacc, if_pos h2, List.map_append]; rfl
        rw [e1]
        refine tw_intro (fun m σ'' H'' => ∃ (r' : Int) (g' : Nat), σ'' = [some (.int n), some (.ref l), some (.int r'), some (.int p)] ∧ H'' = upd H l (.lst (acc'.map V.int)) ∧ 1 ≤ r' ∧ r' ≤ 60 ∧ r' < 2 ^ g' ∧ strip g' r' p = strip 6 r p ∧ m = r'.toNat)
          (fun σ'' H'' => σ'' = [some (.int n), some (.ref l), some (.int (strip 6 r p)), some (.int p)] ∧ H'' = upd H l (.lst (acc'.map V.int))) ?hend2 ⟨_, r, 6, rfl, rfl, r1, r60, by omega, rfl, rfl⟩ ?turn2
        case hend2 =>
          rintro σ'' H'' ⟨rfl, rfl⟩
          exact ⟨_, rfl, _, _, rfl, rfl, g, by omega, strip 6 r p, p + 1, acc', rfl, rfl, sb1, by omega, by omega, by omega, by omega, he, hp'⟩
        case turn2 =>
          rintro hend2 m σ'' H'' ⟨r', g', rfl, rfl, a1, a2, a3, a4, rfl⟩
          refine ⟨_, rfl, _, rfl, _, _, rfl, rfl, (by show (0 : Int) < p; omega), rfl, _, rfl, ?_⟩
          refine ite2 (fun h3 => ?_) (fun h3 => ?_)
          · have h3 : r' % p = 0 := V.int.inj (of_decide_eq_true h3)
            obtain ⟨b1, b2⟩ := div_bounds a1 p2 h3
            obtain ⟨g2, rfl⟩ : ∃ g2, g' = g2 + 1 := by
              cases g' with
              | zero => simp at a3; omega
              | succ g2 => exact ⟨g2, rfl⟩
            unfold strip at a4
            rw [if_pos h3] at a4
            refine ⟨_, fun _ _ z => z, _, rfl, _, rfl, _, _, rfl, rfl, ⟨by omega, by omega⟩, (r' / p).toNat, by omega, r' / p, g2, rfl, rfl, b1, by omega, ?_, a4, rfl⟩
            rw [Int.pow_succ] at a3
            omega
          · have h3 : ¬ r' % p = 0 := fun z => h3 (decide_eq_true (congrArg V.int z))
            rw [strip_same h3] at a4
            exact hend2 _ _ ⟨by rw [a4], rfl⟩
      · have h2 : ¬ r % p = 0 := fun z => h2 (decide_eq_true (congrArg V.int z))
        have e1 : upd H l (.lst (acc.map V.int)) = upd H l (.lst (acc'.map V.int)) := by rw [hacc, if_neg h2]
        rw [e1]
        have e2 : strip 6 r p = r := strip_same h2
        refine tw_intro (fun m σ'' H'' => σ'' = [some (.int n), some (.ref l), some (.int r), some (.int p)] ∧ H'' = upd H l (.lst (acc'.map V.int)))
          (fun σ'' H'' => σ'' = [some (.int n), some (.ref l), some (.int r), some (.int p)] ∧ H'' = upd H l (.lst (acc'.map V.int))) ?hend3 ⟨0, rfl, rfl⟩ ?turn3
        case hend3 =>
          rintro σ'' H'' ⟨rfl, rfl⟩
          exact ⟨_, rfl, _, _, rfl, rfl, g, by omega, r, p + 1, acc', rfl, rfl, r1, by omega, by omega, by omega, by omega, e2 ▸ he, e2 ▸ hp'⟩
        case turn3 =>
          rintro hend3 m σ'' H'' ⟨rfl, rfl⟩
          refine ⟨_, rfl, _, rfl, _, _, rfl, rfl, (by show (0 : Int) < p; omega), rfl, _, rfl, ?_⟩
          exact iteN (fun z => h2 (V.int.inj (of_decide_eq_true z))) (hend3 _ _ ⟨rfl, rfl⟩)
theorem scPlaces : FnScope ["n", "found", "p"] ["n"] (defScope sPlaces) := ⟨rfl, rfl, rfl, by decide +kernel, rfl, by decide +kernel, by decide +kernel⟩
theorem ok_places {f : Addr} {fd : FuncData} (F : Fun K "places" "places" sPlaces f fd) (T : Bl mg) (GP : Fn P w K mg base CX0 1 "primes_of" ["n"] spPrimes) : FnOk P w K mg base CX0 2 f fd ["n"] spPlaces := by
  refine F.ok scPlaces (fun vs H Q E h => ?_) (fun cdv A outer s H vs Q E hr h => ?_)
  · obtain ⟨n, rfl, _⟩ := h; rfl
  · obtain ⟨n, rfl, n1, n60, q⟩ := h
    obtain ⟨_, hps, _⟩ := okN_of n1 n60
    refine ⟨_, pss_cons (sset 1 rfl (vn 0)) (pss_cons (ps_for PassesOwn.never rfl (itL K (fnc GP hr pass0 (pc (vn 0) pa_nil))) (gn 2)
      (pss_one (sset 1 rfl (pe_op op_mul (pe_op op_fdiv (vn 1) (vn 2)) (pe_op op_sub (vn 2) pe_int)))))
      (pss_one (ps_ret (vn 1)))), ?_⟩
    refine ⟨_, rfl, _, rfl, n, rfl, n1, n60, fun l H1 s1 hl => ⟨l, rfl, ⟨_, .of hl⟩, ?_⟩⟩
    refine for_seq (seq_lst (SqL.of hl)) (fun i σ' H' => ∃ v2 : Option V, σ' = [some (.int n), some (.int (((primesM n).take i).foldl (fun f p => f / p * (p - 1)) n)), v2] ∧ H' = H1) ⟨none, rfl, rfl⟩ (fun _ _ _ ⟨_, _, e⟩ => e ▸ Same.refl _) ?_ ?_
    · rintro i x σ' H' hx ⟨v2, rfl, rfl⟩
      rw [List.getElem?_map] at hx
      cases e : (primesM n)[i]? with
      | none => rw [e] at hx; cases hx
      | some p =>
        rw [e] at hx
        cases hx
        obtain ⟨a1, a2⟩ := hps p (List.mem_of_getElem? e)
        refine ⟨_, rfl, _, rfl, _, _, rfl, rfl, ⟨by omega, by omega⟩, _, rfl, _, _, rfl, rfl, _, _, rfl, rfl, .inr ⟨by omega, by omega⟩, ?_⟩
        refine ⟨some (.int p), ?_, rfl⟩
        have ht : (primesM n).take (i + 1) = (primesM n).take i ++ [p] := by rw [List.take_add_one, e]; rfl
        rw [ht, List.foldl_append]
        rfl
    · rintro σ' H' ⟨v2, rfl, rfl⟩
      refine ⟨_, rfl, ?_⟩
      rw [List.length_map, List.take_length]
      exact q H' s1
theorem scGcd : FnScope ["_law_one", "_law_other"] ["_law_one", "_law_other"] (defScope sGcd) := ⟨rfl, rfl, rfl, by decide +kernel, rfl, by decide +kernel, by decide +kernel⟩
theorem ok_gcd {f : Addr} {fd : FuncData} (F : Fun K "_law_gcd" "_law_gcd" sGcd f fd) : FnOk P w K mg base CX0 1 f fd ["_law_one", "_law_other"] spGcd := by
  refine F.ok scGcd (fun vs H Q E h => ?_) (fun cdv A outer s H vs Q E hr h => ?_)
  · obtain ⟨a, b, rfl, _⟩ := h; rfl
  · obtain ⟨a, b, rfl, b0, b1, q⟩ := h
    refine ⟨_, pss_cons (ps_while PassesOwn.never (pt_cmpR op_gt (vn 1) pe_int (nomark _)) (pss_one (ps_par (i := 0) (j := 1) rfl (nodupS_ok (by kernel_rfl)) rfl rfl (by decide) (isPlainLoc_ok (by kernel_rfl)) (isPlainLoc_ok (by kernel_rfl)) (pc (vn 1) (pc (pe_op op_mod (vn 0) (vn 1)) pa_nil)) rfl)))
      (pss_one (ps_ret (vn 0))), ?_⟩
    refine tw_intro (fun m σ' H' => ∃ (a' b' : Int), σ' = [some (.int a'), some (.int b')] ∧ H' = H ∧ 0 ≤ b' ∧ b' < m ∧ gcdR m a' b' = gcdF a b) (fun σ' H' => ∃ b' : Option V, σ' = [some (.int (gcdF a b)), b'] ∧ H' = H) ?hend ⟨100, a, b, rfl, rfl, b0, b1, rfl⟩ ?turn
    case hend =>
      rintro σ' H' ⟨b', rfl, rfl⟩
      exact ⟨_, rfl, q⟩
    case turn =>
      rintro hend m σ' H' ⟨a', b', rfl, rfl, c0, c1, c2⟩
      refine ⟨_, rfl, _, _, rfl, rfl, _, rfl, ?_⟩
      obtain ⟨m2, rfl⟩ : ∃ m2, m = m2 + 1 := ⟨m - 1, by omega⟩
      unfold gcdR at c2
      refine ite2 (fun h1 => ?_) (fun h1 => ?_)
      · have h1 : 0 < b' := of_decide_eq_true h1
        rw [if_pos h1] at c2
        refine ⟨_, fun _ _ z => z, _, rfl, _, rfl, _, rfl, _, _, rfl, rfl, h1, _, _, rfl, m2, by omega, b', a' % b', rfl, rfl, Int.emod_nonneg _ (by omega), ?_, c2⟩
        have := Int.emod_lt_of_pos a' h1
        omega
      · have h1 : ¬ 0 < b' := fun z => h1 (decide_eq_true z)
        rw [if_neg h1] at c2
        exact hend _ _ ⟨_, by rw [c2], rfl⟩
end
end C4

set_option maxHeartbeats 4000000
namespace C4
open PySem L2 PySem.Spec PyProof.Rows
def numB (o : Option (List V)) (c : Int) : Bool := match o with
  | none => false
  | some xs => decide ((xs.length : Int) = c) && xs.all isI
theorem numB_some (xs : List V) (c : Int) : numB (some xs) c = (decide ((xs.length : Int) = c) && xs.all isI) := rfl
def spNum (K : PySem.W.Frag) : Sp := fun vs H Q _ => ∃ (n : Nat) (x : V) (o : Option (List V)), vs = [.int n, x] ∧ 1 ≤ n ∧ n ≤ 60 ∧ Th K H x o ∧ ∀ H', Same H H' → Q (.bl (numB o (phiM n))) H'
def spWhl : Sp := fun vs H Q _ => ∃ (n : Nat) (k : Int), vs = [.int n, .int k] ∧ 1 ≤ n ∧ n ≤ 60 ∧ ∀ p H', Same H H' → H' p = some (.tup ((k :: List.replicate (phiM n - 1).toNat 0).map V.int)) → Q (.ref p) H'
def spWhOf : Sp := fun vs H Q _ => ∃ (a : Addr) (z : Int) (r : List Int), vs = [.ref a] ∧ H a = some (.tup ((z :: r).map V.int)) ∧ r.length ≤ 1000 ∧ ∀ H', Same H H' → Q (if r.any (fun y => decide (y ≠ 0)) = true then .non else .int z) H'
section
variable {P : Program} {w : World} {K : PySem.W.Frag} {mg : Str → Option Value} {base : Heap}
theorem scLawPl : FnScope ["_law_n"] ["_law_n"] (defScope sLawPl) := ⟨rfl, rfl, rfl, by decide +kernel, rfl, by decide +kernel, by decide +kernel⟩
theorem ok_lawPl {f : Addr} {fd : FuncData} (F : Fun K "_law_places" "_law_places" sLawPl f fd) (T : Bl mg) (GG : Fn P w K mg base CX0 1 "_law_gcd" ["_law_one", "_law_other"] spGcd) : FnOk P w K mg base CX0 2 f fd ["_law_n"] spLawPl := by
  refine F.ok scLawPl (fun vs H Q E h => ?_) (fun cdv A outer s H vs Q E hr h => ?_)
  · obtain ⟨n, rfl, _⟩ := h; rfl
  · obtain ⟨n, rfl, n1, n60, q⟩ := h
    refine ⟨_, pss_one (ps_ret (cb (lenK K) T.len (pc (cmp ["_law_k"] [0] ["_law_k", "_law_n"] rfl (rng2 T.range (pc pe_int (pc (pe_op op_add (vn 0) pe_int) pa_nil))) (fun _ _ _ _ _ => gn 0)
      (fun _ _ _ _ _ => pif_one (pt_cmpR op_eq (fnc GG hr pass0 (pc (vn 0) (pc (vn 1) pa_nil))) pe_int (nomark _))) (fun _ _ _ _ _ => vn 0)) pa_nil))), ?_⟩
    refine ⟨_, rfl, _, _, rfl, rfl, 1, (n : Int) + 1, rfl, ⟨by omega, by omega, by omega, by omega⟩, ?_⟩
    have en : ((n : Int) + 1 - 1).toNat = n := by omega
    rw [en]
    refine comp_filt (seq_rng 1 n) [some (.int n)] rfl (fun y => match y with | .int k => decide (gcdF k n = 1) | _ => false) (fun y => y) (by rw [List.length_map, rngI_len]; omega) ?_ ?_
    · intro i y H' hy s' R R' g1 g2
      rw [List.getElem?_map] at hy
      cases e : (rngI 1 n)[i]? with
      | none => rw [e] at hy; cases hy
      | some k =>
        rw [e] at hy
        cases hy
        refine ⟨_, rfl, _, rfl, k, n, rfl, by omega, by omega, rfl, _, rfl, ?_⟩
        refine ite2 (fun b1 => ?_) (fun b1 => ?_)
        · have b1 : gcdF k n = 1 := V.int.inj (of_decide_eq_true b1)
          exact ⟨_, rfl, g1 (decide_eq_true b1) H' (Same.refl _)⟩
        · have b1 : ¬ gcdF k n = 1 := fun z => b1 (decide_eq_true (congrArg V.int z))
          exact g2 (decide_eq_false b1) H' (Same.refl _)
    · intro D H' hD s' hD'
      refine ⟨D, _, rfl, .inl (.of hD'), ?_⟩
      have e : ((((rngI 1 n).map V.int).filter fun y => match y with | .int k => decide (gcdF k n = 1) | _ => false).map fun y => y).length = ((rngI 1 n).filter fun k => decide (gcdF k n = 1)).length := by
        rw [List.map_id', List.filter_map, List.length_map]; rfl
      rw [e]
      have := q H' s'
      unfold lawPl at this
      rw [Int.toNat_natCast] at this
      exact this
theorem scLawNum : FnScope ["_law_n", "_law_thing"] ["_law_n", "_law_thing"] (defScope sLawNum) := ⟨rfl, rfl, rfl, by decide +kernel, rfl, by decide +kernel, by decide +kernel⟩
theorem ok_lawNum {f : Addr} {fd : FuncData} (F : Fun K "_law_is_number" "_law_is_number" sLawNum f fd) (T : Bl mg) (GL : Fn P w K mg base CX0 2 "_law_places" ["_law_n"] spLawPl) : FnOk P w K mg base CX0 3 f fd ["_law_n", "_law_thing"] (spNum K) := by
  refine F.ok scLawNum (fun vs H Q E h => ?_) (fun cdv A outer s H vs Q E hr h => ?_)
  · obtain ⟨n, x, o, rfl, _⟩ := h; rfl
  · obtain ⟨n, x, o, rfl, n1, n60, hx, q⟩ := h
    have hphi := (okN_of n1 n60).2.2.1
    refine ⟨_, pss_cons (ps_if (pw_or (pt_not (pt_val (cb (isaK K "tuple") T.isi (pc (vn 1) (pc (tyv "tuple" T.tuple) pa_nil))))) (pw_or1 (pt_cmpR op_ne (cb (lenK K) T.len (pc (vn 1) pa_nil)) (fnc GL hr pass0 (pc (vn 0) pa_nil)) (nomark _)))).pt (pss_one (ps_ret pe_bl)) pss_nil)
      (pss_one (ps_ret (pe_cmpR (op_eqD hr.units) (cmp ["_law_one"] [] ["_law_one"] rfl (itT K (vn 1)) (fun _ _ _ _ _ => gn 0)
          (fun _ _ _ _ _ => pif_one (pw_or (pt_val (cb (isaK K "bool") T.isi (pc (vn 0) (pc (tyv "bool" T.bool) pa_nil)))) (pw_or1 (pt_not (pt_val (cb (isaK K "int") T.isi (pc (vn 0) (pc (tyv "int" T.int) pa_nil))))))).pt)
          (fun _ _ _ _ _ => vn 0)) (pe_lst pa_nil) (nomark _)))), ?_⟩
    obtain ⟨t, hk, ht⟩ := hx.kd
    refine ⟨_, rfl, x, t, rfl, hk, _, rfl, ?_⟩
    rw [ht]
    cases hx with
    | other h hn => exact iteP rfl (iteP rfl (q H (Same.refl H)))
    | @tup a xs ha hl he =>
      refine iteN (by simp) ?_
      refine ⟨_, rfl, a, xs, rfl, .inr (.of ha), _, rfl, n, rfl, n1, n60, fun H1 s1 => ⟨rfl, _, rfl, ?_⟩⟩
      refine ite2 (fun h1 => ?_) (fun h1 => ?_)
      · have h1 : ¬ (xs.length : Int) = phiM n := fun z => by
          have : (!decide (V.int (xs.length : Int) = V.int (lawPl n))) = true := h1
          rw [decide_eq_true (congrArg V.int (z.trans hphi))] at this; cases this
        have := q H1 s1
        rw [numB_some] at this
        rw [decide_eq_false h1, Bool.false_and] at this
        exact this
      have h1 : (xs.length : Int) = phiM n := by
        apply Classical.byContradiction
        intro z
        apply h1
        show (!decide (V.int (xs.length : Int) = V.int (lawPl n))) = true
        rw [decide_eq_false (fun e => z ((V.int.inj e).trans hphi.symm))]; rfl
      have ha1 := s1 _ _ ha
      refine ⟨_, rfl, a, rfl, ⟨xs, .of ha1⟩, ?_⟩
      refine comp_filt (seq_tup (SqT.of ha1)) [] rfl (fun y => !isI y) (fun y => y) (by omega) ?_ ?_
      · intro i y H' hy s' R R' g1 g2
        obtain ⟨n', d, hk', _⟩ := (he y (List.mem_of_getElem? hy)).mono (s1.trans s')
        have e := kd_whole hk'
        unfold wholeB at e
        refine ⟨_, rfl, y, n', rfl, hk', _, rfl, ?_⟩
        refine ite2 (fun b1 => ?_) (fun b1 => ?_)
        · rw [b1] at e
          have e' : isI y = false := by rw [← e]; simp
          exact iteP rfl ⟨_, rfl, g1 (by simp [e']) H' (Same.refl _)⟩
        · have b1 : isaB n' "bool" = false := by simpa using b1
          rw [b1] at e
          refine ⟨_, rfl, y, n', rfl, hk', _, rfl, ?_⟩
          refine ite2 (fun b2 => ?_) (fun b2 => ?_)
          · have b2 : isaB n' "int" = false := by simpa using b2
            have e' : isI y = false := by rw [← e, b2]; rfl
            exact ⟨_, rfl, g1 (by simp [e']) H' (Same.refl _)⟩
          · have b2 : isaB n' "int" = true := by simpa using b2
            have e' : isI y = true := by rw [← e, b2]; rfl
            exact g2 (by simp [e']) H' (Same.refl _)
      intro D H' hD s' hD'
      refine ⟨by decide, fun e0 he0 => ?_⟩
      have s2 : Same H (upd H' e0 (.lst [])) := (s1.trans s').trans (Same.upd he0)
      obtain ⟨ds, r1, r2, r3⟩ := els_data (K := K) (H := upd H' e0 (.lst [])) (xs := (xs.filter fun y => !isI y).map fun y => y) fun y hy => by
        rw [List.map_id'] at hy
        exact (he y (List.mem_filter.mp hy).1).mono s2
      refine ⟨_, _, .lst (.of (Same.upd he0 _ _ hD')) r1, .lst (.of upd_same) .nil, shapedL r3, rfl, ?_⟩
      rw [eqvNil, isEmpty_of_len r2, List.map_id', filt_empty]
      have := q _ s2
      rw [numB_some] at this
      rw [decide_eq_true h1, Bool.true_and] at this
      exact this
theorem scWhl : FnScope ["n", "k"] ["n", "k"] (defScope sWhl) := ⟨rfl, rfl, rfl, by decide +kernel, rfl, by decide +kernel, by decide +kernel⟩
theorem rep_flat (m : Nat) : (List.replicate m [V.int 0]).flatten = (List.replicate m (0 : Int)).map V.int := by
  induction m with
  | zero => rfl
  | succ m ih => rw [List.replicate_succ, List.flatten_cons, ih, List.replicate_succ]; rfl
theorem ok_whl {f : Addr} {fd : FuncData} (F : Fun K "whole" "whole" sWhl f fd) (GP : Fn P w K mg base CX0 2 "places" ["n"] spPlaces) : FnOk P w K mg base CX0 3 f fd ["n", "k"] spWhl := by
  refine F.ok scWhl (fun vs H Q E h => ?_) (fun cdv A outer s H vs Q E hr h => ?_)
  · obtain ⟨n, k, rfl, _⟩ := h; rfl
  · obtain ⟨n, k, rfl, n1, n60, q⟩ := h
    obtain ⟨_, _, _, p1, p60⟩ := okN_of n1 n60
    refine ⟨_, pss_one (ps_ret (pe_op op_catU (pe_tup (pc (vn 1) pa_nil)) (pe_op op_repT (pe_tup (pc pe_int pa_nil)) (pe_op op_sub (fnc GP hr pass0 (pc (vn 0) pa_nil)) pe_int)))), ?_⟩
    refine ⟨_, rfl, (by show 1 ≤ sizeLine; decide), fun t1 h1 => ⟨(by show 1 ≤ sizeLine; decide), fun t2 h2 => ⟨_, rfl, n, rfl, n1, n60, fun H1 s1 => ⟨_, _, rfl, rfl, ?_⟩⟩⟩⟩
    have st1 : Same H (upd H t1 (.tup [.int k])) := Same.upd h1
    have st2 := Same.upd (o := .tup [.int 0]) h2
    obtain ⟨m, hm⟩ := Int.eq_ofNat_of_zero_le (show 0 ≤ phiM n - 1 by omega)
    refine ⟨t2, _, m, rfl, congrArg V.int hm, s1 _ _ upd_same, by simp, by simp; omega, by omega, fun t3 H3 s3 h3 => ?_⟩
    refine ⟨t1, t3, _, _, rfl, rfl, s3 _ _ (s1 _ _ (st2 _ _ upd_same)), h3, ?_, fun t4 H4 s4 h4 => ?_⟩
    · rw [rep_flat, List.length_map, List.length_replicate]
      have : (16777216 : Nat) = sizeLine := by decide
      simp; omega
    · refine q t4 H4 ((((st1.trans st2).trans s1).trans s3).trans s4) ?_
      rw [h4, rep_flat, hm, Int.toNat_natCast]; rfl
end
end C4

set_option maxHeartbeats 4000000
namespace C4
open PySem L2 PySem.Spec PyProof.Rows
abbrev sLW : Stmt := top 25
abbrev sLNum : Stmt := top 26
def spN : Sp := fun vs H Q _ => ∃ p : Addr, vs = [.ref p] ∧ Feed H p ∧ ∀ (n : Nat) H', 1 ≤ n → n ≤ 60 → Dr p H H' → Q (.int n) H'
def spW : Sp := fun vs H Q _ => ∃ p : Addr, vs = [.ref p] ∧ Feed H p ∧ ∀ (z : Int) H', z.natAbs ≤ 10 ^ 17 → Dr p H H' → Q (.int z) H'
def spNumber : Sp := fun vs H Q _ => ∃ (p : Addr) (n : Nat), vs = [.ref p, .int n] ∧ Feed H p ∧ 1 ≤ n ∧ n ≤ 60 ∧ ∀ a (ns : List Int) H', (ns.length : Int) = phiM n → (∀ z ∈ ns, z.natAbs ≤ 10 ^ 17) → Dr p H H' → H' a = some (.tup (ns.map V.int)) → Q (.ref a) H'
def spTruth : Sp := fun vs H Q _ => ∃ b c : Bool, vs = [.bl b, .bl c] ∧ Q (.bl (decide (b = c))) H
theorem Feed.ne_none {p l : Addr} {H : Hp} (F : Feed H p) (h : H l = none) : l ≠ p := by
  obtain ⟨q0, ms, i, j, k, Fa⟩ := F
  exact (ne_of_none Fa.hp h).symm
section
variable {P : Program} {w : World} {K : PySem.W.Frag} {mg : Str → Option Value} {base : Heap}
theorem scLW : FnScope ["_law_feed_here", "_law_far"] ["_law_feed_here"] (defScope sLW) := ⟨rfl, rfl, rfl, by decide +kernel, rfl, by decide +kernel, by decide +kernel⟩
theorem ok_w {f : Addr} {fd : FuncData} (F : Fun K "_law_whole" "_law_whole" sLW f fd) (GD : Fn P w K mg base CX0 1 "_law_draw" ["_law_feed_here", "_law_many"] spDraw) : FnOk P w K mg base CX0 2 f fd ["_law_feed_here"] spW := by
  refine F.ok scLW (fun vs H Q E h => ?_) (fun cdv A outer s H vs Q E hr h => ?_)
  · obtain ⟨p, rfl, _⟩ := h; rfl
  · obtain ⟨p, rfl, F0, q⟩ := h
    refine ⟨_, pss_cons (sset 1 rfl (pe_ix (ixL K) (pe_lst (pc pe_int (pc pe_int (pc (pe_op op_pow pe_int pe_int) pa_nil)))) (fnc GD hr pass0 (pc (vn 0) (pc pe_int pa_nil))) (fun _ _ => rfl)))
      (pss_one (ps_ret (pe_op op_sub (fnc GD hr pass0 (pc (vn 0) (pc (pe_op op_add (pe_op op_mul pe_int (vn 1)) pe_int) pa_nil))) (vn 1)))), ?_⟩
    refine ⟨_, _, rfl, rfl, ⟨by decide, by decide, by decide⟩, (by show 3 ≤ sizeLine; decide), fun l hl => ?_⟩
    have sl := Same.upd (H := H) (o := .lst [.int 3, .int 30, .int (10 ^ 17)]) hl
    refine ⟨_, rfl, p, 3, rfl, F0.mono sl, by decide, by decide +kernel, fun r1 H1 a1 b1 d1 => ?_⟩
    obtain ⟨gv, hgv, hgm⟩ := ixget (xs := [V.int 3, V.int 30, V.int (10 ^ 17)]) a1 (by simpa using b1)
    obtain ⟨far, rfl, g1, g2⟩ : ∃ m : Int, gv = .int m ∧ 1 ≤ m ∧ m ≤ 10 ^ 17 := by
      simp only [List.mem_cons, List.not_mem_nil, or_false] at hgm
      rcases hgm with rfl | rfl | rfl
      · exact ⟨3, rfl, by decide, by decide⟩
      · exact ⟨30, rfl, by decide, by decide⟩
      · exact ⟨10 ^ 17, rfl, by decide, by decide⟩
    refine ⟨l, _, r1, _, rfl, rfl, .of (d1.keep _ _ upd_same (F0.ne_none hl)), hgv, ?_⟩
    have e1 : Dr p H H1 := Dr.pre sl d1
    have F1 := e1.feed F0
    refine ⟨_, rfl, _, rfl, _, _, rfl, rfl, .inl ⟨by decide, by decide⟩, _, _, rfl, rfl, p, _, rfl, F1, (by show 0 < 2 * far + 1; omega), log_small (by show 0 < 2 * far + 1; omega) (by show 2 * far + 1 < 2 ^ 64; omega), fun r2 H2 a2 b2 d2 => ?_⟩
    refine ⟨_, rfl, _, _, rfl, rfl, ?_⟩
    have b2 : r2 < 2 * far + 1 := b2
    exact q (r2 - far) H2 (by omega) (e1.trans d2)
theorem scLNum : FnScope ["_law_feed_here", "_law_n", "_law_few", "_law_found"] ["_law_feed_here", "_law_n"] (defScope sLNum) := ⟨rfl, rfl, rfl, by decide +kernel, rfl, by decide +kernel, by decide +kernel⟩
theorem ok_lnum {f : Addr} {fd : FuncData} (F : Fun K "_law_number" "_law_number" sLNum f fd) (T : Bl mg) (GD : Fn P w K mg base CX0 1 "_law_draw" ["_law_feed_here", "_law_many"] spDraw) (GW : Fn P w K mg base CX0 2 "_law_whole" ["_law_feed_here"] spW)
    (GL : Fn P w K mg base CX0 2 "_law_places" ["_law_n"] spLawPl) : FnOk P w K mg base CX0 3 f fd ["_law_feed_here", "_law_n"] spNumber := by
  refine F.ok scLNum (fun vs H Q E h => ?_) (fun cdv A outer s H vs Q E hr h => ?_)
  · obtain ⟨p, n, rfl, _⟩ := h; rfl
  · obtain ⟨p, n, rfl, F0, n1, n60, q⟩ := h
    obtain ⟨_, _, hphi, p1, p60⟩ := okN_of n1 n60
    refine ⟨_, pss_cons (sset 2 rfl (fnc GD hr pass0 (pc (vn 0) (pc pe_int pa_nil))))
      (pss_cons (setc 3 ["_law_k"] [0] ["_law_k", "_law_feed_here"] rfl rfl (rng1 T.range (pc (fnc GL hr pass0 (pc (vn 1) pa_nil)) pa_nil)) (fun _ _ _ _ _ => gn 0) (fun _ _ _ _ _ => pif_nil) (fun _ _ _ _ _ => fnc GW hr pass0 (pc (vn 1) pa_nil)))
      (pss_one (ps_ret (ct call_tuple_of T.tuple (pc (cmp ["_law_one"] [0, 2] ["_law_one", "_law_feed_here", "_law_few"] rfl (itL K (vn 3)) (fun _ _ _ _ _ => gn 0) (fun _ _ _ _ _ => pif_nil)
        (fun _ _ _ _ _ => pe_op op_mul (vn 0) (pe_ix (ixL K) (pe_lst (pc pe_int (pc (ct call_int1 T.int (pc (pe_cmpR op_eq (fnc GD hr pass0 (pc (vn 1) (pc pe_int pa_nil))) pe_int (nomark _)) pa_nil)) pa_nil))) (vn 2) (fun _ _ => rfl)))) pa_nil))))), ?_⟩
    refine ⟨_, rfl, p, 2, rfl, F0, by decide, by decide +kernel, fun few H1 a1 b1 d1 => ?_⟩
    have F1 := d1.feed F0
    refine ⟨_, rfl, n, rfl, n1, n60, fun H2 s2 => ⟨_, rfl, by omega, by omega, ?_⟩⟩
    have F2 := F1.mono s2
    have hlen : ((rngI 0 (lawPl n).toNat).map V.int).length = (phiM n).toNat := by rw [List.length_map, rngI_len, hphi]
    refine comp_gen (xs := (rngI 0 (lawPl n).toNat).map V.int) (fun D i ys H' => Dr p H2 H' ∧ ∃ zs : List Int, ys = zs.map V.int ∧ ∀ z ∈ zs, z.natAbs ≤ 10 ^ 17) [some (.ref p)] rfl (by rw [hlen]; omega) ?_ ?_ ?_ ?_
    · intro D i ys H' hD hD' _
      have S := seq_rng (H := H') 0 (lawPl n).toNat
      exact ⟨fun hi => ⟨S.go i H' (Same.refl _) hi, fun x H3 y => S.yld i H' x H3 (Same.refl _) hi y⟩, fun e => e ▸ S.stop H' (Same.refl _)⟩
    · intro D hD
      exact ⟨Dr.refl.updN hD, [], rfl, fun z hz => by cases hz⟩
    · rintro D i x ys H' hD hD' hx ⟨d, zs, rfl, hzs⟩ R k
      refine ⟨_, rfl, p, rfl, d.feed F2, fun z H5 hz d5 => ?_⟩
      have nD := F2.ne_none hD
      refine k _ H5 (d5.keep D _ hD' nD) ⟨(d.trans d5).updN hD, zs ++ [z], by rw [List.map_append]; rfl, fun y hy => ?_⟩
      rcases List.mem_append.mp hy with h | h
      · exact hzs y h
      · rw [List.mem_singleton.mp h]; exact hz
    · rintro D ys H3 hD hD' hyl ⟨d3, zs, rfl, hzs⟩
      have F3 := d3.feed F2
      have nD := F2.ne_none hD
      refine ⟨_, rfl, D, rfl, ⟨_, .of hD'⟩, ?_⟩
      refine comp_gen (xs := zs.map V.int) (fun D2 i ys H' => Dr p H3 H' ∧ ∃ us : List Int, ys = us.map V.int ∧ ∀ z ∈ us, z.natAbs ≤ 10 ^ 17) [some (.ref p), some (.int few)] rfl (by rw [hyl, hlen]; omega) ?_ ?_ ?_ ?_
      · intro D2 i ys H' hD2 hD2' ⟨d, _⟩
        have hl := d.keep D _ hD' nD
        have S := seq_lst (K := K) (H := H') (SqL.of hl)
        exact ⟨fun hi => ⟨S.go i H' (Same.refl _) hi, fun x H4 y => S.yld i H' x H4 (Same.refl _) hi y⟩, fun e => e ▸ S.stop H' (Same.refl _)⟩
      · intro D2 hD2
        exact ⟨Dr.refl.updN hD2, [], rfl, fun z hz => by cases hz⟩
      · rintro D2 i x ys H' hD2 hD2' hx ⟨d, us, rfl, hus⟩ R k
        rw [List.getElem?_map] at hx
        cases e : zs[i]? with
        | none => rw [e] at hx; cases hx
        | some z =>
          rw [e] at hx
          cases hx
          have hz := hzs z (List.mem_of_getElem? e)
          have n2 := F3.ne_none hD2
          refine ⟨_, rfl, _, rfl, p, 3, rfl, d.feed F3, by decide, by decide +kernel, fun r H5 r0 r1 d5 => ⟨rfl, .inr ⟨_, rfl, (by show 2 ≤ sizeLine; decide), fun l hl => ?_⟩⟩⟩
          have h5 := d5.keep D2 _ hD2' n2
          have nl : D2 ≠ l := ne_of_none h5 hl
          obtain ⟨c, hc, c01⟩ : ∃ c : Int, atI [V.int 1, V.int (if decide (V.int r = V.int 0) = true then 1 else 0)] few = some (.int c) ∧ (c = 0 ∨ c = 1) := by
            by_cases f0 : few = 0
            · subst f0; exact ⟨1, atI_nat (j := 0) rfl, .inr rfl⟩
            · have : few = 1 := by omega
              subst this
              exact ⟨_, atI_nat (j := 1) rfl, by split <;> simp⟩
          refine ⟨_, rfl, l, _, few, _, rfl, rfl, .of upd_same, hc, _, _, rfl, rfl, .inl ⟨by omega, by omega⟩, ?_⟩
          refine k _ _ (by rw [upd_ne nl]; exact h5) ⟨((d.trans d5).same (Same.upd hl)).updN hD2, us ++ [z * c], by rw [List.map_append]; rfl, fun y hy => ?_⟩
          rcases List.mem_append.mp hy with h | h
          · exact hus y h
          · rw [List.mem_singleton.mp h]
            rcases c01 with rfl | rfl
            · simp
            · rw [Int.mul_one]; exact hz
      · rintro D2 ys H4 hD2 hD2' hyl2 ⟨d4, us, rfl, hus⟩
        refine ⟨D2, _, rfl, .inl ⟨.of hD2', fun t ht => ?_⟩⟩
        refine q t us _ ?_ hus ?_ upd_same
        · rw [List.length_map, List.length_map] at hyl2
          rw [List.length_map, hlen] at hyl
          omega
        · exact (((d1.same s2).trans d3).trans d4).same (Same.upd ht)
end
end C4

set_option maxHeartbeats 4000000
namespace L2
open PySem PySem.Spec PyProof.Rows
theorem reprK {X : Cx} (K : PySem.W.Frag) {k : Nat} (hr : Room k X.A) (hK : X.K = K := by rfl) : CallR X (.builtin "repr") (fun xs H Q => ∃ x d, xs = [x] ∧ RdD K H x d ∧ FitD d ∧ Q (.str d.shown) H) := hK ▸ call_repr hr
end L2
namespace C4
open PySem L2 PySem.Spec PyProof.Rows
theorem fit_non : FitD .none := ⟨rfl, rfl, by decide, by decide +kernel⟩
def spBent (K : PySem.W.Frag) : Sp := fun vs H Q _ => ∃ (p a : Addr) (ns : List Int), vs = [.ref p, .ref a] ∧ Feed H p ∧ H a = some (.tup (ns.map V.int)) ∧ 1 ≤ ns.length ∧ ns.length ≤ 60 ∧ ∀ x o H', Dr p H H' → (∀ H'', Dr p H' H'' → Th K H'' x o) → Q x H'
section
variable {P : Program} {w : World} {K : PySem.W.Frag} {mg : Str → Option Value} {base : Heap}
end
end C4

set_option maxHeartbeats 1000000
namespace Num
/-! Numbers over powers of a root: rows, sums of rows, what a sum over powers means. -/
def co (a : List Int) (i : Nat) : Int := a.getD i 0
theorem co_nil (i : Nat) : co [] i = 0 := by simp [co]
theorem co_zero (x : Int) (r : List Int) : co (x :: r) 0 = x := by simp [co]
theorem co_succ (x : Int) (r : List Int) (i : Nat) : co (x :: r) (i + 1) = co r i := by simp [co]
theorem co_ge {a : List Int} {i : Nat} (h : a.length ≤ i) : co a i = 0 := by
  unfold co
  rw [List.getD_eq_getElem?_getD, List.getElem?_eq_none h]
  rfl
theorem co_get {a : List Int} {i : Nat} (h : i < a.length) : a[i]? = some (co a i) := by
  unfold co
  rw [List.getD_eq_getElem?_getD, List.getElem?_eq_getElem h]
  rfl
def vadd : List Int → List Int → List Int
  | [], b => b
  | a, [] => a
  | x :: a, y :: b => (x + y) :: vadd a b
def vsc (c : Int) (a : List Int) : List Int := a.map (c * ·)
theorem co_vadd : ∀ (a b : List Int) (i : Nat), co (vadd a b) i = co a i + co b i
  | [], b, i => by rw [vadd, co_nil, Int.zero_add]
  | x :: a, [], i => by rw [vadd, co_nil, Int.add_zero]; intro z; cases z
  | x :: a, y :: b, 0 => by rw [vadd, co_zero, co_zero, co_zero]
  | x :: a, y :: b, i + 1 => by rw [vadd, co_succ, co_succ, co_succ, co_vadd a b i]
theorem co_vsc (c : Int) : ∀ (a : List Int) (i : Nat), co (vsc c a) i = c * co a i
  | [], i => by unfold vsc; rw [List.map_nil, co_nil, Int.mul_zero]
  | x :: a, 0 => by unfold vsc; rw [List.map_cons, co_zero, co_zero]
  | x :: a, i + 1 => by
    have := co_vsc c a i
    unfold vsc at this ⊢
    rw [List.map_cons, co_succ, co_succ, this]
/-- the rows, each so many times, added up -/
def lin : List Int → List (List Int) → List Int
  | _, [] => []
  | a, r :: rs => vadd (vsc (co a 0) r) (lin a.tail rs)
theorem co_tail (a : List Int) (i : Nat) : co a.tail i = co a (i + 1) := by
  cases a with
  | nil => rw [List.tail_nil, co_nil, co_nil]
  | cons x r => rw [List.tail_cons, co_succ]
theorem co_lin_cons (a : List Int) (r : List Int) (rs : List (List Int)) (j : Nat) : co (lin a (r :: rs)) j = co a 0 * co r j + co (lin a.tail rs) j := by
  rw [lin, co_vadd, co_vsc]
def ro (R : List (List Int)) (i : Nat) : List Int := R.getD i []
theorem ro_zero (r : List Int) (rs : List (List Int)) : ro (r :: rs) 0 = r := by simp [ro]
theorem ro_succ (r : List Int) (rs : List (List Int)) (i : Nat) : ro (r :: rs) (i + 1) = ro rs i := by simp [ro]
theorem ro_nil (i : Nat) : ro [] i = [] := by simp [ro]
/-- one number changed -/
theorem lin_set (j : Nat) (v : Int) : ∀ (a : List Int) (i : Nat) (R : List (List Int)), i < a.length → co (lin (a.set i v) R) j = co (lin a R) j + (v - co a i) * co (ro R i) j
  | a, i, [], h => by rw [ro_nil, co_nil, Int.mul_zero, Int.add_zero]; unfold lin; rfl
  | [], i, r :: rs, h => by cases h
  | x :: a, 0, r :: rs, h => by
    rw [List.set_cons_zero, co_lin_cons, co_lin_cons, co_zero, co_zero, ro_zero, List.tail_cons, List.tail_cons, Int.sub_mul]
    omega
  | x :: a, i + 1, r :: rs, h => by
    rw [List.set_cons_succ, co_lin_cons, co_lin_cons, co_zero, co_zero, co_succ, ro_succ, List.tail_cons, List.tail_cons, lin_set j v a i rs (Nat.lt_of_succ_lt_succ h)]
    omega
theorem lin_nil : ∀ (R : List (List Int)) (j : Nat), co (lin [] R) j = 0
  | [], j => by unfold lin; exact co_nil j
  | r :: rs, j => by rw [co_lin_cons, co_nil, List.tail_nil, lin_nil rs j, Int.zero_mul, Int.add_zero]
theorem lin_zeros : ∀ (m : Nat) (R : List (List Int)) (j : Nat), co (lin (List.replicate m 0) R) j = 0
  | 0, R, j => lin_nil R j
  | m + 1, [], j => by unfold lin; exact co_nil j
  | m + 1, r :: rs, j => by rw [co_lin_cons, List.replicate_succ, co_zero, List.tail_cons, lin_zeros m rs j, Int.zero_mul, Int.add_zero]
/-- a sum over powers, each power by its rest, as so many times the rows -/
def sig (n : Nat) (R : List (List Int)) (j : Nat) : List Int → Nat → Int
  | [], _ => 0
  | x :: xs, k => x * co (ro R (k % n)) j + sig n R j xs (k + 1)
def foldN (n : Nat) : List Int → Nat → List Int → List Int
  | [], _, acc => acc
  | x :: xs, k, acc => foldN n xs (k + 1) (acc.set (k % n) (co acc (k % n) + x))
def foldL (n : Nat) (ps : List Int) : List Int := foldN n ps 0 (List.replicate n 0)
theorem foldN_len (n : Nat) : ∀ (ps : List Int) (k : Nat) (acc : List Int), (foldN n ps k acc).length = acc.length
  | [], k, acc => rfl
  | x :: xs, k, acc => by rw [foldN, foldN_len n xs, List.length_set]
theorem foldL_len (n : Nat) (ps : List Int) : (foldL n ps).length = n := by unfold foldL; rw [foldN_len, List.length_replicate]
theorem lin_fold (n : Nat) (hn : 0 < n) (R : List (List Int)) (j : Nat) : ∀ (ps : List Int) (k : Nat) (acc : List Int), acc.length = n → co (lin (foldN n ps k acc) R) j = co (lin acc R) j + sig n R j ps k
  | [], k, acc, h => by rw [foldN, sig, Int.add_zero]
  | x :: xs, k, acc, h => by
    rw [foldN, lin_fold n hn R j xs (k + 1) _ (by rw [List.length_set, h]), lin_set j _ acc (k % n) R (by rw [h]; exact Nat.mod_lt _ hn), sig]
    have e : co acc (k % n) + x - co acc (k % n) = x := by omega
    rw [e]
    omega
theorem lin_foldL (n : Nat) (hn : 0 < n) (R : List (List Int)) (ps : List Int) (j : Nat) : co (lin (foldL n ps) R) j = sig n R j ps 0 := by
  unfold foldL
  rw [lin_fold n hn R j ps 0 _ (List.length_replicate ..), lin_zeros, Int.zero_add]
theorem sig_zeros (n : Nat) (R : List (List Int)) (j : Nat) : ∀ (m k : Nat), sig n R j (List.replicate m 0) k = 0
  | 0, k => rfl
  | m + 1, k => by rw [List.replicate_succ, sig, sig_zeros n R j m (k + 1), Int.zero_mul, Int.add_zero]
theorem sig_set (n : Nat) (R : List (List Int)) (j : Nat) (c : Int) : ∀ (a : List Int) (i k : Nat), i < a.length → sig n R j (a.set i (co a i + c)) k = sig n R j a k + c * co (ro R ((k + i) % n)) j
  | [], i, k, h => by cases h
  | x :: a, 0, k, h => by
    rw [List.set_cons_zero, sig, sig, co_zero, Int.add_mul]
    simp only [Nat.add_zero]
    omega
  | x :: a, i + 1, k, h => by
    rw [List.set_cons_succ, sig, sig, co_succ, sig_set n R j c a i (k + 1) (Nat.lt_of_succ_lt_succ h), show k + 1 + i = k + (i + 1) by omega]
    omega
/-! ### the law's own look -/
def lk (n : Nat) (s : Nat) (g : Nat → Int) : Nat → Int := fun k => g k - g ((k + (n - s)) % n)
def lks (n : Nat) (ss : List Nat) (g : Nat → Int) : Nat → Int := ss.foldl (fun g s => lk n s g) g
theorem lks_add (n : Nat) : ∀ (ss : List Nat) (g h : Nat → Int) (k : Nat), lks n ss (fun t => g t + h t) k = lks n ss g k + lks n ss h k
  | [], g, h, k => rfl
  | s :: ss, g, h, k => by
    show lks n ss (lk n s fun t => g t + h t) k = lks n ss (lk n s g) k + lks n ss (lk n s h) k
    rw [← lks_add n ss (lk n s g) (lk n s h) k]
    congr 1
    funext t
    unfold lk
    show g t + h t - (g ((t + (n - s)) % n) + h ((t + (n - s)) % n)) = _
    omega
theorem lks_sc (n : Nat) (c : Int) : ∀ (ss : List Nat) (g : Nat → Int) (k : Nat), lks n ss (fun t => c * g t) k = c * lks n ss g k
  | [], g, k => rfl
  | s :: ss, g, k => by
    show lks n ss (lk n s fun t => c * g t) k = c * lks n ss (lk n s g) k
    rw [← lks_sc n c ss (lk n s g) k]
    congr 1
    funext t
    unfold lk
    rw [Int.mul_sub]
theorem lks_zero (n : Nat) : ∀ (ss : List Nat) (k : Nat), lks n ss (fun _ => 0) k = 0
  | [], k => rfl
  | s :: ss, k => by
    show lks n ss (lk n s fun _ => 0) k = 0
    have : (lk n s fun _ => (0 : Int)) = fun _ => 0 := by funext t; unfold lk; rfl
    rw [this]
    exact lks_zero n ss k
theorem lks_lin (n : Nat) (ss : List Nat) (k : Nat) : ∀ (U : List (List Int)) (f : List Int), (∀ r ∈ U, lks n ss (co r) k = 0) → lks n ss (co (lin f U)) k = 0
  | [], f, h => by
    have : co (lin f []) = fun _ => 0 := by funext t; unfold lin; exact co_nil t
    rw [this]
    exact lks_zero n ss k
  | r :: rs, f, h => by
    have e : co (lin f (r :: rs)) = fun t => co f 0 * co r t + co (lin f.tail rs) t := by funext t; exact co_lin_cons f r rs t
    rw [e, lks_add n ss (fun t => co f 0 * co r t) (co (lin f.tail rs)) k, lks_sc, h r List.mem_cons_self, lks_lin n ss k rs f.tail fun q hq => h q (List.mem_cons_of_mem _ hq), Int.mul_zero, Int.add_zero]
/-- only the places below n are looked at -/
theorem lks_congr (n : Nat) (hn : 0 < n) : ∀ (ss : List Nat) (g h : Nat → Int), (∀ t, t < n → g t = h t) → ∀ k, k < n → lks n ss g k = lks n ss h k
  | [], g, h, e, k, hk => e k hk
  | s :: ss, g, h, e, k, hk => by
    refine lks_congr n hn ss (lk n s g) (lk n s h) (fun t ht => ?_) k hk
    unfold lk
    rw [e t ht, e _ (Nat.mod_lt _ hn)]
/-- the same by lists, to be reckoned -/
def lkL (n s : Nat) (a : List Int) : List Int := List.zipWith (· - ·) a (a.drop s ++ a.take s)
theorem lkL_len {n s : Nat} {a : List Int} (h : a.length = n) : (lkL n s a).length = n := by
  unfold lkL
  rw [List.length_zipWith, List.length_append, List.length_drop, List.length_take]
  omega
theorem co_lkL {n s k : Nat} {a : List Int} (h : a.length = n) (hs : s ≤ n) (hk : k < n) : co (lkL n s a) k = co a k - co a ((k + s) % n) := by
  have hl : (a.drop s ++ a.take s).length = n := by
    rw [List.length_append, List.length_drop, List.length_take]
    omega
  have g1 : (lkL n s a)[k]? = some (a[k]'(by omega) - (a.drop s ++ a.take s)[k]'(by omega)) := by
    unfold lkL
    rw [List.getElem?_zipWith, List.getElem?_eq_getElem (by omega), List.getElem?_eq_getElem (by omega)]
  have g2 := co_get (a := lkL n s a) (i := k) (by rw [lkL_len h]; exact hk)
  rw [g1] at g2
  have e1 : co a k = a[k]'(by omega) := by
    have := co_get (a := a) (i := k) (by omega)
    rw [List.getElem?_eq_getElem (by omega)] at this
    exact (Option.some.inj this).symm
  have e2 : co a ((k + s) % n) = (a.drop s ++ a.take s)[k]'(by omega) := by
    have hm : (k + s) % n < a.length := by rw [h]; exact Nat.mod_lt _ (by omega)
    have := co_get (a := a) hm
    rw [List.getElem?_eq_getElem hm] at this
    rw [← Option.some.inj this]
    by_cases hc : k < n - s
    · have q : (k + s) % n = k + s := Nat.mod_eq_of_lt (by omega)
      rw [List.getElem_append_left (by rw [List.length_drop]; omega), List.getElem_drop]
      congr 1
      omega
    · have q : (k + s) % n = k + s - n := by
        rw [Nat.mod_eq_sub_mod (by omega), Nat.mod_eq_of_lt (by omega)]
      rw [List.getElem_append_right (by rw [List.length_drop]; omega), List.getElem_take]
      congr 1
      rw [List.length_drop]
      omega
  rw [e1, e2]
  exact (Option.some.inj g2).symm
def lksL (n : Nat) (ss : List Nat) (a : List Int) : List Int := ss.foldl (fun a s => lkL n (n - s) a) a
theorem co_lksL {n : Nat} : ∀ (ss : List Nat) (a : List Int), a.length = n → ∀ k, k < n → co (lksL n ss a) k = lks n ss (co a) k
  | [], a, h, k, hk => rfl
  | s :: ss, a, h, k, hk => by
    show co (lksL n ss (lkL n (n - s) a)) k = lks n ss (lk n s (co a)) k
    rw [co_lksL ss _ (lkL_len h) k hk]
    exact lks_congr n (by omega) ss _ _ (fun t ht => co_lkL h (Nat.sub_le _ _) ht) k hk
end Num

set_option maxHeartbeats 1000000
namespace Num
def sumF : Nat → (Nat → Int) → Int
  | 0, _ => 0
  | n + 1, f => f 0 + sumF n fun t => f (t + 1)
theorem sumF_congr : ∀ (n : Nat) (f g : Nat → Int), (∀ t, t < n → f t = g t) → sumF n f = sumF n g
  | 0, f, g, h => rfl
  | n + 1, f, g, h => by rw [sumF, sumF, h 0 (Nat.succ_pos _), sumF_congr n _ _ fun t ht => h (t + 1) (Nat.succ_lt_succ ht)]
theorem sumF_zero : ∀ (n : Nat) (f : Nat → Int), (∀ t, t < n → f t = 0) → sumF n f = 0
  | 0, f, h => rfl
  | n + 1, f, h => by rw [sumF, h 0 (Nat.succ_pos _), sumF_zero n _ fun t ht => h (t + 1) (Nat.succ_lt_succ ht), Int.add_zero]
theorem sumF_one : ∀ (n j : Nat) (f : Nat → Int), j < n → (∀ t, t < n → t ≠ j → f t = 0) → sumF n f = f j
  | 0, j, f, hj, h => absurd hj (Nat.not_lt_zero _)
  | n + 1, 0, f, hj, h => by rw [sumF, sumF_zero n _ fun t ht => h (t + 1) (Nat.succ_lt_succ ht) (Nat.succ_ne_zero _), Int.add_zero]
  | n + 1, j + 1, f, hj, h => by
    rw [sumF, h 0 (Nat.succ_pos _) (Nat.succ_ne_zero _).symm, Int.zero_add]
    exact sumF_one n j (fun t => f (t + 1)) (Nat.lt_of_succ_lt_succ hj) fun t ht hne => h (t + 1) (Nat.succ_lt_succ ht) fun z => hne (Nat.succ.inj z)
theorem sumF_sub : ∀ (n : Nat) (f g : Nat → Int), sumF n (fun t => f t - g t) = sumF n f - sumF n g
  | 0, f, g => rfl
  | n + 1, f, g => by
    rw [sumF, sumF, sumF, sumF_sub n (fun t => f (t + 1)) fun t => g (t + 1)]
    omega
theorem lin_sum (j : Nat) : ∀ (R : List (List Int)) (a : List Int), co (lin a R) j = sumF R.length fun t => co a t * co (ro R t) j
  | [], a => by rw [lin, co_nil]; rfl
  | r :: rs, a => by
    rw [co_lin_cons, lin_sum j rs a.tail, List.length_cons, sumF, ro_zero]
    congr 1
    refine sumF_congr _ _ _ fun t ht => ?_
    rw [co_tail, ro_succ]
def unit (n k : Nat) : List Int := (List.range n).map fun t => if t = k then 1 else 0
theorem co_unit {n k t : Nat} (h : t < n) : co (unit n k) t = if t = k then 1 else 0 := by
  unfold unit co
  rw [List.getD_eq_getElem?_getD, List.getElem?_map, List.getElem?_range h]
  rfl
/-! ### dividing -/
def stN (step : Nat) : List Int → Nat → List Int → List Int
  | [], _, acc => acc
  | x :: xs, k, acc => stN step xs (k + 1) (acc.set (k * step) x)
def stM (ps : List Int) (step : Nat) : List Int := stN step ps 0 (List.replicate ((ps.length - 1) * step + 1) 0)
theorem stN_len (step : Nat) : ∀ (ps : List Int) (k : Nat) (acc : List Int), (stN step ps k acc).length = acc.length
  | [], k, acc => rfl
  | x :: xs, k, acc => by rw [stN, stN_len step xs, List.length_set]
theorem stM_len (ps : List Int) (step : Nat) : (stM ps step).length = (ps.length - 1) * step + 1 := by unfold stM; rw [stN_len, List.length_replicate]
def qIn : List Int → Nat → Int → List Int → List Int
  | [], _, _, rest => rest
  | d :: ds, b, c, rest => qIn ds (b + 1) c (rest.set b (co rest b - c * d))
theorem qIn_len : ∀ (ds : List Int) (b : Nat) (c : Int) (rest : List Int), (qIn ds b c rest).length = rest.length
  | [], b, c, rest => rfl
  | d :: ds, b, c, rest => by rw [qIn, qIn_len ds, List.length_set]
def qOut (ds : List Int) (top : Nat) : Nat → List Int → List Int → List Int
  | 0, found, _ => found
  | k + 1, found, rest => qOut ds top k (found.set k (co rest (k + top))) (qIn ds k (co rest (k + top)) rest)
def quotM (ps ds : List Int) : List Int := qOut ds (ds.length - 1) (ps.length - (ds.length - 1)) (List.replicate (ps.length - (ds.length - 1)) 0) ps
theorem co_set {a : List Int} {i k : Nat} {v : Int} : co (a.set i v) k = if i = k ∧ i < a.length then v else co a k := by
  unfold co
  rw [List.getD_eq_getElem?_getD, List.getElem?_set, List.getD_eq_getElem?_getD]
  by_cases h : i = k
  · subst h
    by_cases hl : i < a.length
    · rw [if_pos rfl, if_pos hl, if_pos ⟨rfl, hl⟩]; rfl
    · rw [if_pos rfl, if_neg hl, if_neg fun z => hl z.2, List.getElem?_eq_none (by omega)]
  · rw [if_neg h, if_neg fun z => h z.1]
theorem qIn_co (c : Int) : ∀ (ds : List Int) (b : Nat) (rest : List Int) (i : Nat), b + ds.length ≤ rest.length → co (qIn ds b c rest) i = if b ≤ i ∧ i < b + ds.length then co rest i - c * co ds (i - b) else co rest i
  | [], b, rest, i, h => by rw [qIn, if_neg (by rw [List.length_nil]; omega)]
  | d :: ds, b, rest, i, h => by
    rw [List.length_cons] at h ⊢
    rw [qIn, qIn_co c ds (b + 1) _ i (by rw [List.length_set]; omega), co_set]
    by_cases h1 : i = b
    · subst h1
      rw [if_neg (by omega), if_pos ⟨rfl, by omega⟩, if_pos ⟨Nat.le_refl _, by omega⟩, Nat.sub_self, co_zero]
    · rw [if_neg (show ¬ (b = i ∧ b < rest.length) from fun z => h1 z.1.symm)]
      by_cases h2 : b + 1 ≤ i ∧ i < b + 1 + ds.length
      · rw [if_pos h2, if_pos ⟨by omega, by omega⟩, show i - b = (i - (b + 1)) + 1 by omega, co_succ]
      · rw [if_neg h2, if_neg (by omega)]
theorem lin_drop (d : Int) (ds : List Int) (R : List (List Int)) (b j : Nat) : co (lin (d :: ds) (R.drop b)) j = d * co (ro R b) j + co (lin ds (R.drop (b + 1))) j := by
  by_cases h : b < R.length
  · rw [List.drop_eq_getElem_cons h, co_lin_cons, co_zero, List.tail_cons]
    congr 2
    unfold ro
    rw [List.getD_eq_getElem?_getD, List.getElem?_eq_getElem h]
    rfl
  · rw [List.drop_eq_nil_of_le (by omega), List.drop_eq_nil_of_le (by omega)]
    unfold ro
    rw [List.getD_eq_getElem?_getD, List.getElem?_eq_none (by omega)]
    show co (lin (d :: ds) []) j = d * co [] j + co (lin ds []) j
    rw [lin, lin, co_nil, Int.mul_zero, Int.add_zero]
theorem lin_qIn (c : Int) (R : List (List Int)) (j : Nat) : ∀ (ds : List Int) (b : Nat) (rest : List Int), b + ds.length ≤ rest.length → co (lin (qIn ds b c rest) R) j = co (lin rest R) j - c * co (lin ds (R.drop b)) j
  | [], b, rest, h => by rw [qIn, lin_nil, Int.mul_zero, Int.sub_zero]
  | d :: ds, b, rest, h => by
    rw [List.length_cons] at h
    rw [qIn, lin_qIn c R j ds (b + 1) _ (by rw [List.length_set]; omega), lin_set j _ rest b R (by omega), lin_drop, Int.mul_add]
    have e : (co rest b - c * d - co rest b) * co (ro R b) j = - (c * (d * co (ro R b) j)) := by
      rw [show co rest b - c * d - co rest b = -(c * d) by omega, Int.neg_mul, Int.mul_assoc]
    rw [e]
    omega
/-! ### the least sums, the rows of the powers -/
def lsStep (s : List Int × Int) (p : Int) : List Int × Int := (quotM (stM s.1 p.toNat) s.1, s.2 * p)
def leastM (n : Nat) (ps : List Int) : List Int := stM (ps.foldl lsStep ([-1, 1], 1)).1 ((n : Int) / (ps.foldl lsStep ([-1, 1], 1)).2).toNat
def small (a : List Int) : Bool := a.all fun x => decide (x.natAbs ≤ 100)
def lsOk (s : List Int × Int) : Bool := small s.1 && decide (2 ≤ s.1.length) && decide (s.1.length ≤ 61) && decide (1 ≤ s.2) && decide (s.2 ≤ 60)
def lsAll (s : List Int × Int) : List Int → Bool
  | [] => lsOk s
  | p :: ps => lsOk s && decide (2 ≤ p) && decide (p ≤ 60) && lsAll (lsStep s p) ps
def nextR (least : List Int) (top : Nat) (r : List Int) : List Int := vadd (0 :: r.take (top - 1)) (vsc (- co r (top - 1)) (least.take top))
def rows (least : List Int) (top : Nat) : Nat → List Int → List (List Int)
  | 0, _ => []
  | m + 1, r => r :: rows least top m (nextR least top r)
def RT (n : Nat) (ps : List Int) : List (List Int) := rows (leastM n ps) ((leastM n ps).length - 1) n (unit ((leastM n ps).length - 1) 0)
def allZ (a : List Int) : Bool := a.all fun x => x == 0
def steps (n : Nat) (ps : List Int) : List Nat := ps.map fun p => n / p.toNat
def uRow (n : Nat) (R : List (List Int)) (k : Nat) : List Int := vadd (List.replicate n 0) (vadd (ro R k) (vsc (-1) (unit n k)))
def sumRows (n : Nat) (R : List (List Int)) (at_ s : Nat) : Nat → List Int
  | 0 => []
  | m + 1 => vadd (sumRows n R at_ s m) (ro R ((at_ + m * s) % n))
theorem co_allZ {a : List Int} (h : allZ a = true) (i : Nat) : co a i = 0 := by
  by_cases hi : i < a.length
  · have := co_get hi
    have hm := List.all_eq_true.mp h _ (List.mem_of_getElem? this)
    simpa using hm
  · exact co_ge (by omega)
theorem co_small {a : List Int} (h : small a = true) (i : Nat) : (co a i).natAbs ≤ 100 := by
  by_cases hi : i < a.length
  · have := co_get hi
    have hm := List.all_eq_true.mp h _ (List.mem_of_getElem? this)
    simpa using hm
  · rw [co_ge (by omega)]; decide
/-- what is known of n -/
structure Good (n : Nat) (ps least : List Int) (top : Nat) (R : List (List Int)) : Prop where
  n1 : 1 ≤ n
  ls : lsAll ([-1, 1], 1) ps = true
  l2 : least.length = top + 1
  t1 : 1 ≤ top
  tn : top ≤ n
  sm : small least = true
  mon : co least top = 1
  len : R.length = n
  rsm : ∀ i j, (co (ro R i) j).natAbs ≤ 100
  rlen : ∀ i, i < n → (ro R i).length = top
  un : ∀ k, k < top → ro R k = unit top k
  tails : ∀ m, m < n - top → ∀ j, co (lin least (R.drop m)) j = 0
  look : ∀ k, k < n → ∀ t, t < n → lks n (steps n ps) (fun t => co (ro R k) t - if t = k then 1 else 0) t = 0
  row : ∀ p ∈ ps, ∀ a, a < n → ∀ j, co (sumRows n R a (n / p.toNat) p.toNat) j = 0
  nz : ∀ k, k < n → ∃ j, j < top ∧ co (ro R k) j ≠ 0
  div : ∀ p ∈ ps, p.toNat * (n / p.toNat) = n
theorem ro_ge {R : List (List Int)} {i : Nat} (h : R.length ≤ i) : ro R i = [] := by
  unfold ro
  rw [List.getD_eq_getElem?_getD, List.getElem?_eq_none h]
  rfl
/-! ### reckoned step by step -/
def fInt {β : Type} (x : Int) (k : Int → β) : β := match x with
  | .ofNat m => (match m with
    | 0 => k (.ofNat 0)
    | m + 1 => k (.ofNat (m + 1)))
  | .negSucc m => (match m with
    | 0 => k (.negSucc 0)
    | m + 1 => k (.negSucc (m + 1)))
theorem fInt_eq {β : Type} (x : Int) (k : Int → β) : fInt x k = k x := by
  cases x with
  | ofNat m => cases m <;> rfl
  | negSucc m => cases m <;> rfl
def fL {β : Type} : List Int → (List Int → β) → β
  | [], k => k []
  | x :: xs, k => fInt x fun y => fL xs fun ys => k (y :: ys)
theorem fL_eq {β : Type} : ∀ (a : List Int) (k : List Int → β), fL a k = k a
  | [], k => rfl
  | x :: xs, k => by rw [fL, fInt_eq, fL_eq xs]
def nx (least : List Int) (top : Nat) : Nat → List Int → List Int
  | 0, r => r
  | m + 1, r => nx least top m (nextR least top r)
def nxB (least : List Int) (top : Nat) : Nat → List Int → (List Int → Bool) → Bool
  | 0, r, k => k r
  | m + 1, r, k => fL (nextR least top r) fun r' => nxB least top m r' k
theorem nxB_eq (least : List Int) (top : Nat) : ∀ (m : Nat) (r : List Int) (k : List Int → Bool), nxB least top m r k = k (nx least top m r)
  | 0, r, k => rfl
  | m + 1, r, k => by rw [nxB, fL_eq, nxB_eq least top m, nx]
def rowsB (least : List Int) (top : Nat) : Nat → Nat → List Int → Bool
  | 0, _, r => decide (r = unit top 0)
  | m + 1, k, r => small r && decide (r.length = top) && (decide (top ≤ k) || decide (r = unit top k)) && fL (nextR least top r) (rowsB least top m (k + 1))
def sumB (least : List Int) (top s : Nat) : Nat → List Int → List Int → Bool
  | 0, _, acc => allZ acc
  | j + 1, r, acc => fL (vadd acc r) fun acc' => nxB least top s r fun r' => sumB least top s j r' acc'
def chkC (n : Nat) (ps : List Int) (least : List Int) (top : Nat) : Bool :=
  decide (2 ≤ least.length) && decide (top + 1 ≤ n ∨ (n = 1 ∧ top = 1)) && small least && decide (co least top = 1) && rowsB least top n 0 (unit top 0) && allZ (lin least (rows least top (top + 1) (unit top 0))) &&
    (decide (n = 1) || allZ (lksL n (steps n ps) (least ++ List.replicate (n - (top + 1)) 0))) && ps.all (fun p => decide (p.toNat * (n / p.toNat) = n) && sumB least top (n / p.toNat) p.toNat (unit top 0) [])
def chk (n : Nat) (ps : List Int) : Bool := lsAll ([-1, 1], 1) ps && fL (leastM n ps) fun least => chkC n ps least (least.length - 1)
/-! rows -/
theorem rows_len (least : List Int) (top : Nat) : ∀ (m : Nat) (r : List Int), (rows least top m r).length = m
  | 0, r => rfl
  | m + 1, r => by rw [rows, List.length_cons, rows_len least top m]
theorem nx_succ (least : List Int) (top : Nat) : ∀ (m : Nat) (r : List Int), nx least top (m + 1) r = nextR least top (nx least top m r)
  | 0, r => rfl
  | m + 1, r => by rw [nx, nx_succ least top m (nextR least top r), nx]
theorem nx_add (least : List Int) (top a : Nat) : ∀ (b : Nat) (r : List Int), nx least top (a + b) r = nx least top b (nx least top a r)
  | 0, r => rfl
  | b + 1, r => by rw [Nat.add_succ, nx_succ, nx_succ, nx_add least top a b r]
theorem ro_rows (least : List Int) (top : Nat) : ∀ (m : Nat) (r : List Int) (k : Nat), k < m → ro (rows least top m r) k = nx least top k r
  | 0, r, k, h => absurd h (Nat.not_lt_zero _)
  | m + 1, r, 0, h => by rw [rows, ro_zero, nx]
  | m + 1, r, k + 1, h => by rw [rows, ro_succ, ro_rows least top m _ k (Nat.lt_of_succ_lt_succ h), nx]
theorem rowsB_of (least : List Int) (top : Nat) : ∀ (m k : Nat) (r : List Int), rowsB least top m k r = true →
    nx least top m r = unit top 0 ∧ ∀ i, i < m → small (nx least top i r) = true ∧ (nx least top i r).length = top ∧ (k + i < top → nx least top i r = unit top (k + i))
  | 0, k, r, h => ⟨of_decide_eq_true h, fun i hi => absurd hi (Nat.not_lt_zero _)⟩
  | m + 1, k, r, h => by
    rw [rowsB, fL_eq] at h
    simp only [Bool.and_eq_true, decide_eq_true_eq, Bool.or_eq_true] at h
    obtain ⟨⟨⟨h1, h2⟩, h3⟩, h4⟩ := h
    obtain ⟨g1, g2⟩ := rowsB_of least top m (k + 1) _ h4
    refine ⟨by rw [nx]; exact g1, fun i hi => ?_⟩
    cases i with
    | zero =>
      refine ⟨h1, h2, fun z => ?_⟩
      rcases h3 with h3 | h3
      · omega
      · exact h3
    | succ i =>
      obtain ⟨q1, q2, q3⟩ := g2 i (Nat.lt_of_succ_lt_succ hi)
      rw [nx]
      exact ⟨q1, q2, fun z => by rw [q3 (by omega)]; congr 1; omega⟩
theorem co_next (least : List Int) (top : Nat) (r : List Int) (i : Nat) : co (nextR least top r) i = (if i = 0 ∨ top ≤ i then 0 else co r (i - 1)) - co r (top - 1) * co (least.take top) i := by
  have e : co (0 :: r.take (top - 1)) i = if i = 0 ∨ top ≤ i then 0 else co r (i - 1) := by
    cases i with
    | zero => rw [co_zero, if_pos (.inl rfl)]
    | succ i =>
      rw [co_succ, Nat.add_sub_cancel]
      by_cases h : i < top - 1
      · rw [if_neg (by omega)]
        unfold co
        rw [List.getD_eq_getElem?_getD, List.getD_eq_getElem?_getD, List.getElem?_take, if_pos h]
      · rw [if_pos (by omega)]
        exact co_ge (by rw [List.length_take]; omega)
  unfold nextR
  rw [co_vadd, co_vsc, e, Int.neg_mul]
  omega
theorem next_zero (least : List Int) (top : Nat) {r : List Int} (h : ∀ i, co r i = 0) (i : Nat) : co (nextR least top r) i = 0 := by
  rw [co_next, h, h, Int.zero_mul]
  split <;> rfl
theorem next_lin (least : List Int) (top : Nat) (i : Nat) : ∀ (Q : List (List Int)) (a : List Int), co (nextR least top (lin a Q)) i = co (lin a (Q.map (nextR least top))) i
  | [], a => by
    rw [List.map_nil]
    refine (next_zero least top (fun t => ?_) i).trans ?_
    · rw [lin]; exact co_nil t
    · rw [lin]; exact (co_nil i).symm
  | q :: qs, a => by
    rw [List.map_cons, co_lin_cons, ← next_lin least top i qs a.tail, co_next, co_next, co_next, co_lin_cons, co_lin_cons]
    by_cases h : i = 0 ∨ top ≤ i
    · rw [if_pos h, if_pos h, if_pos h, Int.add_mul, Int.mul_sub, Int.mul_assoc]
      omega
    · rw [if_neg h, if_neg h, if_neg h, Int.add_mul, Int.mul_sub, Int.mul_assoc]
      omega
theorem rows_map (least : List Int) (top : Nat) : ∀ (m : Nat) (r : List Int), (rows least top m r).map (nextR least top) = rows least top m (nextR least top r)
  | 0, r => rfl
  | m + 1, r => by rw [rows, List.map_cons, rows_map least top m, rows]
theorem lin_more (least : List Int) (top j : Nat) : ∀ (a : List Int) (m : Nat) (r : List Int), a.length ≤ m → co (lin a (rows least top m r)) j = co (lin a (rows least top a.length r)) j
  | [], m, r, h => by rw [lin_nil, lin_nil]
  | x :: a, 0, r, h => absurd h (Nat.not_succ_le_zero _)
  | x :: a, m + 1, r, h => by
    rw [List.length_cons, rows, rows, co_lin_cons, co_lin_cons, List.tail_cons, lin_more least top j a m _ (Nat.le_of_succ_le_succ h)]
theorem drop_rows (least : List Int) (top : Nat) : ∀ (b m : Nat) (r : List Int), (rows least top m r).drop b = rows least top (m - b) (nx least top b r)
  | 0, m, r => by rw [List.drop_zero, Nat.sub_zero, nx]
  | b + 1, 0, r => by rw [Nat.zero_sub, rows, rows, List.drop_nil]
  | b + 1, m + 1, r => by rw [rows, List.drop_succ_cons, drop_rows least top b m, nx, Nat.add_sub_add_right]
theorem tails_of (least : List Int) (top : Nat) {r : List Int} (h : ∀ j, co (lin least (rows least top least.length r)) j = 0) : ∀ (m j : Nat), co (lin least (rows least top least.length (nx least top m r))) j = 0
  | 0, j => h j
  | m + 1, j => by
    rw [nx_succ, ← rows_map, ← next_lin]
    exact next_zero least top (fun i => tails_of least top h m i) j
theorem sumB_of (least : List Int) (top s : Nat) : ∀ (j : Nat) (r acc : List Int), sumB least top s j r acc = true → ∀ i, co acc i + sumF j (fun t => co (nx least top (t * s) r) i) = 0
  | 0, r, acc, h, i => by rw [sumF, Int.add_zero]; exact co_allZ h i
  | j + 1, r, acc, h, i => by
    rw [sumB, fL_eq, nxB_eq] at h
    have := sumB_of least top s j _ _ h i
    rw [co_vadd] at this
    rw [sumF, Nat.zero_mul, nx]
    have e : (sumF j fun t => co (nx least top ((t + 1) * s) r) i) = sumF j fun t => co (nx least top (t * s) (nx least top s r)) i := by
      refine sumF_congr _ _ _ fun t _ => ?_
      rw [← nx_add, Nat.succ_mul, Nat.add_comm]
    rw [e]
    omega
theorem co_sumRows (n : Nat) (R : List (List Int)) (a s i : Nat) : ∀ m : Nat, co (sumRows n R a s m) i = sumF m fun t => co (ro R ((a + t * s) % n)) i
  | 0 => by rw [sumRows, co_nil]; rfl
  | m + 1 => by
    have fb : ∀ (m : Nat) (f : Nat → Int), sumF (m + 1) f = sumF m f + f m := by
      intro m
      induction m with
      | zero => intro f; rw [sumF, sumF, sumF]; omega
      | succ m ih =>
        intro f
        rw [sumF, ih, sumF]
        omega
    rw [sumRows, co_vadd, co_sumRows n R a s i m, fb]
theorem lk_rot (n s : Nat) (hn : 0 < n) (g : Nat → Int) (t : Nat) : lk n s (fun t => g ((t + (n - 1)) % n)) t = lk n s g ((t + (n - 1)) % n) := by
  unfold lk
  have e : ((t + (n - s)) % n + (n - 1)) % n = ((t + (n - 1)) % n + (n - s)) % n := by
    rw [Nat.mod_add_mod, Nat.mod_add_mod]
    congr 1
    omega
  show g ((t + (n - 1)) % n) - g (((t + (n - s)) % n + (n - 1)) % n) = _
  rw [e]
theorem lks_rot (n : Nat) (hn : 0 < n) : ∀ (ss : List Nat) (g : Nat → Int) (t : Nat), lks n ss (fun t => g ((t + (n - 1)) % n)) t = lks n ss g ((t + (n - 1)) % n)
  | [], g, t => rfl
  | s :: ss, g, t => by
    show lks n ss (lk n s fun t => g ((t + (n - 1)) % n)) t = lks n ss (lk n s g) ((t + (n - 1)) % n)
    rw [← lks_rot n hn ss (lk n s g) t]
    congr 1
    funext u
    exact lk_rot n s hn g u
theorem good_of {n : Nat} {ps : List Int} (n1 : 1 ≤ n) (h : chk n ps = true) : Good n ps (leastM n ps) ((leastM n ps).length - 1) (RT n ps) := by
  unfold chk at h
  rw [Bool.and_eq_true, fL_eq] at h
  obtain ⟨a1, h⟩ := h
  unfold RT
  generalize leastM n ps = least at h ⊢
  generalize ht : least.length - 1 = top at h ⊢
  unfold chkC at h
  simp only [Bool.and_eq_true, Bool.or_eq_true, decide_eq_true_eq, List.all_eq_true] at h
  obtain ⟨⟨⟨⟨⟨⟨⟨h1, h2⟩, h3⟩, h4⟩, h5⟩, h6⟩, h7⟩, h8⟩ := h
  have ll : least.length = top + 1 := by omega
  obtain ⟨per, rr⟩ := rowsB_of least top n 0 _ h5
  have hro : ∀ k, k < n → ro (rows least top n (unit top 0)) k = nx least top k (unit top 0) := fun k hk => ro_rows least top n _ k hk
  have tl : ∀ m j, co (lin least (rows least top least.length (nx least top m (unit top 0)))) j = 0 := fun m j => tails_of least top (fun j => by rw [ll]; exact co_allZ h6 j) m j
  have t1 : 1 ≤ top := by omega
  have tn : top ≤ n := by omega
  have u0 : ∀ i, co (unit top 0) i = if i = 0 then 1 else 0 := fun i => by
    by_cases hi : i < top
    · exact co_unit hi
    · rw [co_ge (by unfold unit; rw [List.length_map, List.length_range]; omega), if_neg (by omega)]
  -- the row behind the last one is the first one
  have nxt : ∀ k, nx least top ((k + 1) % n) (unit top 0) = nextR least top (nx least top (k % n) (unit top 0)) := fun k => by
    rw [← nx_succ]
    have hk := Nat.mod_lt k (show n > 0 by omega)
    by_cases hc : k % n + 1 < n
    · rw [← Nat.mod_add_mod, Nat.mod_eq_of_lt hc]
    · have e : k % n + 1 = n := by omega
      rw [← Nat.mod_add_mod, e, Nat.mod_self, per, nx]
  refine ⟨n1, a1, ll, t1, tn, h3, h4, rows_len .., fun i j => ?_, fun i hi => by rw [hro i hi]; exact (rr i hi).2.1, fun k hk => ?_, fun m hm j => ?_, ?_, fun p hp a ha j => ?_, fun k hk => ?_, fun p hp => (h8 p hp).1⟩
  · by_cases hi : i < n
    · rw [hro i hi]
      exact co_small (rr i hi).1 j
    · rw [ro_ge (by rw [rows_len]; omega), co_nil]; decide
  · rw [hro k (by omega)]
    have := (rr k (by omega)).2.2 (by omega)
    rw [this, Nat.zero_add]
  · rw [drop_rows, lin_more least top j least _ _ (by omega)]
    exact tl m j
  · -- the look
    have base : ∀ t, t < n → top + 1 ≤ n → lks n (steps n ps) (co least) t = 0 := fun t ht h2 => by
      have h7 := h7.resolve_left (by omega)
      have e := co_lksL (n := n) (steps n ps) (least ++ List.replicate (n - (top + 1)) 0) (by rw [List.length_append, List.length_replicate]; omega) t ht
      rw [co_allZ h7 t] at e
      refine Eq.trans (lks_congr n (by omega) _ _ _ (fun s hs => ?_) t ht) e.symm
      unfold co
      rw [List.getD_eq_getElem?_getD, List.getD_eq_getElem?_getD, List.getElem?_append]
      by_cases hs' : s < least.length
      · rw [if_pos hs']
      · rw [if_neg hs', List.getElem?_eq_none (by omega), List.getElem?_replicate]
        split <;> rfl
    intro k
    induction k with
    | zero =>
      intro hk t ht
      refine Eq.trans (lks_congr n (by omega) _ _ (fun _ => 0) (fun s hs => ?_) t ht) (lks_zero n _ t)
      rw [hro 0 hk, nx, u0]
      split <;> rfl
    | succ k ih =>
      intro hk t ht
      have h2' : top + 1 ≤ n := by omega
      have ihk := ih (by omega)
      have hl : (nx least top k (unit top 0)).length = top := (rr k (by omega)).2.1
      have e : ∀ s, s < n → co (ro (rows least top n (unit top 0)) (k + 1)) s - (if s = k + 1 then 1 else 0) =
          (fun s => (fun t => co (ro (rows least top n (unit top 0)) k) t - if t = k then 1 else 0) ((s + (n - 1)) % n)) s + (- co (nx least top k (unit top 0)) (top - 1)) * co least s := fun s hs => by
        rw [hro (k + 1) hk, hro k (by omega), nx_succ, co_next]
        have ct : co (least.take top) s = if s < top then co least s else 0 := by
          by_cases h : s < top
          · rw [if_pos h]
            unfold co
            rw [List.getD_eq_getElem?_getD, List.getD_eq_getElem?_getD, List.getElem?_take, if_pos h]
          · rw [if_neg h]
            exact co_ge (by rw [List.length_take]; omega)
        rw [ct]
        show _ = co (nx least top k (unit top 0)) ((s + (n - 1)) % n) - (if (s + (n - 1)) % n = k then 1 else 0) + (- co (nx least top k (unit top 0)) (top - 1)) * co least s
        cases s with
        | zero =>
          have e0 : (0 + (n - 1)) % n = n - 1 := by rw [Nat.zero_add]; exact Nat.mod_eq_of_lt (by omega)
          have c1 : ¬ (0 = k + 1) := by omega
          have c2 : ¬ (n - 1 = k) := by omega
          have c3 : 0 < top := t1
          rw [e0, if_pos (.inl rfl), if_pos c3, if_neg c1, if_neg c2, co_ge (a := nx least top k (unit top 0)) (i := n - 1) (by omega), Int.neg_mul]
          omega
        | succ s =>
          have e1 : (s + 1 + (n - 1)) % n = s := by
            rw [show s + 1 + (n - 1) = s + n by omega, Nat.add_mod_right, Nat.mod_eq_of_lt (by omega)]
          rw [e1, Nat.add_sub_cancel]
          have ei : (if s + 1 = k + 1 then (1 : Int) else 0) = if s = k then 1 else 0 := by
            by_cases z : s = k
            · rw [if_pos z, if_pos (by omega)]
            · rw [if_neg z, if_neg (by omega)]
          rw [ei, Int.neg_mul]
          by_cases c1 : s + 1 < top
          · rw [if_neg (by omega), if_pos c1]
            omega
          · rw [if_pos (.inr (by omega)), if_neg c1, Int.mul_zero]
            by_cases c2 : s + 1 = top
            · have : co least (s + 1) = 1 := by rw [c2]; exact h4
              rw [this, show top - 1 = s by omega, Int.mul_one]
              omega
            · rw [co_ge (a := least) (by omega), co_ge (a := nx least top k (unit top 0)) (i := s) (by omega), Int.mul_zero]
              omega
      rw [lks_congr n (by omega) _ _ _ e t ht, lks_add n _ (fun s => (fun t => co (ro (rows least top n (unit top 0)) k) t - if t = k then 1 else 0) ((s + (n - 1)) % n)) (fun s => (- co (nx least top k (unit top 0)) (top - 1)) * co least s) t, lks_rot n (by omega) _ (fun t => co (ro (rows least top n (unit top 0)) k) t - if t = k then 1 else 0) t, lks_sc, base t ht h2',
        ihk _ (Nat.mod_lt _ (by omega)), Int.mul_zero, Int.add_zero]
  · -- a root's whole row
    rw [co_sumRows]
    have hb := sumB_of least top (n / p.toNat) p.toNat _ _ (h8 p hp).2
    have hd := (h8 p hp).1
    have gen : ∀ a, a < n → ∀ i, (sumF p.toNat fun t => co (nx least top ((a + t * (n / p.toNat)) % n) (unit top 0)) i) = 0 := by
      intro a
      induction a with
      | zero =>
        intro _ i
        have := hb i
        rw [co_nil, Int.zero_add] at this
        rw [← this]
        refine sumF_congr _ _ _ fun t ht => ?_
        have : t * (n / p.toNat) < n := by
          have : t * (n / p.toNat) + (n / p.toNat) ≤ p.toNat * (n / p.toNat) := by
            rw [← Nat.succ_mul]
            exact Nat.mul_le_mul_right _ ht
          have hpos : 0 < n / p.toNat := by
            rcases Nat.eq_zero_or_pos (n / p.toNat) with z | z
            · rw [z, Nat.mul_zero] at hd; omega
            · exact z
          omega
        rw [Nat.zero_add, Nat.mod_eq_of_lt this]
      | succ a ih =>
        intro ha i
        have iha := ih (by omega)
        have e : (sumF p.toNat fun t => co (nx least top ((a + 1 + t * (n / p.toNat)) % n) (unit top 0)) i) = sumF p.toNat fun t => co (nextR least top (nx least top ((a + t * (n / p.toNat)) % n) (unit top 0))) i := by
          refine sumF_congr _ _ _ fun t _ => ?_
          rw [show a + 1 + t * (n / p.toNat) = a + t * (n / p.toNat) + 1 by omega, nxt]
        have lin3 : ∀ (m : Nat) (f g : Nat → Int) (c : Int), sumF m (fun t => f t - g t * c) = sumF m f - sumF m g * c := by
          intro m
          induction m with
          | zero => intro f g c; simp [sumF]
          | succ m ih => intro f g c; rw [sumF, sumF, sumF, ih (fun t => f (t + 1)) (fun t => g (t + 1)) c, Int.add_mul]; omega
        rw [e]
        simp only [co_next]
        rw [lin3 _ (fun t => if i = 0 ∨ top ≤ i then 0 else co (nx least top ((a + t * (n / p.toNat)) % n) (unit top 0)) (i - 1)) (fun t => co (nx least top ((a + t * (n / p.toNat)) % n) (unit top 0)) (top - 1)), iha (top - 1), Int.zero_mul, Int.sub_zero]
        by_cases hc : i = 0 ∨ top ≤ i
        · simp only [if_pos hc]
          exact sumF_zero _ _ fun _ _ => rfl
        · simp only [if_neg hc]
          exact iha (i - 1)
    rw [← gen a ha j]
    refine sumF_congr _ _ _ fun t ht => ?_
    rw [hro _ (Nat.mod_lt _ (by omega))]
  · -- no row is nought
    apply Classical.byContradiction
    intro hz
    have z0 : ∀ j, co (nx least top k (unit top 0)) j = 0 := fun j => by
      by_cases hj : j < top
      · apply Classical.byContradiction
        intro hne
        exact hz ⟨j, hj, by rw [hro k hk]; exact hne⟩
      · exact co_ge (by rw [(rr k hk).2.1]; omega)
    have all : ∀ d j, co (nx least top (k + d) (unit top 0)) j = 0 := by
      intro d
      induction d with
      | zero => exact z0
      | succ d ih => intro j; rw [← Nat.add_assoc, nx_succ]; exact next_zero least top ih j
    have := all (n - k) 0
    rw [show k + (n - k) = n by omega, per, u0, if_pos rfl] at this
    cases this
/-! ### what number_of tells -/
def numL (n top : Nat) (R : List (List Int)) (ps : List Int) : List Int := (List.range top).map fun j => sig n R j ps 0
theorem numL_len (n top : Nat) (R : List (List Int)) (ps : List Int) : (numL n top R ps).length = top := by unfold numL; rw [List.length_map, List.length_range]
theorem co_numL {n top : Nat} {R : List (List Int)} {ps : List Int} {j : Nat} (h : j < top) : co (numL n top R ps) j = sig n R j ps 0 := by
  unfold numL co
  rw [List.getD_eq_getElem?_getD, List.getElem?_map, List.getElem?_range h]
  rfl
theorem ext_co {a b : List Int} (h : a.length = b.length) (e : ∀ j, j < a.length → co a j = co b j) : a = b := by
  refine List.ext_getElem? fun i => ?_
  by_cases hi : i < a.length
  · rw [co_get hi, co_get (by omega), e i hi]
  · rw [List.getElem?_eq_none (by omega), List.getElem?_eq_none (by omega)]
section
variable {n : Nat} {ps least : List Int} {top : Nat} {R : List (List Int)} (G : Good n ps least top R)
include G
/-- a step downward -/
theorem red_step {cur : List Int} {k : Nat} (hl : cur.length = n) (hk : k < n) (ht : top ≤ k) : (qIn least (k - top) (co cur k) cur).length = n ∧ (∀ j, co (lin (qIn least (k - top) (co cur k) cur) R) j = co (lin cur R) j) ∧
    co (qIn least (k - top) (co cur k) cur) k = 0 ∧ ∀ t, k < t → co (qIn least (k - top) (co cur k) cur) t = co cur t := by
  have hb : k - top + least.length ≤ cur.length := by rw [G.l2, hl]; omega
  have ll := G.l2
  refine ⟨by rw [qIn_len, hl], fun j => ?_, ?_, fun t h1 => ?_⟩
  · rw [lin_qIn _ _ _ _ _ _ hb, G.tails (k - top) (by omega) j, Int.mul_zero, Int.sub_zero]
  · rw [qIn_co _ _ _ _ _ hb, if_pos ⟨by omega, by omega⟩, show k - (k - top) = top by omega, G.mon, Int.mul_one, Int.sub_self]
  · rw [qIn_co _ _ _ _ _ hb, if_neg (by omega)]
theorem red_end {cur f : List Int} (hl : cur.length = n) (hz : ∀ t, top ≤ t → co cur t = 0) (hP : ∀ j, co (lin cur R) j = co (lin f R) j) (qs : List Int) (hf : f = foldL n qs) : cur.take top = numL n top R qs := by
  have hlen : (cur.take top).length = top := by rw [List.length_take, hl]; have := G.tn; omega
  refine ext_co (by rw [hlen, numL_len]) fun j hj => ?_
  rw [hlen] at hj
  have hn0 : 0 < n := G.n1
  rw [co_numL hj, ← lin_foldL n hn0, ← hf, ← hP j, lin_sum]
  have hjn : j < n := Nat.lt_of_lt_of_le hj G.tn
  rw [sumF_one _ j _ (by rw [G.len]; exact hjn) fun t ht hne => ?_]
  · rw [G.un j hj, co_unit hj, if_pos rfl, Int.mul_one]
    unfold co
    rw [List.getD_eq_getElem?_getD, List.getD_eq_getElem?_getD, List.getElem?_take, if_pos hj]
  · by_cases h : t < top
    · rw [G.un t h, co_unit hj, if_neg (Ne.symm hne), Int.mul_zero]
    · rw [hz t (by omega), Int.zero_mul]
end
theorem foldN_short (n : Nat) : ∀ (xs : List Int) (k : Nat) (acc : List Int), acc.length = n → k + xs.length ≤ n → (∀ t, k ≤ t → co acc t = 0) → ∀ t, co (foldN n xs k acc) t = if t < k then co acc t else co xs (t - k)
  | [], k, acc, hl, hk, hz, t => by
    rw [foldN, co_nil]
    split
    · rfl
    · exact hz t (by omega)
  | x :: xs, k, acc, hl, hk, hz, t => by
    rw [List.length_cons] at hk
    have e : k % n = k := Nat.mod_eq_of_lt (by omega)
    rw [foldN, e, hz k (Nat.le_refl _), Int.zero_add, foldN_short n xs (k + 1) _ (by rw [List.length_set, hl]) (by omega) (fun s hs => by rw [co_set, if_neg (by omega)]; exact hz s (by omega)) t, co_set]
    by_cases h1 : t = k
    · subst h1
      rw [if_pos (Nat.lt_succ_self _), if_pos ⟨rfl, by omega⟩, if_neg (Nat.lt_irrefl _), Nat.sub_self, co_zero]
    · by_cases h2 : t < k
      · rw [if_pos (by omega), if_neg (by omega), if_pos h2]
      · rw [if_neg (by omega), if_neg h2, show t - k = (t - (k + 1)) + 1 by omega, co_succ]
theorem foldL_short {n : Nat} {xs : List Int} (h : xs.length ≤ n) (t : Nat) : co (foldL n xs) t = co xs t := by
  unfold foldL
  rw [foldN_short n xs 0 _ (List.length_replicate ..) (by omega) (fun s _ => ?_) t, if_neg (Nat.not_lt_zero _), Nat.sub_zero]
  unfold co
  rw [List.getD_eq_getElem?_getD, List.getElem?_replicate]
  split <;> rfl
section
variable {n : Nat} {ps least : List Int} {top : Nat} {R : List (List Int)} (G : Good n ps least top R)
include G
/-- the law's look finds nothing -/
theorem look_num (qs : List Int) (k : Nat) (hk : k < n) : lks n (steps n ps) (fun t => co (foldL n (numL n top R qs)) t - co (foldL n qs) t) k = 0 := by
  have hn0 : 0 < n := G.n1
  have e : ∀ t, t < n → co (foldL n (numL n top R qs)) t - co (foldL n qs) t = co (lin (foldL n qs) ((List.range n).map (uRow n R))) t := fun t ht => by
    rw [foldL_short (by rw [numL_len]; exact G.tn), lin_sum, List.length_map, List.length_range]
    have e1 : co (numL n top R qs) t = sumF n fun s => co (foldL n qs) s * co (ro R s) t := by
      have := lin_sum t R (foldL n qs)
      rw [G.len] at this
      rw [← this]
      by_cases h : t < top
      · rw [co_numL h, lin_foldL n hn0]
      · rw [co_ge (by rw [numL_len]; omega), this]
        refine (sumF_zero _ _ fun s hs => ?_).symm
        rw [co_ge (a := ro R s) (by rw [G.rlen s hs]; omega), Int.mul_zero]
    have e2 : co (foldL n qs) t = sumF n fun s => co (foldL n qs) s * (if t = s then 1 else 0) := by
      rw [sumF_one n t _ ht fun s hs hne => by rw [if_neg (Ne.symm hne), Int.mul_zero], if_pos rfl, Int.mul_one]
    rw [e1]
    conv => lhs; rw [e2]
    rw [← sumF_sub]
    refine sumF_congr _ _ _ fun s hs => ?_
    have er : ro ((List.range n).map (uRow n R)) s = uRow n R s := by
      unfold ro
      rw [List.getD_eq_getElem?_getD, List.getElem?_map, List.getElem?_range hs]
      rfl
    have z : co (List.replicate n (0 : Int)) t = 0 := by
      unfold co
      rw [List.getD_eq_getElem?_getD, List.getElem?_replicate]
      split <;> rfl
    rw [er]
    unfold uRow
    rw [co_vadd, co_vadd, co_vsc, z, co_unit ht, ← Int.mul_sub]
    congr 1
    split <;> omega
  rw [lks_congr n hn0 _ _ _ e k hk]
  refine lks_lin n _ k _ _ fun r hr => ?_
  obtain ⟨s, hs, rfl⟩ := List.mem_map.mp hr
  have hs' := List.mem_range.mp hs
  rw [← G.look s hs' k hk]
  refine lks_congr n hn0 _ _ _ (fun t ht => ?_) k hk
  have z : co (List.replicate n (0 : Int)) t = 0 := by
    unfold co
    rw [List.getD_eq_getElem?_getD, List.getElem?_replicate]
    split <;> rfl
  unfold uRow
  rw [co_vadd, co_vadd, co_vsc, z, co_unit ht]
  omega
end
end Num

set_option maxHeartbeats 4000000
namespace C4
open PySem L2 PySem.Spec PyProof.Rows
open Num
abbrev sStr : Stmt := top 3
abbrev sQuo : Stmt := top 4
abbrev sLeast : Stmt := top 5
abbrev sNumOf : Stmt := top 6
structure Bl2 (mg : Str → Option Value) : Prop where
  enumerate : mg "enumerate" = none
  max : mg "max" = none
/-! ### lists of ints -/
theorem get_map {a : List Int} {i : Nat} (h : i < a.length) : atI (a.map V.int) (i : Int) = some (.int (co a i)) := atI_nat (by rw [List.getElem?_map, co_get h]; rfl)
theorem set_map (a : List Int) (i : Nat) (v : Int) : (a.map V.int).set i (V.int v) = (a.set i v).map V.int := by rw [List.map_set]
theorem map_get {a : List Int} {i : Nat} {y : V} (h : (a.map V.int)[i]? = some y) : i < a.length ∧ y = .int (co a i) := by
  rw [List.getElem?_map] at h
  by_cases hi : i < a.length
  · rw [co_get hi] at h
    exact ⟨hi, (Option.some.inj h).symm⟩
  · rw [List.getElem?_eq_none (by omega)] at h
    cases h
theorem ixN_nat {n i : Nat} (h : i < n) : ixN n (i : Int) = some i := by
  unfold ixN
  rw [if_pos (Int.natCast_nonneg _), if_pos (by omega), Int.toNat_natCast]
theorem rep0 (m : Nat) : (List.replicate m [V.int 0]).flatten = (List.replicate m (0 : Int)).map V.int := rep_flat m
/-- o[i], i from 0 on, of a list -/
theorem get_lst {X : Cx} : PGet X (fun x y H Q => ∃ (p : Addr) (xs : List V) (i : Nat) (v : V), x = .ref p ∧ y = .int i ∧ H p = some (.lst xs) ∧ xs[i]? = some v ∧ Q v H) := by
  intro pins s σ H x y ov iv Q I rx ry h
  obtain ⟨p, xs, i, v, rfl, rfl, hp, hv, q⟩ := h
  cases (show ov = Value.ref p from rx)
  obtain ⟨t, rfl⟩ := ry
  obtain ⟨its, r, pl, hz⟩ := I.list (.of hp)
  obtain ⟨w, ew, rw'⟩ := r.get hv
  have hl := r.length
  have hn := line63
  have hi : i < xs.length := (List.getElem?_eq_some_iff.mp hv).1
  exact wpAny_getItem_list pl.isList (Int.natCast_nonneg _) (by omega) (by simpa using ew) ⟨v, H, I, rw', q⟩
def spStr (K : PySem.W.Frag) : Sp := fun vs H Q _ => ∃ (a : Addr) (ps : List Int) (st : Nat), vs = [.ref a, .int st] ∧ SqL K H a (ps.map V.int) ∧ 1 ≤ ps.length ∧ (ps.length - 1) * st ≤ 100000 ∧ ps.length ≤ 1000 ∧ st ≤ 1000 ∧ ∀ l H', Same H H' → H' l = some (.lst ((stM ps st).map V.int)) → Q (.ref l) H'
section
variable {P : Program} {w : World} {K : PySem.W.Frag} {mg : Str → Option Value} {base : Heap}
theorem scStr : FnScope ["powers", "step", "wide", "k", "x"] ["powers", "step"] (defScope sStr) := ⟨rfl, rfl, rfl, by decide +kernel, rfl, by decide +kernel, by decide +kernel⟩
theorem ok_str {f : Addr} {fd : FuncData} (F : Fun K "stretched" "stretched" sStr f fd) (T : Bl mg) (T2 : Bl2 mg) : FnOk P w K mg base CX0 1 f fd ["powers", "step"] (spStr K) := by
  refine F.ok scStr (fun vs H Q E h => ?_) (fun cdv A outer s H vs Q E hr h => ?_)
  · obtain ⟨a, ps, st, rfl, _⟩ := h; rfl
  · obtain ⟨a, ps, st, rfl, hS, hl, hb, hl2, hst, q⟩ := h
    refine ⟨_, pss_cons (sset 2 rfl (pe_op op_rep (pe_lst (pc pe_int pa_nil)) (pe_op op_add (pe_op op_mul (pe_op op_sub (cb (lenK K) T.len (pc (vn 0) pa_nil)) pe_int) (vn 1)) pe_int)))
      (pss_cons (ps_for PassesOwn.never rfl (enumK K T2.enumerate (pc (vn 0) pa_nil)) (g2 K 3 4 rfl (gn 3) (gn 4))
        (pss_one (ps_asg (vn 4) (pg_sub (vn 2) (pe_op op_mul (vn 3) (vn 1)) set_list))))
      (pss_one (ps_ret (vn 2)))), ?_⟩
    refine ⟨(by show 1 ≤ sizeLine; decide), fun l0 n0 => ?_⟩
    have s0 : Same H (upd H l0 (.lst [.int 0])) := Same.upd n0
    refine ⟨_, rfl, a, _, rfl, .inl (s0.seq hS), _, _, rfl, rfl, _, rfl, _, _, rfl, rfl, .inl ⟨?_, ?_⟩, _, _, rfl, rfl, l0, _, _, rfl, rfl, upd_same, ?_, ?_, ?_, fun l nl => ?_⟩
    · rw [List.length_map]; omega
    · rw [List.length_map]; omega
    · rw [List.length_map]; have : (0 : Int) ≤ ((ps.length : Int) - 1) * st := Int.mul_nonneg (by omega) (by omega); omega
    · rw [List.length_map]
      have : ((ps.length : Int) - 1) * st = (((ps.length - 1) * st : Nat) : Int) := by rw [Int.natCast_mul]; congr 1; omega
      omega
    · rw [List.length_map]
      have : ((ps.length : Int) - 1) * st = (((ps.length - 1) * st : Nat) : Int) := by rw [Int.natCast_mul]; congr 1; omega
      rw [this]
      show 1 * _ ≤ sizeLine
      have e : (16777216 : Nat) = sizeLine := by decide
      omega
    have eN : (((ps.map V.int).length : Int) - 1) * st + 1 = (((ps.length - 1) * st + 1 : Nat) : Int) := by
      rw [List.length_map, Int.natCast_add, Int.natCast_mul]
      congr 2
      omega
    rw [eN, Int.toNat_natCast, rep0]
    have nl' : H l = none := s0.free nl
    have s1 := s0.trans (Same.upd (o := .lst ((List.replicate ((ps.length - 1) * st + 1) (0 : Int)).map V.int)) nl)
    refine ⟨_, rfl, a, rfl, .inl ⟨⟨_, s1.seq hS⟩, ?_⟩⟩
    refine for_enum en_lst (fun i σ' H' => ∃ (cur : List Int) (v3 v4 : Option V), σ' = [some (.ref a), some (.int st), some (.ref l), v3, v4] ∧ Same H H' ∧ H' l = some (.lst (cur.map V.int)) ∧ cur.length = (ps.length - 1) * st + 1 ∧ stN st (ps.drop i) i cur = stM ps st)
      ⟨_, _, _, rfl, s1, upd_same, List.length_replicate .., rfl⟩ (fun i σ' H' h => h.choose_spec.choose_spec.choose_spec.2.1.seq hS) ?_ ?_
    · rintro i y σ' H' T' hy ⟨cur, v3, v4, rfl, sm, hl', hlen, hst'⟩ nT
      obtain ⟨hi, rfl⟩ := map_get hy
      refine ⟨T', _, rfl, .of upd_same, rfl, _, _, rfl, _, _, rfl, rfl, _, rfl, _, rfl, _, rfl, _, rfl, _, _, rfl, rfl, .inl ⟨by omega, by omega⟩, l, _, _, i * st, rfl, rfl, Same.upd nT _ _ hl', ?_, ?_⟩
      rotate_left
      · have hlt : i * st < cur.length := by
          rw [hlen]
          have : i * st ≤ (ps.length - 1) * st := Nat.mul_le_mul_right _ (by omega)
          omega
        refine ⟨cur.set (i * st) (co ps i), _, _, rfl, (sm.trans (Same.upd nT)).updr nl', ?_, ?_, ?_⟩
        · rw [upd_same, set_map]
        · rw [List.length_set]; exact hlen
        · rw [← hst']
          have : ps.drop i = co ps i :: ps.drop (i + 1) := by
            rw [List.drop_eq_getElem_cons hi]
            congr 1
            have := co_get hi
            rw [List.getElem?_eq_getElem hi] at this
            exact Option.some.inj this
          rw [this, Num.stN]
      · rw [List.length_map]
        have : ((i : Int) * (st : Int)) = ((i * st : Nat) : Int) := by rw [Int.natCast_mul]
        rw [this]
        refine ixN_nat ?_
        rw [hlen]
        have : i * st ≤ (ps.length - 1) * st := Nat.mul_le_mul_right _ (by omega)
        omega
    · rintro σ' H' ⟨cur, v3, v4, rfl, sm, hl', hlen, hst'⟩
      rw [List.length_map, List.drop_length, Num.stN] at hst'
      rw [hst'] at hl'
      exact ⟨_, rfl, q l H' sm hl'⟩
end
end C4

set_option maxHeartbeats 4000000
namespace C4
open PySem L2 PySem.Spec PyProof.Rows
open Num
def spQuo (K : PySem.W.Frag) : Sp := fun vs H Q _ => ∃ (a b : Addr) (ps ds : List Int), vs = [.ref a, .ref b] ∧ SqL K H a (ps.map V.int) ∧ SqL K H b (ds.map V.int) ∧ 1 ≤ ds.length ∧ ds.length ≤ ps.length ∧ ps.length ≤ 100000 ∧ small ds = true ∧
  ∀ l H', Same H H' → H' l = some (.lst ((quotM ps ds).map V.int)) → Q (.ref l) H'
theorem drop_co {ps : List Int} {i : Nat} (hi : i < ps.length) : ps.drop i = co ps i :: ps.drop (i + 1) := by
  rw [List.drop_eq_getElem_cons hi]
  congr 1
  have := co_get hi
  rw [List.getElem?_eq_getElem hi] at this
  exact Option.some.inj this
theorem get_co {a : List Int} {i : Nat} (h : i < a.length) : (a.map V.int)[i]? = some (.int (co a i)) := by rw [List.getElem?_map, co_get h]; rfl
section
variable {P : Program} {w : World} {K : PySem.W.Frag} {mg : Str → Option Value} {base : Heap}
theorem scQuo : FnScope ["powers", "divisor", "rest", "top", "found", "k", "j", "x"] ["powers", "divisor"] (defScope sQuo) := ⟨rfl, rfl, rfl, by decide +kernel, rfl, by decide +kernel, by decide +kernel⟩
theorem ok_quo {f : Addr} {fd : FuncData} (F : Fun K "quotient" "quotient" sQuo f fd) (T : Bl mg) (T2 : Bl2 mg) : FnOk P w K mg base CX0 1 f fd ["powers", "divisor"] (spQuo K) := by
  refine F.ok scQuo (fun vs H Q E h => ?_) (fun cdv A outer s H vs Q E hr h => ?_)
  · obtain ⟨a, b, ps, ds, rfl, _⟩ := h; rfl
  · obtain ⟨a, b, ps, ds, rfl, hA, hB, hl1, hl2, hl3, hsm, q⟩ := h
    refine ⟨_, pss_cons (sset 2 rfl (ct call_list_of T.list (pc (vn 0) pa_nil)))
      (pss_cons (sset 3 rfl (pe_op op_sub (cb (lenK K) T.len (pc (vn 1) pa_nil)) pe_int))
      (pss_cons (sset 4 rfl (pe_op op_rep (pe_lst (pc pe_int pa_nil)) (pe_op op_sub (cb (lenK K) T.len (pc (vn 2) pa_nil)) (vn 3))))
      (pss_cons (ps_for PassesOwn.never rfl (rngD T.range (pc (pe_op op_sub (cb (lenK K) T.len (pc (vn 4) pa_nil)) pe_int) (pc (pe_un un_neg pe_int) (pc (pe_un un_neg pe_int) pa_nil)))) (gn 5)
        (pss_cons (ps_asg (pe_ix (ixL K) (vn 2) (pe_op op_add (vn 5) (vn 3)) (fun _ _ => rfl)) (pg_sub (vn 4) (vn 5) set_list))
        (pss_one (ps_for PassesOwn.never rfl (enumK K T2.enumerate (pc (vn 1) pa_nil)) (g2 K 6 7 rfl (gn 6) (gn 7))
          (pss_one (ps_augS (vn 2) (pe_op op_add (vn 5) (vn 6)) get_lst (pe_op op_mul (pe_ix (ixL K) (vn 4) (vn 5) (fun _ _ => rfl)) (vn 7)) ip_sub set_list))))))
      (pss_one (ps_ret (vn 4)))))), ?_⟩
    refine ⟨_, rfl, a, _, rfl, .inl hA, fun r nr => ?_⟩
    have s1 : Same H (upd H r (.lst (ps.map V.int))) := Same.upd nr
    refine ⟨_, rfl, b, _, rfl, .inl (s1.seq hB), _, _, rfl, rfl, ?_⟩
    refine ⟨(by show 1 ≤ sizeLine; decide), fun l0 n0 => ?_⟩
    have s2 := s1.trans (Same.upd (o := .lst [.int 0]) n0)
    refine ⟨_, rfl, r, _, rfl, .inl (.of (Same.upd n0 _ _ upd_same)), _, rfl, _, _, rfl, rfl, l0, _, _, rfl, rfl, upd_same, ?_, ?_, ?_, fun l nl => ?_⟩
    · rw [List.length_map, List.length_map]; omega
    · rw [List.length_map, List.length_map]; omega
    · rw [List.length_map, List.length_map]
      show 1 * _ ≤ sizeLine
      have e : (16777216 : Nat) = sizeLine := by decide
      omega
    have eN : (((ps.map V.int).length : Int) - (((ds.map V.int).length : Int) - 1)).toNat = ps.length - (ds.length - 1) := by rw [List.length_map, List.length_map]; omega
    rw [eN, rep0]
    have nr' : H r = none := nr
    have nl' : H l = none := s2.free nl
    have nlr : l ≠ r := fun z => by
      rw [z, upd_ne (fun z2 => by rw [z2, upd_same] at n0; cases n0), upd_same] at nl
      cases nl
    have s3 := s2.trans (Same.upd (o := .lst ((List.replicate (ps.length - (ds.length - 1)) (0 : Int)).map V.int)) nl)
    generalize hN : ps.length - (ds.length - 1) = N at *
    have hr3 : (upd (upd (upd H r (.lst (ps.map V.int))) l0 (.lst [.int 0])) l (.lst ((List.replicate N (0 : Int)).map V.int))) r = some (.lst (ps.map V.int)) := Same.upd nl _ _ (Same.upd n0 _ _ upd_same)
    refine ⟨_, rfl, l, _, rfl, .inl (.of upd_same), _, _, rfl, rfl, _, rfl, _, rfl, _, _, rfl, ⟨by rw [List.length_map, List.length_replicate]; omega, by rw [List.length_map, List.length_replicate]; omega, by decide, by decide⟩, ?_⟩
    rw [List.length_map, List.length_map, List.length_replicate]
    have e2 : (((N : Int) - 1) - (-1)).toNat = N := by omega
    rw [e2]
    refine for_down (fun i σ' H' => ∃ (fnd rest : List Int) (v5 v6 v7 : Option V), σ' = [some (.ref a), some (.ref b), some (.ref r), some (.int ((ds.length : Int) - 1)), some (.ref l), v5, v6, v7] ∧ Same H H' ∧ H' l = some (.lst (fnd.map V.int)) ∧ H' r = some (.lst (rest.map V.int)) ∧
        fnd.length = N ∧ rest.length = ps.length ∧ qOut ds (ds.length - 1) (N - i) fnd rest = quotM ps ds)
      ⟨_, _, _, _, _, rfl, s3, upd_same, hr3, List.length_replicate .., rfl, by rw [Nat.sub_zero, quotM, hN]⟩ ?_ ?_
    · rintro i σ' H' hi ⟨fnd, rest, v5, v6, v7, rfl, sm, hl', hr', hlf, hlr, hq⟩
      generalize hk : N - 1 - i = k
      have ek : (N : Int) - 1 - (i : Int) = (k : Int) := by omega
      rw [ek]
      have hkN : k < N := by omega
      have hqk : N - i = k + 1 := by omega
      rw [hqk, qOut] at hq
      have ktop : k + (ds.length - 1) < rest.length := by omega
      refine ⟨_, rfl, _, rfl, _, rfl, _, _, rfl, rfl, r, _, _, .int (co rest (k + (ds.length - 1))), rfl, rfl, .of hr', ?_, _, rfl, _, rfl, l, _, _, k, rfl, rfl, hl', ?_, ?_⟩
      · have : (k : Int) + ((ds.length : Int) - 1) = ((k + (ds.length - 1) : Nat) : Int) := by omega
        rw [this]
        exact get_map ktop
      · rw [List.length_map]; exact ixN_nat (by omega)
      generalize hc : co rest (k + (ds.length - 1)) = c at hq ⊢
      rw [set_map]
      have sm1 : Same H (upd H' l (.lst ((fnd.set k c).map V.int))) := sm.updr nl'
      have hr1 : (upd H' l (.lst ((fnd.set k c).map V.int))) r = some (.lst (rest.map V.int)) := by rw [upd_ne (Ne.symm nlr)]; exact hr'
      have hck : co (fnd.set k c) k = c := by rw [co_set, if_pos ⟨rfl, by omega⟩]
      refine ⟨_, rfl, b, rfl, .inl ⟨⟨_, sm1.seq hB⟩, ?_⟩⟩
      refine for_enum en_lst (fun j σ'' H'' => ∃ (cur : List Int) (u6 u7 : Option V), σ'' = [some (.ref a), some (.ref b), some (.ref r), some (.int ((ds.length : Int) - 1)), some (.ref l), some (.int k), u6, u7] ∧ Same H H'' ∧ H'' l = some (.lst ((fnd.set k c).map V.int)) ∧ H'' r = some (.lst (cur.map V.int)) ∧
          cur.length = ps.length ∧ qIn (ds.drop j) (k + j) c cur = qIn ds k c rest)
        ⟨_, _, _, rfl, sm1, upd_same, hr1, hlr, rfl⟩ (fun j σ'' H'' h => h.choose_spec.choose_spec.choose_spec.2.1.seq hB) ?_ ?_
      · rintro j y σ'' H'' T' hy ⟨cur, u6, u7, rfl, sm2, hl2', hr2, hcl, hqi⟩ nT
        obtain ⟨hj, rfl⟩ := map_get hy
        have kj : k + j < cur.length := by omega
        have hrT := Same.upd (o := .tup [.int j, .int (co ds j)]) nT _ _ hr2
        have hlT := Same.upd (o := .tup [.int j, .int (co ds j)]) nT _ _ hl2'
        have cb := co_small hsm j
        refine ⟨T', _, rfl, .of upd_same, rfl, _, _, rfl, _, _, rfl, rfl, _, rfl, _, rfl, _, rfl, _, _, rfl, rfl, r, _, k + j, .int (co cur (k + j)), rfl, congrArg V.int (by omega), hrT, get_co kj,
          _, rfl, _, rfl, l, _, _, .int c, rfl, rfl, .of hlT, ?_, _, rfl, _, _, rfl, rfl, .inr ⟨by omega, by omega⟩, _, _, rfl, rfl, r, _, _, k + j, rfl, congrArg V.int (show (k : Int) + (j : Int) = ((k + j : Nat) : Int) by omega), hrT, ?_, ?_⟩
        · have := get_map (a := fnd.set k c) (i := k) (by rw [List.length_set]; omega)
          rw [hck] at this
          exact this
        · rw [List.length_map]; exact ixN_nat kj
        · refine ⟨cur.set (k + j) (co cur (k + j) - c * co ds j), _, _, rfl, (sm2.trans (Same.upd nT)).updr nr', ?_, ?_, ?_, ?_⟩
          · rw [upd_ne nlr]; exact hlT
          · rw [upd_same, set_map]
          · rw [List.length_set]; exact hcl
          · rw [← hqi, drop_co hj, Num.qIn]
            rfl
      · rintro σ'' H'' ⟨cur, u6, u7, rfl, sm2, hl2', hr2, hcl, hqi⟩
        rw [List.length_map, List.drop_length, Num.qIn] at hqi
        refine ⟨fnd.set k c, cur, _, _, _, rfl, sm2, hl2', hr2, by rw [List.length_set]; exact hlf, hcl, ?_⟩
        rw [show N - (i + 1) = k by omega, hqi]
        exact hq
    · rintro σ' H' ⟨fnd, rest, v5, v6, v7, rfl, sm, hl', hr', hlf, hlr, hq⟩
      rw [Nat.sub_self, Num.qOut] at hq
      rw [hq] at hl'
      exact ⟨_, rfl, q l H' sm hl'⟩
end
end C4

set_option maxHeartbeats 4000000
namespace L2
open PySem PySem.Spec PyProof.Rows
section
variable {X : Cx}
/-- enumerate of a list or tuple that was there at Hx -/
def iEnumS (K : PySem.W.Frag) (ta : TA) : TI := fun σ H R => ta σ H fun vs H1 => ∃ a xs Hx, vs = [.ref a] ∧ (SqL K Hx a xs ∨ SqT K Hx a xs) ∧ Same Hx H1 ∧ ∀ J At, EnIt J At xs → (∀ H', Same Hx H' → At H') → R J H1
theorem enumsS {elts : List Expr} {x1} {pt : Pos} {l : Expr} {ta : TA} {p pos : Pos} (hm : X.mg "enumerate" = none) (ha : PA X [l] ta) (hg : isGlob X.env.scope "enumerate" = true := by kernel_rfl) (hs : starEach [l] X.env = [(false, eval l X.env)] := by rfl) :
    PI X (.Tuple elts x1 pt) (.Call (.Name "enumerate" p) [l] [] pos) (iEnumS X.K ta) := by
  intro pins s σ H R I h
  refine Call_ (ld_blt I (gl_of hg) hm (show bootBuiltins "enumerate" = some (.type "enumerate") by kernel_rfl) (PyProof.Rows.callWith_type1 (thn (ha pos pins s σ H _ I h) fun us s1 ⟨vs, H1, I1, r1, q1⟩ => ?_) hs rfl))
  obtain ⟨a, xs, Hx, e, hq, sm, q⟩ := q1
  subst e
  cases r1 with
  | cons r rr =>
    cases rr
    cases (show _ = Value.ref a from r)
    have sz : ∀ b, b ∈ [s1.heap.objs.size + 1, s1.heap.objs.size] → s1.heap.objs.size ≤ b := fun b hb => by
      rcases List.mem_cons.mp hb with rfl | hb
      · exact Nat.le_succ _
      · have : b = s1.heap.objs.size := by simpa using hb
        rw [this]
        exact Nat.le_refl _
    rcases hq with hq | hq
    · obtain ⟨its, rv, p, hz⟩ := I1.list (sm.seq hq)
      refine call_enumerate_list p.isList fun g ge gi gs gk => wpAny_pyIter_enum ge ?_
      exact ⟨_, [s1.heap.objs.size + 1, s1.heap.objs.size], _, _, H1, rfl, I1.kept (t' := s1.toks) gk, turn_enumL a _ _ (Nat.ne_of_gt (Nat.lt_succ_self _)), ⟨⟨_, ge⟩, gi⟩, fun b hb => I1.fpOk (sz b hb) (I1.hok.fresh (sz b hb)), q _ _ en_lst fun H' s' => s'.seq hq⟩
    · obtain ⟨its, rv, p, hz⟩ := I1.tuple (sm.tup hq)
      refine PyY.call_enumT (show s1.heap.IsTuple a its.toArray from p) fun g ge gi gs gk => wpAny_pyIter_enum ge ?_
      exact ⟨_, [s1.heap.objs.size + 1, s1.heap.objs.size], _, _, H1, rfl, I1.kept (t' := s1.toks) gk, turn_enumT a _ _ (Nat.ne_of_gt (Nat.lt_succ_self _)), ⟨⟨_, ge⟩, gi⟩, fun b hb => I1.fpOk (sz b hb) (I1.hok.fresh (sz b hb)), q _ _ en_tup fun H' s' => s'.tup hq⟩
theorem enumSK (K : PySem.W.Frag) {elts : List Expr} {x1} {pt : Pos} {l : Expr} {ta : TA} {p pos : Pos} (hm : X.mg "enumerate" = none) (ha : PA X [l] ta) (hK : X.K = K := by rfl) (hg : isGlob X.env.scope "enumerate" = true := by kernel_rfl) (hs : starEach [l] X.env = [(false, eval l X.env)] := by rfl) :
    PI X (.Tuple elts x1 pt) (.Call (.Name "enumerate" p) [l] [] pos) (iEnumS K ta) := hK ▸ enumsS hm ha hg hs
end
end L2
namespace C4
open PySem L2 PySem.Spec PyProof.Rows
open Num
def lsN (n : Nat) : List Int := leastM n (primesM n)
def topN (n : Nat) : Nat := (lsN n).length - 1
def RN (n : Nat) : List (List Int) := RT n (primesM n)
def chk1 (n : Nat) : Bool := Num.chk n (primesM n) && decide (((Num.leastM n (primesM n)).length : Int) = phiM n + 1)
theorem chk_0 : ([1, 2, 3, 4, 5, 6, 7, 8, 9, 10, 11, 12, 13, 14, 15, 16].all chk1) = true := by decide +kernel
theorem chk_1 : ([17, 18, 19, 20, 21, 22, 23, 24].all chk1) = true := by decide +kernel
theorem chk_2 : ([25, 26, 27, 28, 29, 30].all chk1) = true := by decide +kernel
theorem chk_3 : ([31, 32, 33, 34, 35].all chk1) = true := by decide +kernel
theorem chk_4 : ([36, 37, 38, 39, 40].all chk1) = true := by decide +kernel
theorem chk_5 : ([41, 42, 43, 44].all chk1) = true := by decide +kernel
theorem chk_6 : ([45, 46, 47].all chk1) = true := by decide +kernel
theorem chk_7 : ([48, 49, 50].all chk1) = true := by decide +kernel
theorem chk_8 : ([51, 52, 53].all chk1) = true := by decide +kernel
theorem chk_9 : ([54, 55, 56].all chk1) = true := by decide +kernel
theorem chk_10 : ([57, 58].all chk1) = true := by decide +kernel
theorem chk_11 : ([59, 60].all chk1) = true := by decide +kernel
theorem chk_of {n : Nat} (h1 : 1 ≤ n) (h2 : n ≤ 60) : chk1 n = true := by
  by_cases c0 : n ≤ 16
  · exact List.all_eq_true.mp chk_0 n (by simp only [List.mem_cons, List.not_mem_nil, or_false]; omega)
  by_cases c1 : n ≤ 24
  · exact List.all_eq_true.mp chk_1 n (by simp only [List.mem_cons, List.not_mem_nil, or_false]; omega)
  by_cases c2 : n ≤ 30
  · exact List.all_eq_true.mp chk_2 n (by simp only [List.mem_cons, List.not_mem_nil, or_false]; omega)
  by_cases c3 : n ≤ 35
  · exact List.all_eq_true.mp chk_3 n (by simp only [List.mem_cons, List.not_mem_nil, or_false]; omega)
  by_cases c4 : n ≤ 40
  · exact List.all_eq_true.mp chk_4 n (by simp only [List.mem_cons, List.not_mem_nil, or_false]; omega)
  by_cases c5 : n ≤ 44
  · exact List.all_eq_true.mp chk_5 n (by simp only [List.mem_cons, List.not_mem_nil, or_false]; omega)
  by_cases c6 : n ≤ 47
  · exact List.all_eq_true.mp chk_6 n (by simp only [List.mem_cons, List.not_mem_nil, or_false]; omega)
  by_cases c7 : n ≤ 50
  · exact List.all_eq_true.mp chk_7 n (by simp only [List.mem_cons, List.not_mem_nil, or_false]; omega)
  by_cases c8 : n ≤ 53
  · exact List.all_eq_true.mp chk_8 n (by simp only [List.mem_cons, List.not_mem_nil, or_false]; omega)
  by_cases c9 : n ≤ 56
  · exact List.all_eq_true.mp chk_9 n (by simp only [List.mem_cons, List.not_mem_nil, or_false]; omega)
  by_cases c10 : n ≤ 58
  · exact List.all_eq_true.mp chk_10 n (by simp only [List.mem_cons, List.not_mem_nil, or_false]; omega)
  exact List.all_eq_true.mp chk_11 n (by simp only [List.mem_cons, List.not_mem_nil, or_false]; omega)
theorem goodN {n : Nat} (h1 : 1 ≤ n) (h2 : n ≤ 60) : Good n (primesM n) (lsN n) (topN n) (RN n) ∧ (topN n : Int) = phiM n := by
  have h := chk_of h1 h2
  unfold chk1 at h
  rw [Bool.and_eq_true] at h
  have g := good_of h1 h.1
  refine ⟨g, ?_⟩
  have e := of_decide_eq_true h.2
  have := g.l2
  unfold topN lsN
  omega
end C4

set_option maxHeartbeats 4000000
namespace C4
open PySem L2 PySem.Spec PyProof.Rows
open Num
def spLeast : Sp := fun vs H Q _ => ∃ n : Nat, vs = [.int n] ∧ 1 ≤ n ∧ n ≤ 60 ∧ ∀ l H', Same H H' → H' l = some (.lst ((lsN n).map V.int)) → Q (.ref l) H'
def spNumOf (K : PySem.W.Frag) : Sp := fun vs H Q _ => ∃ (n : Nat) (a : Addr) (ws : List Int), vs = [.int n, .ref a] ∧ 1 ≤ n ∧ n ≤ 60 ∧ (SqL K H a (ws.map V.int) ∨ SqT K H a (ws.map V.int)) ∧ ws.length ≤ 100000 ∧
  ∀ q H', Same H H' → H' q = some (.tup ((numL n (topN n) (RN n) ws).map V.int)) → Q (.ref q) H'
theorem cut_take (xs : List V) {k : Nat} (h : k ≤ xs.length) : cutV xs none (some (k : Int)) = xs.take k := by
  unfold cutV
  rw [HT.sIx_nat]
  have e : HT.sIx xs.length 0 none = 0 := rfl
  rw [e, List.drop_zero, Nat.sub_zero, Nat.min_eq_left h]
theorem lsAll_head {s : List Int × Int} {ps : List Int} (h : lsAll s ps = true) : small s.1 = true ∧ 2 ≤ s.1.length ∧ s.1.length ≤ 61 ∧ 1 ≤ s.2 ∧ s.2 ≤ 60 := by
  have g : lsOk s = true := by
    cases ps with
    | nil => exact h
    | cons p ps =>
      rw [Num.lsAll] at h
      simp only [Bool.and_eq_true] at h
      exact h.1.1.1
  unfold lsOk at g
  simp only [Bool.and_eq_true, decide_eq_true_eq] at g
  exact ⟨g.1.1.1.1, g.1.1.1.2, g.1.1.2, g.1.2, g.2⟩
theorem lsAll_cons {s : List Int × Int} {p : Int} {ps : List Int} (h : lsAll s (p :: ps) = true) : 2 ≤ p ∧ p ≤ 60 ∧ lsAll (lsStep s p) ps = true := by
  rw [Num.lsAll] at h
  simp only [Bool.and_eq_true, decide_eq_true_eq] at h
  exact ⟨h.1.1.2, h.1.2, h.2⟩
section
variable {P : Program} {w : World} {K : PySem.W.Frag} {mg : Str → Option Value} {base : Heap}
theorem scLeast : FnScope ["n", "found", "built", "p"] ["n"] (defScope sLeast) := ⟨rfl, rfl, rfl, by decide +kernel, rfl, by decide +kernel, by decide +kernel⟩
theorem ok_least {f : Addr} {fd : FuncData} (F : Fun K "least_sum" "least_sum" sLeast f fd) (GP : Fn P w K mg base CX0 1 "primes_of" ["n"] spPrimes) (GS : Fn P w K mg base CX0 1 "stretched" ["powers", "step"] (spStr K)) (GQ : Fn P w K mg base CX0 1 "quotient" ["powers", "divisor"] (spQuo K)) :
    FnOk P w K mg base CX0 2 f fd ["n"] spLeast := by
  refine F.ok scLeast (fun vs H Q E h => ?_) (fun cdv A outer s H vs Q E hr h => ?_)
  · obtain ⟨n, rfl, _⟩ := h; rfl
  · obtain ⟨n, rfl, n1, n60, q⟩ := h
    obtain ⟨G, _⟩ := goodN n1 n60
    refine ⟨_, pss_cons (sset 1 rfl (pe_lst (pc (pe_un un_neg pe_int) (pc pe_int pa_nil))))
      (pss_cons (sset 2 rfl pe_int)
      (pss_cons (ps_for PassesOwn.never rfl (itL K (fnc GP hr pass0 (pc (vn 0) pa_nil))) (gn 3)
        (pss_cons (sset 1 rfl (fnc GQ hr pass0 (pc (fnc GS hr pass0 (pc (vn 1) (pc (vn 3) pa_nil))) (pc (vn 1) pa_nil))))
        (pss_one (sset 2 rfl (pe_op op_mul (vn 2) (vn 3))))))
      (pss_one (ps_ret (fnc GS hr pass0 (pc (vn 1) (pc (pe_op op_fdiv (vn 0) (vn 2)) pa_nil))))))), ?_⟩
    refine ⟨_, rfl, (by show 2 ≤ sizeLine; decide), fun l0 n0 => ?_⟩
    have s0 : Same H (upd H l0 (.lst [.int (-1), .int 1])) := Same.upd n0
    refine ⟨_, rfl, n, rfl, n1, n60, fun lp H1 s1 hp => ⟨lp, rfl, ⟨_, .of hp⟩, ?_⟩⟩
    refine for_seq (seq_lst (K := K) (.of hp)) (fun i σ' H' => ∃ (st : List Int × Int) (fa : Addr) (v3 : Option V), σ' = [some (.int n), some (.ref fa), some (.int st.2), v3] ∧ Same H1 H' ∧ H' fa = some (.lst (st.1.map V.int)) ∧ lsAll st ((primesM n).drop i) = true ∧
        ((primesM n).drop i).foldl lsStep st = (primesM n).foldl lsStep ([-1, 1], 1))
      ⟨([-1, 1], 1), l0, _, rfl, Same.refl _, s1 _ _ upd_same, G.ls, rfl⟩ (fun i σ' H' h => h.choose_spec.choose_spec.choose_spec.2.1) ?_ ?_
    · rintro i x σ' H' hx ⟨st, fa, v3, rfl, sm, hf, hls, hfold⟩
      obtain ⟨hi, rfl⟩ := map_get hx
      rw [drop_co hi] at hls hfold
      obtain ⟨p2, p60, hls'⟩ := lsAll_cons hls
      obtain ⟨c1, c2, c3, c4, c5⟩ := lsAll_head hls
      generalize hpp : co (primesM n) i = p at *
      have ep : (p.toNat : Int) = p := by omega
      have hmul : (st.1.length - 1) * p.toNat ≤ 60 * 60 := Nat.mul_le_mul (by omega) (by omega)
      refine ⟨_, rfl, _, rfl, fa, st.1, p.toNat, by rw [ep]; rfl, .of hf, by omega, by omega, by omega, by omega, fun l2 H2 s2 h2 => ?_⟩
      have hge : st.1.length - 1 ≤ (st.1.length - 1) * p.toNat := Nat.le_mul_of_pos_right _ (by omega)
      refine ⟨_, rfl, l2, fa, _, _, rfl, .of h2, .of (s2 _ _ hf), by omega, by rw [stM_len]; omega, by rw [stM_len]; omega, c1, fun l3 H3 s3 h3 => ?_⟩
      refine ⟨_, rfl, _, rfl, _, _, rfl, rfl, .inl ⟨by omega, by omega⟩, ?_⟩
      exact ⟨lsStep st p, l3, _, rfl, (sm.trans s2).trans s3, h3, hls', hfold⟩
    · rintro σ' H' ⟨st, fa, v3, rfl, sm, hf, hls, hfold⟩
      rw [List.length_map, List.drop_length] at hls hfold
      obtain ⟨c1, c2, c3, c4, c5⟩ := lsAll_head hls
      have hd : 0 ≤ (n : Int) / st.2 ∧ (n : Int) / st.2 ≤ n := ⟨Int.ediv_nonneg (by omega) (by omega), Int.ediv_le_self _ (by omega)⟩
      have hmul : (st.1.length - 1) * ((n : Int) / st.2).toNat ≤ 60 * 60 := Nat.mul_le_mul (by omega) (by omega)
      refine ⟨_, rfl, _, rfl, _, rfl, _, _, rfl, rfl, ⟨by omega, by omega⟩, fa, st.1, ((n : Int) / st.2).toNat, by rw [Int.toNat_of_nonneg hd.1]; rfl, .of hf, by omega, by omega, by omega, by omega, fun l4 H4 s4 h4 => ?_⟩
      refine q l4 H4 (((s0.trans s1).trans sm).trans s4) ?_
      rw [h4]
      unfold lsN leastM
      rw [← hfold]
      rfl
theorem scNumOf : FnScope ["n", "powers", "least", "top", "rest", "k", "x", "high", "j"] ["n", "powers"] (defScope sNumOf) := ⟨rfl, rfl, rfl, by decide +kernel, rfl, by decide +kernel, by decide +kernel⟩
theorem ok_numOf {f : Addr} {fd : FuncData} (F : Fun K "number_of" "number_of" sNumOf f fd) (T : Bl mg) (T2 : Bl2 mg) (GL : Fn P w K mg base CX0 2 "least_sum" ["n"] spLeast) : FnOk P w K mg base CX0 3 f fd ["n", "powers"] (spNumOf K) := by
  refine F.ok scNumOf (fun vs H Q E h => ?_) (fun cdv A outer s H vs Q E hr h => ?_)
  · obtain ⟨n, a, ws, rfl, _⟩ := h; rfl
  · obtain ⟨n, a, ws, rfl, n1, n60, hS, hwl, q⟩ := h
    obtain ⟨G, _⟩ := goodN n1 n60
    refine ⟨_, pss_cons (sset 2 rfl (fnc GL hr pass0 (pc (vn 0) pa_nil)))
      (pss_cons (sset 3 rfl (pe_op op_sub (cb (lenK K) T.len (pc (vn 2) pa_nil)) pe_int))
      (pss_cons (sset 4 rfl (pe_op op_rep (pe_lst (pc pe_int pa_nil)) (vn 0)))
      (pss_cons (ps_for PassesOwn.never rfl (enumSK K T2.enumerate (pc (vn 1) pa_nil)) (g2 K 5 6 rfl (gn 5) (gn 6))
        (pss_one (ps_augS (vn 4) (pe_op op_mod (vn 5) (vn 0)) get_lst (vn 6) ip_add set_list)))
      (pss_cons (ps_for PassesOwn.never rfl (rngD T.range (pc (pe_op op_sub (vn 0) pe_int) (pc (pe_op op_sub (vn 3) pe_int) (pc (pe_un un_neg pe_int) pa_nil)))) (gn 5)
        (pss_cons (sset 7 rfl (pe_ix (ixL K) (vn 4) (vn 5) (fun _ _ => rfl)))
        (pss_one (ps_if (pt_cmpR op_ne (vn 7) pe_int (nomark _))
          (pss_one (ps_for PassesOwn.never rfl (enumK K T2.enumerate (pc (vn 2) pa_nil)) (g2 K 8 6 rfl (gn 8) (gn 6))
            (pss_one (ps_augS (vn 4) (pe_op op_add (pe_op op_sub (vn 5) (vn 3)) (vn 8)) get_lst (pe_op op_mul (vn 7) (vn 6)) ip_sub set_list)))) pss_nil))))
      (pss_one (ps_ret (ct call_tuple_of T.tuple (pc (pe_slice sl_list (vn 4) po_none (po_some (vn 3))) pa_nil)))))))), ?_⟩
    refine ⟨_, rfl, n, rfl, n1, n60, fun ll H1 s1 hll => ?_⟩
    have etop : (((lsN n).map V.int).length : Int) - 1 = (topN n : Int) := by
      rw [List.length_map, G.l2]; omega
    have tn := G.tn
    have t1 := G.t1
    refine ⟨_, rfl, ll, _, rfl, .inl (.of hll), _, _, rfl, rfl, ?_⟩
    refine ⟨(by show 1 ≤ sizeLine; decide), fun l0 n0 => ?_⟩
    have s2 := s1.trans (Same.upd (o := .lst [.int 0]) n0)
    refine ⟨_, rfl, l0, _, _, rfl, rfl, upd_same, by omega, by omega, ?_, fun l nl => ?_⟩
    · rw [Int.toNat_natCast]
      show 1 * n ≤ sizeLine
      have e : (16777216 : Nat) = sizeLine := by decide
      omega
    rw [Int.toNat_natCast, rep0]
    have nl' : H l = none := s2.free nl
    have hll3 := Same.upd (o := .lst ((List.replicate n (0 : Int)).map V.int)) nl _ _ (Same.upd (o := .lst [.int 0]) n0 _ _ hll)
    have nll : l ≠ ll := fun z => by
      rw [z, Same.upd (o := .lst [.int 0]) n0 _ _ hll] at nl
      cases nl
    have s3 := s2.trans (Same.upd (o := .lst ((List.replicate n (0 : Int)).map V.int)) nl)
    refine ⟨_, rfl, a, _, H, rfl, hS, s3, fun J At S hAt => ?_⟩
    refine for_enum S (fun i σ' H' => ∃ (cur : List Int) (v5 v6 : Option V), σ' = [some (.int n), some (.ref a), some (.ref ll), some (.int ((((lsN n).map V.int).length : Int) - 1)), some (.ref l), v5, v6, none, none] ∧ Same H H' ∧ H' ll = some (.lst ((lsN n).map V.int)) ∧ H' l = some (.lst (cur.map V.int)) ∧ cur.length = n ∧
        foldN n (ws.drop i) i cur = foldL n ws)
      ⟨_, _, _, rfl, s3, hll3, upd_same, List.length_replicate .., rfl⟩ (fun i σ' H' h => hAt _ h.choose_spec.choose_spec.choose_spec.2.1) ?_ ?_
    · rintro i y σ' H' T' hy ⟨cur, v5, v6, rfl, sm, hl1, hl2, hcl, hfo⟩ nT
      obtain ⟨hi, rfl⟩ := map_get hy
      have him : i % n < cur.length := by rw [hcl]; exact Nat.mod_lt _ n1
      have eM : V.int ((i : Int) % (n : Int)) = V.int ((i % n : Nat) : Int) := congrArg V.int (by omega)
      have hlT := Same.upd (o := .tup [.int i, .int (co ws i)]) nT _ _ hl2
      refine ⟨T', _, rfl, .of upd_same, rfl, _, _, rfl, _, _, rfl, rfl, _, rfl, _, rfl, _, rfl, _, _, rfl, rfl, (by show (0 : Int) < n; omega), l, _, i % n, .int (co cur (i % n)), rfl, eM, hlT, get_co him, _, rfl, _, _, rfl, rfl, l, _, _, i % n, rfl, eM, hlT, ?_, ?_⟩
      · rw [List.length_map]; exact ixN_nat him
      · refine ⟨cur.set (i % n) (co cur (i % n) + co ws i), _, _, rfl, (sm.trans (Same.upd nT)).updr nl', ?_, ?_, ?_, ?_⟩
        · rw [upd_ne (Ne.symm nll)]; exact Same.upd nT _ _ hl1
        · rw [upd_same, set_map]
        · rw [List.length_set]; exact hcl
        · rw [← hfo, drop_co hi, Num.foldN]
    · rintro σ' H' ⟨cur, v5, v6, rfl, sm, hl1, hl2, hcl, hfo⟩
      rw [List.length_map, List.drop_length, Num.foldN] at hfo
      refine ⟨_, rfl, _, _, rfl, rfl, _, rfl, _, _, rfl, rfl, _, rfl, _, _, rfl, ⟨by omega, by omega, by omega, by omega⟩, ?_⟩
      rw [show (((n : Int) - 1) - ((((lsN n).map V.int).length : Int) - 1 - 1)).toNat = n - topN n by omega]
      refine for_down (fun i σ' H' => ∃ (cur : List Int) (v5 v6 v7 v8 : Option V), σ' = [some (.int n), some (.ref a), some (.ref ll), some (.int ((((lsN n).map V.int).length : Int) - 1)), some (.ref l), v5, v6, v7, v8] ∧ Same H H' ∧ H' ll = some (.lst ((lsN n).map V.int)) ∧ H' l = some (.lst (cur.map V.int)) ∧ cur.length = n ∧
          (∀ j, co (lin cur (RN n)) j = co (lin (foldL n ws) (RN n)) j) ∧ ∀ t, n - i ≤ t → co cur t = 0)
        ⟨cur, _, _, _, _, rfl, sm, hl1, hl2, hcl, fun j => by rw [hfo], fun t ht => co_ge (by omega)⟩ ?_ ?_
      · rintro i σ'' H'' hi ⟨c2, v5', v6', v7', v8', rfl, sm2, hl1', hl2', hcl2, hP, hz⟩
        generalize hk : n - 1 - i = k
        have ek : (n : Int) - 1 - (i : Int) = (k : Int) := by omega
        rw [ek]
        have hkn : k < n := by omega
        have hkt : topN n ≤ k := by omega
        refine ⟨_, rfl, _, rfl, l, _, _, .int (co c2 k), rfl, rfl, .of hl2', get_map (by omega), ?_⟩
        refine ⟨_, rfl, rfl, _, rfl, ite2 (fun hh => ?_) (fun hh => ?_)⟩
        · refine ⟨_, rfl, ll, rfl, .inl ⟨⟨_, .of hl1'⟩, ?_⟩⟩
          obtain ⟨r1, r2, r3, r4⟩ := red_step G hcl2 hkn hkt
          refine for_enum en_lst (fun j σ3 H3 => ∃ (c3 : List Int) (u6 u8 : Option V), σ3 = [some (.int n), some (.ref a), some (.ref ll), some (.int ((((lsN n).map V.int).length : Int) - 1)), some (.ref l), some (.int k), u6, some (.int (co c2 k)), u8] ∧ Same H H3 ∧ H3 ll = some (.lst ((lsN n).map V.int)) ∧ H3 l = some (.lst (c3.map V.int)) ∧ c3.length = n ∧
              qIn ((lsN n).drop j) (k - topN n + j) (co c2 k) c3 = qIn (lsN n) (k - topN n) (co c2 k) c2)
            ⟨c2, _, _, rfl, sm2, hl1', hl2', hcl2, rfl⟩ (fun j σ3 H3 h => .of h.choose_spec.choose_spec.choose_spec.2.2.1) ?_ ?_
          · rintro j y σ3 H3 T' hy ⟨c3, u6, u8, rfl, sm3, g1, g2, g3, g4⟩ nT
            obtain ⟨hj, rfl⟩ := map_get hy
            have ll2 := G.l2
            have kj : k - topN n + j < c3.length := by omega
            have eI : V.int ((k : Int) - ((((lsN n).map V.int).length : Int) - 1) + (j : Int)) = V.int ((k - topN n + j : Nat) : Int) := congrArg V.int (by omega)
            have hT2 := Same.upd (o := .tup [.int j, .int (co (lsN n) j)]) nT _ _ g2
            have cb := co_small G.sm j
            refine ⟨T', _, rfl, .of upd_same, rfl, _, _, rfl, _, _, rfl, rfl, _, rfl, _, rfl, _, rfl, _, _, rfl, rfl, _, rfl, _, _, rfl, rfl, l, _, k - topN n + j, .int (co c3 (k - topN n + j)), rfl, eI, hT2, get_co kj, _, rfl, _, rfl, _, _, rfl, rfl, .inr ⟨by omega, by omega⟩, _, _, rfl, rfl, l, _, _, k - topN n + j, rfl, eI, hT2, ?_, ?_⟩
            · rw [List.length_map]; exact ixN_nat kj
            · refine ⟨c3.set (k - topN n + j) (co c3 (k - topN n + j) - co c2 k * co (lsN n) j), _, _, rfl, (sm3.trans (Same.upd nT)).updr nl', ?_, ?_, ?_, ?_⟩
              · rw [upd_ne (Ne.symm nll)]; exact Same.upd nT _ _ g1
              · rw [upd_same, set_map]
              · rw [List.length_set]; exact g3
              · rw [← g4, drop_co hj, Num.qIn]
                rfl
          · rintro σ3 H3 ⟨c3, u6, u8, rfl, sm3, g1, g2, g3, g4⟩
            rw [List.length_map, List.drop_length, Num.qIn] at g4
            refine ⟨c3, _, _, _, _, rfl, sm3, g1, g2, g3, fun j => ?_, fun t ht => ?_⟩
            · rw [g4, r2 j]; exact hP j
            · rw [g4]
              by_cases e : t = k
              · rw [e]; exact r3
              · rw [r4 t (by omega)]; exact hz t (by omega)
        · have h0 : co c2 k = 0 := by
            apply Classical.byContradiction
            intro hne
            apply hh
            rw [dec_int]
            simp [hne]
          refine ⟨c2, _, _, _, _, rfl, sm2, hl1', hl2', hcl2, hP, fun t ht => ?_⟩
          by_cases e : t = k
          · rw [e]; exact h0
          · exact hz t (by omega)
      · rintro σ'' H'' ⟨c2, v5', v6', v7', v8', rfl, sm2, hl1', hl2', hcl2, hP, hz⟩
        refine ⟨_, rfl, _, rfl, _, rfl, l, _, rfl, .of hl2', fun p1 h1 => ⟨p1, _, rfl, .inl ⟨.of upd_same, fun qq hqq => ?_⟩⟩⟩
        rw [etop, cut_take _ (by rw [List.length_map]; omega), ← List.map_take] at hqq ⊢
        refine q qq _ ((sm2.trans (Same.upd h1)).trans (Same.upd hqq)) ?_
        rw [upd_same, red_end G hcl2 (fun t ht => hz t (by omega)) hP ws rfl]
end
end C4

namespace Num
/-! products and turnings, as lists are filled -/
def mulIn (x : Int) : List Int → Nat → List Int → List Int
  | [], _, acc => acc
  | y :: ys, k, acc => mulIn x ys (k + 1) (acc.set k (co acc k + x * y))
def mulOut (ys : List Int) : List Int → Nat → List Int → List Int
  | [], _, acc => acc
  | x :: xs, i, acc => mulOut ys xs (i + 1) (if x = 0 then acc else mulIn x ys i acc)
def mulM (xs ys : List Int) : List Int := mulOut ys xs 0 (List.replicate (xs.length + ys.length - 1) 0)
def rmIn (n : Nat) (x : Int) : List Int → Nat → List Int → List Int
  | [], _, acc => acc
  | y :: ys, k, acc => rmIn n x ys (k + 1) (acc.set (k % n) (co acc (k % n) + x * y))
def rmOut (n : Nat) (ys : List Int) : List Int → Nat → List Int → List Int
  | [], _, acc => acc
  | x :: xs, i, acc => rmOut n ys xs (i + 1) (rmIn n x ys i acc)
def mulR (n : Nat) (xs ys : List Int) : List Int := rmOut n ys xs 0 (List.replicate n 0)
/-- what x times each of ys adds -/
def sIn (n : Nat) (R : List (List Int)) (j : Nat) (x : Int) : List Int → Nat → Int
  | [], _ => 0
  | y :: ys, k => x * y * co (ro R (k % n)) j + sIn n R j x ys (k + 1)
def sOut (n : Nat) (R : List (List Int)) (j : Nat) (ys : List Int) : List Int → Nat → Int
  | [], _ => 0
  | x :: xs, i => sIn n R j x ys i + sOut n R j ys xs (i + 1)
/-! turning -/
def ti (n : Nat) (u : Int) (j : Nat) : Nat := ((j : Int) * u % (n : Int)).toNat
theorem ti_lt {n : Nat} (hn : 0 < n) (u : Int) (j : Nat) : ti n u j < n := by
  have h1 := Int.emod_nonneg ((j : Int) * u) (show (n : Int) ≠ 0 by omega)
  have h2 := Int.emod_lt_of_pos ((j : Int) * u) (show (0 : Int) < n by omega)
  unfold ti
  omega
theorem ti_int {n : Nat} (hn : 0 < n) (u : Int) (j : Nat) : ((ti n u j : Nat) : Int) = (j : Int) * u % (n : Int) := by
  have h1 := Int.emod_nonneg ((j : Int) * u) (show (n : Int) ≠ 0 by omega)
  unfold ti
  omega
def trnN (n : Nat) (u : Int) : List Int → Nat → List Int → List Int
  | [], _, acc => acc
  | x :: xs, j, acc => trnN n u xs (j + 1) (acc.set (ti n u j) (co acc (ti n u j) + x))
def trnL (n : Nat) (u : Int) (xs : List Int) : List Int := trnN n u xs 0 (List.replicate n 0)
/-- the sum over xs of x_i times the row of the power i * u -/
def tsig (n : Nat) (R : List (List Int)) (j : Nat) (u : Int) : List Int → Nat → Int
  | [], _ => 0
  | x :: xs, i => x * co (ro R (ti n u i)) j + tsig n R j u xs (i + 1)
theorem sig_trnN (n : Nat) (hn : 0 < n) (R : List (List Int)) (j : Nat) (u : Int) : ∀ (xs : List Int) (i : Nat) (acc : List Int), acc.length = n → sig n R j (trnN n u xs i acc) 0 = sig n R j acc 0 + tsig n R j u xs i
  | [], _, _, _ => by rw [trnN, tsig, Int.add_zero]
  | x :: xs, i, acc, h => by
    have hl := ti_lt hn u i
    rw [trnN, sig_trnN n hn R j u xs (i + 1) _ (by rw [List.length_set]; exact h), sig_set n R j x acc (ti n u i) 0 (by omega), tsig, Nat.zero_add, Nat.mod_eq_of_lt hl, Int.add_assoc]
theorem sig_trnL (n : Nat) (hn : 0 < n) (R : List (List Int)) (j : Nat) (u : Int) (xs : List Int) : sig n R j (trnL n u xs) 0 = tsig n R j u xs 0 := by
  unfold trnL
  rw [sig_trnN n hn R j u xs 0 _ (List.length_replicate ..), sig_zeros, Int.zero_add]
end Num

set_option maxHeartbeats 4000000
namespace C4
open PySem L2 PySem.Spec PyProof.Rows
open Num
abbrev sLess : Stmt := top 8
structure Bl3 (mg : Str → Option Value) : Prop where
  zip : mg "zip" = none
def spTwo (K : PySem.W.Frag) (g : Int → Int → Int) : Sp := fun vs H Q _ => ∃ (a b : Addr) (xs ys : List Int), vs = [.ref a, .ref b] ∧ SqT K H a (xs.map V.int) ∧ SqT K H b (ys.map V.int) ∧ xs.length ≤ 100000 ∧
  ∀ q H', Same H H' → H' q = some (.tup ((List.zipWith g xs ys).map V.int)) → Q (.ref q) H'
def spSca (K : PySem.W.Frag) : Sp := fun vs H Q _ => ∃ (a : Addr) (k : Int) (xs : List Int), vs = [.ref a, .int k] ∧ SqT K H a (xs.map V.int) ∧ xs.length ≤ 100000 ∧ (-(2 ^ 64) < k ∧ k < 2 ^ 64) ∧
  ∀ q H', Same H H' → H' q = some (.tup ((xs.map (· * k)).map V.int)) → Q (.ref q) H'
def fTwo (g : Int → Int → Int) : V → V → V
  | .int x, .int y => .int (g x y)
  | x, _ => x
theorem fTwo_zip (g : Int → Int → Int) : ∀ xs ys : List Int, ((xs.map V.int).zip (ys.map V.int)).map (fun p => fTwo g p.1 p.2) = (List.zipWith g xs ys).map V.int
  | [], _ => rfl
  | _ :: _, [] => rfl
  | x :: xs, y :: ys => by
    exact congrArg (V.int (g x y) :: ·) (fTwo_zip g xs ys)
theorem zip_get {xs ys : List Int} {i : Nat} {x y : V} (h : ((xs.map V.int).zip (ys.map V.int))[i]? = some (x, y)) : ∃ u v, x = .int u ∧ y = .int v := by
  rw [List.getElem?_zip_eq_some] at h
  obtain ⟨h1, h2⟩ := h
  obtain ⟨_, hu⟩ := map_get h1
  obtain ⟨_, hv⟩ := map_get h2
  exact ⟨_, _, hu, hv⟩
def fSca (k : Int) : V → V
  | .int x => .int (x * k)
  | x => x
section
variable {P : Program} {w : World} {K : PySem.W.Frag} {mg : Str → Option Value} {base : Heap}
theorem scLess : FnScope ["one", "other"] ["one", "other"] (defScope sLess) := ⟨rfl, rfl, rfl, by decide +kernel, rfl, by decide +kernel, by decide +kernel⟩
theorem ok_less {f : Addr} {fd : FuncData} (F : Fun K "less" "less" sLess f fd) (T : Bl mg) (T3 : Bl3 mg) : FnOk P w K mg base CX0 1 f fd ["one", "other"] (spTwo K (· - ·)) := by
  refine F.ok scLess (fun vs H Q E h => ?_) (fun cdv A outer s H vs Q E hr h => ?_)
  · obtain ⟨a, b, xs, ys, rfl, _⟩ := h; rfl
  · obtain ⟨a, b, xs, ys, rfl, ha, hb, hx, q⟩ := h
    refine ⟨_, pss_one (ps_ret (ct call_tuple_of T.tuple (pc (cmp ["x", "y"] [] ["x", "y"] rfl (zipK K T3.zip (pc (vn 0) (pc (vn 1) pa_nil))) (fun _ _ _ _ _ => g2 K 0 1 rfl (gn 0) (gn 1)) (fun _ _ _ _ _ => pif_nil)
      (fun _ _ _ _ _ => pe_op op_sub (vn 0) (vn 1))) pa_nil))), ?_⟩
    refine ⟨_, rfl, _, rfl, a, b, true, true, _, _, H, rfl, .tup ha, .tup hb, Same.refl _, fun J At S hAt => ?_⟩
    refine comp_zip S hAt (Same.refl _) [] rfl (fTwo (· - ·)) (by rw [List.length_zip, List.length_map, List.length_map]; omega) (fun i x y H' hxy s' R g => ?_) (fun D H' nD s' hD => ?_)
    · obtain ⟨u, v, rfl, rfl⟩ := zip_get hxy
      exact ⟨_, rfl, _, rfl, _, _, rfl, rfl, g H' (Same.refl _)⟩
    · rw [fTwo_zip] at hD
      refine ⟨D, _, rfl, .inl ⟨.of hD, fun qq hqq => ?_⟩⟩
      exact q qq _ (s'.trans (Same.upd hqq)) upd_same
end
end C4

namespace Num
theorem sumF_last : ∀ (n : Nat) (f : Nat → Int), sumF (n + 1) f = sumF n f + f n
  | 0, f => by rw [sumF, sumF, sumF]; omega
  | n + 1, f => by
    rw [sumF, sumF_last n fun t => f (t + 1), sumF]
    omega
theorem sumF_add : ∀ (n : Nat) (f g : Nat → Int), sumF n (fun t => f t + g t) = sumF n f + sumF n g
  | 0, f, g => rfl
  | n + 1, f, g => by
    rw [sumF, sumF, sumF, sumF_add n (fun t => f (t + 1)) fun t => g (t + 1)]
    omega
theorem sumF_mul (c : Int) : ∀ (n : Nat) (f : Nat → Int), c * sumF n f = sumF n fun t => c * f t
  | 0, f => Int.mul_zero c
  | n + 1, f => by rw [sumF, sumF, Int.mul_add, sumF_mul c n fun t => f (t + 1)]
theorem sumF_swap (b : Nat) : ∀ (a : Nat) (f : Nat → Nat → Int), sumF a (fun i => sumF b fun m => f m i) = sumF b fun m => sumF a fun i => f m i
  | 0, f => by rw [sumF]; exact (sumF_zero b _ fun t _ => rfl).symm
  | a + 1, f => by rw [sumF, sumF_swap b a fun m i => f m (i + 1), ← sumF_add]; rfl
/-- the row of the power k -/
def rh (n : Nat) (R : List (List Int)) (k j : Nat) : Int := co (ro R (k % n)) j
section
variable {n top : Nat} {least : List Int} {R : List (List Int)}
theorem rh_mod {k k' : Nat} (h : k % n = k' % n) (j : Nat) : rh n R k j = rh n R k' j := by unfold rh; rw [h]
/-- what is known of the rows -/
structure Per (n top : Nat) (least : List Int) (R : List (List Int)) : Prop where
  nxt : ∀ k, ro R ((k + 1) % n) = nextR least top (ro R (k % n))
theorem rh_next (P : Per n top least R) (k j : Nat) : rh n R (k + 1) j = (if j = 0 ∨ top ≤ j then 0 else rh n R k (j - 1)) - rh n R k (top - 1) * co (least.take top) j := by
  unfold rh
  rw [P.nxt, co_next]
theorem shift1 (P : Per n top least R) (t : Nat) (c : Nat → Int) (f : Nat → Nat) (g : Nat) (h : ∀ j, sumF t (fun i => c i * rh n R (f i) j) = rh n R g j) (j : Nat) : sumF t (fun i => c i * rh n R (f i + 1) j) = rh n R (g + 1) j := by
  rw [rh_next P g j, ← h (top - 1), Int.mul_comm (sumF _ _), sumF_mul]
  by_cases hj : j = 0 ∨ top ≤ j
  · rw [if_pos hj, ← Int.sub_self (sumF t fun _ => 0), Int.sub_self, Int.zero_sub]
    rw [show -sumF t (fun i => co (least.take top) j * (c i * rh n R (f i) (top - 1))) = sumF t (fun i => 0 - co (least.take top) j * (c i * rh n R (f i) (top - 1))) by rw [sumF_sub, sumF_zero t (fun _ => 0) fun _ _ => rfl]; omega]
    refine sumF_congr _ _ _ fun i _ => ?_
    rw [rh_next P (f i) j, if_pos hj, Int.mul_sub, Int.mul_zero, ← Int.mul_assoc, Int.mul_comm (co (least.take top) j)]
  · rw [if_neg hj, ← h (j - 1), ← sumF_sub]
    refine sumF_congr _ _ _ fun i _ => ?_
    rw [rh_next P (f i) j, if_neg hj, Int.mul_sub, ← Int.mul_assoc, Int.mul_comm (co (least.take top) j)]
theorem shiftN (P : Per n top least R) (t : Nat) (c : Nat → Int) (f : Nat → Nat) (g : Nat) (h : ∀ j, sumF t (fun i => c i * rh n R (f i) j) = rh n R g j) : ∀ (d j : Nat), sumF t (fun i => c i * rh n R (f i + d) j) = rh n R (g + d) j
  | 0, j => h j
  | d + 1, j => shift1 P t c (fun i => f i + d) (g + d) (shiftN P t c f g h d) j
/-- turning the row of the power m by h is the row of the power m * h -/
def TP (n top : Nat) (R : List (List Int)) (h : Nat) : Prop := ∀ m j, sumF top (fun i => rh n R m i * rh n R (i * h) j) = rh n R (m * h) j
theorem TP_of {ps : List Int} (G : Good n ps least top R) (P : Per n top least R) (h : Nat) (C : ∀ j, sumF (top + 1) (fun i => co least i * rh n R (i * h) j) = 0) : TP n top R h := by
  have t1 := G.t1
  have tn := G.tn
  have hn : 0 < n := by omega
  intro m
  induction m with
  | zero =>
    intro j
    have u0 : ∀ i, i < top → rh n R 0 i = if i = 0 then 1 else 0 := fun i hi => by
      unfold rh
      rw [Nat.zero_mod, G.un 0 (by omega), co_unit hi]
    rw [sumF_one top 0 _ (by omega) fun t ht hne => by rw [u0 t ht, if_neg hne, Int.zero_mul], u0 0 (by omega), if_pos rfl, Int.one_mul, Nat.zero_mul]
  | succ m ih =>
    intro j
    obtain ⟨s, rfl⟩ : ∃ s, top = s + 1 := ⟨top - 1, by omega⟩
    have e1 : sumF (s + 1) (fun i => rh n R (m + 1) i * rh n R (i * h) j) = sumF (s + 1) (fun i => (if i = 0 then 0 else rh n R m (i - 1)) * rh n R (i * h) j) - sumF (s + 1) fun i => rh n R m s * (co least i * rh n R (i * h) j) := by
      rw [← sumF_sub]
      refine sumF_congr _ _ _ fun i hi => ?_
      rw [rh_next P m i, Nat.add_sub_cancel]
      have ce : co (least.take (s + 1)) i = co least i := by
        unfold co
        rw [List.getD_eq_getElem?_getD, List.getD_eq_getElem?_getD, List.getElem?_take, if_pos hi]
      rw [ce, Int.sub_mul, Int.mul_assoc]
      by_cases h0 : i = 0
      · rw [if_pos (.inl h0), if_pos h0]
      · rw [if_neg (by omega), if_neg h0]
    have e2 : sumF (s + 1) (fun i => (if i = 0 then 0 else rh n R m (i - 1)) * rh n R (i * h) j) = sumF s fun i => rh n R m i * rh n R (i * h + h) j := by
      rw [sumF, if_pos rfl, Int.zero_mul, Int.zero_add]
      refine sumF_congr _ _ _ fun i hi => ?_
      rw [if_neg (by omega), Nat.add_sub_cancel, Nat.succ_mul]
    have e3 : sumF (s + 1) (fun i => co least i * rh n R (i * h) j) = - rh n R (s * h + h) j := by
      have := C j
      rw [sumF_last, G.mon, Int.one_mul, Nat.succ_mul] at this
      omega
    have sh := shiftN P (s + 1) (rh n R m) (fun i => i * h) (m * h) ih h j
    rw [sumF_last] at sh
    rw [e1, e2, ← sumF_mul, e3, Nat.succ_mul, ← sh, Int.mul_neg]
    omega
theorem TP_mul {h h' : Nat} (a : TP n top R h) (b : TP n top R h') : TP n top R (h * h') := by
  intro m j
  rw [← Nat.mul_assoc, ← b (m * h) j]
  have e : sumF top (fun i => rh n R (m * h) i * rh n R (i * h') j) = sumF top fun i => sumF top fun k => rh n R m k * (rh n R (k * h) i * rh n R (i * h') j) := by
    refine sumF_congr _ _ _ fun i _ => ?_
    rw [← a m i, Int.mul_comm (sumF _ _), sumF_mul]
    refine sumF_congr _ _ _ fun k _ => ?_
    rw [Int.mul_comm, Int.mul_assoc]
  rw [e, sumF_swap]
  refine sumF_congr _ _ _ fun k _ => ?_
  rw [← sumF_mul, b (k * h) j, Nat.mul_assoc]
theorem TP_mod {h h' : Nat} (e : h % n = h' % n) (a : TP n top R h) : TP n top R h' := by
  intro m j
  rw [rh_mod (k := m * h') (k' := m * h) (by rw [Nat.mul_mod, ← e, ← Nat.mul_mod]) j, ← a m j]
  refine sumF_congr _ _ _ fun i _ => ?_
  rw [rh_mod (k := i * h') (k' := i * h) (by rw [Nat.mul_mod, ← e, ← Nat.mul_mod]) j]
theorem TP_one {ps : List Int} (G : Good n ps least top R) : TP n top R 1 := by
  intro m j
  have hn : 0 < n := G.n1
  have tn := G.tn
  by_cases hj : j < top
  · rw [sumF_one top j _ hj fun t ht hne => ?_, Nat.mul_one, Nat.mul_one]
    · unfold rh
      rw [Nat.mod_eq_of_lt (show j < n by omega), G.un j hj, co_unit hj, if_pos rfl, Int.mul_one]
    · rw [Nat.mul_one]
      unfold rh
      rw [Nat.mod_eq_of_lt (show t < n by omega), G.un t ht, co_unit hj, if_neg (fun z => hne z.symm), Int.mul_zero]
  · have z : ∀ k, rh n R k j = 0 := fun k => by
      unfold rh
      exact co_ge (by rw [G.rlen _ (Nat.mod_lt _ hn)]; omega)
    rw [z, sumF_zero top _ fun t _ => by rw [z, Int.mul_zero]]
/-! turned there and back -/
theorem tsig_sum (j : Nat) (u : Int) : ∀ (xs : List Int) (i : Nat), tsig n R j u xs i = sumF xs.length fun t => co xs t * co (ro R (ti n u (i + t))) j
  | [], i => rfl
  | x :: xs, i => by
    rw [tsig, List.length_cons, sumF, tsig_sum j u xs (i + 1), co_zero, Nat.add_zero]
    congr 1
    refine sumF_congr _ _ _ fun t _ => ?_
    rw [co_succ, Nat.add_assoc, Nat.add_comm 1 t]
theorem ti_mod (hn : 0 < n) (h : Int) (i : Nat) : ti n h i = (i * (h % (n : Int)).toNat) % n := by
  have e := ti_int hn h i
  have e2 : (((h % (n : Int)).toNat : Nat) : Int) = h % (n : Int) := Int.toNat_of_nonneg (Int.emod_nonneg _ (by omega))
  have : ((ti n h i : Nat) : Int) = ((i * (h % (n : Int)).toNat % n : Nat) : Int) := by
    rw [e]
    push_cast
    rw [e2, Int.mul_emod, Int.mul_emod (i : Int) (h % (n : Int)), Int.emod_emod_of_dvd _ (Int.dvd_refl _)]
  omega
end
/-! the check by force -/
def rowsK (least : List Int) (top : Nat) : Nat → List Int → (List (List Int) → Bool) → Bool
  | 0, _, k => k []
  | m + 1, r, k => fL (nextR least top r) fun r' => rowsK least top m r' fun rs => k (r :: rs)
theorem rowsK_eq (least : List Int) (top : Nat) : ∀ (m : Nat) (r : List Int) (k : List (List Int) → Bool), rowsK least top m r k = k (rows least top m r)
  | 0, r, k => rfl
  | m + 1, r, k => by rw [rowsK, fL_eq, rowsK_eq least top m, rows]
def fNat {β : Type} (m : Nat) (k : Nat → β) : β := match m with
  | 0 => k 0
  | m + 1 => k (m + 1)
theorem fNat_eq {β : Type} (m : Nat) (k : Nat → β) : fNat m k = k m := by cases m <;> rfl
def tB (n h : Nat) (R : List (List Int)) : List Int → Nat → List Int → Bool
  | [], _, acc => allZ acc
  | c :: cs, k, acc => if c = 0 then fNat ((k + h) % n) fun k' => tB n h R cs k' acc else fL (vadd acc (vsc c (ro R k))) fun acc' => fNat ((k + h) % n) fun k' => tB n h R cs k' acc'
theorem tB_of (n h : Nat) (R : List (List Int)) : ∀ (cs : List Int) (i : Nat) (acc : List Int), tB n h R cs (i * h % n) acc = true → ∀ j, co acc j + sumF cs.length (fun t => co cs t * rh n R ((i + t) * h) j) = 0
  | [], i, acc, q, j => by rw [List.length_nil, sumF, Int.add_zero]; exact co_allZ q j
  | c :: cs, i, acc, q, j => by
    have ek : (i * h % n + h) % n = (i + 1) * h % n := by rw [Nat.succ_mul, Nat.mod_add_mod]
    have es : sumF cs.length (fun t => co (c :: cs) (t + 1) * rh n R ((i + (t + 1)) * h) j) = sumF cs.length fun t => co cs t * rh n R ((i + 1 + t) * h) j := sumF_congr _ _ _ fun t _ => by rw [co_succ, Nat.add_assoc, Nat.add_comm 1 t]
    rw [tB] at q
    rw [List.length_cons, sumF, es, co_zero, Nat.add_zero]
    by_cases hc : c = 0
    · rw [if_pos hc, fNat_eq, ek] at q
      rw [hc, Int.zero_mul, Int.zero_add]
      exact tB_of n h R cs (i + 1) acc q j
    · rw [if_neg hc, fL_eq, fNat_eq, ek] at q
      have := tB_of n h R cs (i + 1) _ q j
      rw [co_vadd, co_vsc, Int.add_assoc] at this
      exact this
def pr60 : List Nat := [2, 3, 5, 7, 11, 13, 17, 19, 23, 29, 31, 37, 41, 43, 47, 53, 59]
def tchk (n : Nat) (ps : List Int) : Bool := fL (leastM n ps) fun least => fNat (least.length - 1) fun top => fL (unit top 0) fun u0 => rowsK least top n u0 fun R => pr60.all fun h => decide (n ≤ h) || decide (n % h = 0) || tB n h R least 0 []
theorem tchk_of {n : Nat} {ps : List Int} (hh : tchk n ps = true) {h : Nat} (hp : h ∈ pr60) (h1 : h < n) (h2 : n % h ≠ 0) (j : Nat) : sumF (leastM n ps).length (fun i => co (leastM n ps) i * rh n (RT n ps) (i * h) j) = 0 := by
  unfold tchk at hh
  rw [fL_eq, fNat_eq, fL_eq, rowsK_eq] at hh
  have := List.all_eq_true.mp hh h hp
  simp only [Bool.or_eq_true, decide_eq_true_eq] at this
  have q := this.resolve_left (by omega)
  have := tB_of n h _ _ 0 [] (by rw [Nat.zero_mul, Nat.zero_mod]; exact q) j
  rw [co_nil, Int.zero_add] at this
  rw [← this]
  refine sumF_congr _ _ _ fun t _ => ?_
  rw [Nat.zero_add]
  rfl
theorem per_of {n : Nat} {ps : List Int} (n1 : 1 ≤ n) (h : chk n ps = true) : Per n ((leastM n ps).length - 1) (leastM n ps) (RT n ps) := by
  unfold chk at h
  rw [Bool.and_eq_true, fL_eq] at h
  obtain ⟨a1, h⟩ := h
  unfold RT
  generalize leastM n ps = least at h ⊢
  generalize ht : least.length - 1 = top at h ⊢
  unfold chkC at h
  simp only [Bool.and_eq_true, Bool.or_eq_true, decide_eq_true_eq, List.all_eq_true] at h
  obtain ⟨⟨⟨⟨⟨⟨⟨h1, h2⟩, h3⟩, h4⟩, h5⟩, h6⟩, h7⟩, h8⟩ := h
  obtain ⟨per, rr⟩ := rowsB_of least top n 0 _ h5
  refine ⟨fun k => ?_⟩
  have hk := Nat.mod_lt k (show n > 0 by omega)
  rw [ro_rows least top n _ _ (Nat.mod_lt _ (show n > 0 by omega)), ro_rows least top n _ _ hk, ← nx_succ]
  by_cases hc : k % n + 1 < n
  · rw [← Nat.mod_add_mod, Nat.mod_eq_of_lt hc]
  · have e : k % n + 1 = n := by omega
    rw [← Nat.mod_add_mod, e, Nat.mod_self, per, nx]
end Num

set_option maxHeartbeats 4000000
namespace C4
open Num
def tc (n : Nat) : Bool := tchk n (primesM n)
theorem tc_0 : ([1, 2, 3, 4, 5, 6, 7, 8, 9, 10, 11, 12, 13, 14, 15, 16].all tc) = true := by decide +kernel
theorem tc_1 : ([17, 18, 19, 20, 21, 22, 23, 24].all tc) = true := by decide +kernel
theorem tc_2 : ([25, 26, 27, 28].all tc) = true := by decide +kernel
theorem tc_3 : ([29, 30].all tc) = true := by decide +kernel
theorem tc_4 : ([31, 32].all tc) = true := by decide +kernel
theorem tc_5 : ([33, 34].all tc) = true := by decide +kernel
theorem tc_6 : ([35, 36].all tc) = true := by decide +kernel
theorem tc_7 : ([37, 38].all tc) = true := by decide +kernel
theorem tc_8 : ([39, 40].all tc) = true := by decide +kernel
theorem tc_9 : ([41, 42].all tc) = true := by decide +kernel
theorem tc_10 : ([43, 44].all tc) = true := by decide +kernel
theorem tc_11 : ([45, 46].all tc) = true := by decide +kernel
theorem tc_12 : ([47, 48].all tc) = true := by decide +kernel
theorem tc_13 : ([49, 50].all tc) = true := by decide +kernel
theorem tc_14 : ([51, 52].all tc) = true := by decide +kernel
theorem tc_15 : ([53, 54].all tc) = true := by decide +kernel
theorem tc_16 : ([55, 56].all tc) = true := by decide +kernel
theorem tc_17 : ([57, 58].all tc) = true := by decide +kernel
theorem tc_18 : ([59].all tc) = true := by decide +kernel
theorem tc_19 : ([60].all tc) = true := by decide +kernel
theorem tc_of {n : Nat} (h1 : 1 ≤ n) (h2 : n ≤ 60) : tc n = true := by
  by_cases c0 : n ≤ 16
  · exact List.all_eq_true.mp tc_0 n (by simp only [List.mem_cons, List.not_mem_nil, or_false]; omega)
  by_cases c1 : n ≤ 24
  · exact List.all_eq_true.mp tc_1 n (by simp only [List.mem_cons, List.not_mem_nil, or_false]; omega)
  by_cases c2 : n ≤ 28
  · exact List.all_eq_true.mp tc_2 n (by simp only [List.mem_cons, List.not_mem_nil, or_false]; omega)
  by_cases c3 : n ≤ 30
  · exact List.all_eq_true.mp tc_3 n (by simp only [List.mem_cons, List.not_mem_nil, or_false]; omega)
  by_cases c4 : n ≤ 32
  · exact List.all_eq_true.mp tc_4 n (by simp only [List.mem_cons, List.not_mem_nil, or_false]; omega)
  by_cases c5 : n ≤ 34
  · exact List.all_eq_true.mp tc_5 n (by simp only [List.mem_cons, List.not_mem_nil, or_false]; omega)
  by_cases c6 : n ≤ 36
  · exact List.all_eq_true.mp tc_6 n (by simp only [List.mem_cons, List.not_mem_nil, or_false]; omega)
  by_cases c7 : n ≤ 38
  · exact List.all_eq_true.mp tc_7 n (by simp only [List.mem_cons, List.not_mem_nil, or_false]; omega)
  by_cases c8 : n ≤ 40
  · exact List.all_eq_true.mp tc_8 n (by simp only [List.mem_cons, List.not_mem_nil, or_false]; omega)
  by_cases c9 : n ≤ 42
  · exact List.all_eq_true.mp tc_9 n (by simp only [List.mem_cons, List.not_mem_nil, or_false]; omega)
  by_cases c10 : n ≤ 44
  · exact List.all_eq_true.mp tc_10 n (by simp only [List.mem_cons, List.not_mem_nil, or_false]; omega)
  by_cases c11 : n ≤ 46
  · exact List.all_eq_true.mp tc_11 n (by simp only [List.mem_cons, List.not_mem_nil, or_false]; omega)
  by_cases c12 : n ≤ 48
  · exact List.all_eq_true.mp tc_12 n (by simp only [List.mem_cons, List.not_mem_nil, or_false]; omega)
  by_cases c13 : n ≤ 50
  · exact List.all_eq_true.mp tc_13 n (by simp only [List.mem_cons, List.not_mem_nil, or_false]; omega)
  by_cases c14 : n ≤ 52
  · exact List.all_eq_true.mp tc_14 n (by simp only [List.mem_cons, List.not_mem_nil, or_false]; omega)
  by_cases c15 : n ≤ 54
  · exact List.all_eq_true.mp tc_15 n (by simp only [List.mem_cons, List.not_mem_nil, or_false]; omega)
  by_cases c16 : n ≤ 56
  · exact List.all_eq_true.mp tc_16 n (by simp only [List.mem_cons, List.not_mem_nil, or_false]; omega)
  by_cases c17 : n ≤ 58
  · exact List.all_eq_true.mp tc_17 n (by simp only [List.mem_cons, List.not_mem_nil, or_false]; omega)
  by_cases c18 : n ≤ 59
  · exact List.all_eq_true.mp tc_18 n (by simp only [List.mem_cons, List.not_mem_nil, or_false]; omega)
  exact List.all_eq_true.mp tc_19 n (by simp only [List.mem_cons, List.not_mem_nil, or_false]; omega)
end C4

set_option maxHeartbeats 4000000
namespace C4
open PySem L2
open Num
theorem pr_div : ((List.range 60).all fun h => decide (h < 2) || pr60.any fun p => decide (h % p = 0)) = true := by decide +kernel
theorem pr_two : (pr60.all fun p => decide (2 ≤ p)) = true := by decide +kernel
theorem tpS {n : Nat} (h1 : 2 ≤ n) (h2 : n ≤ 60) : ∀ (b h : Nat), h ≤ b → h < n → (∃ u, h * u % n = 1) → TP n (topN n) (RN n) h := by
  obtain ⟨G, _⟩ := goodN (show 1 ≤ n by omega) h2
  have hc := chk_of (show 1 ≤ n by omega) h2
  unfold chk1 at hc
  rw [Bool.and_eq_true] at hc
  have P : Per n (topN n) (lsN n) (RN n) := per_of (by omega) hc.1
  intro b
  induction b with
  | zero =>
    rintro h hb hn ⟨u, hu⟩
    have : h = 0 := by omega
    rw [this, Nat.zero_mul, Nat.zero_mod] at hu
    cases hu
  | succ b ih =>
    rintro h hb hn ⟨u, hu⟩
    by_cases e0 : h < 2
    · by_cases e1 : h = 0
      · rw [e1, Nat.zero_mul, Nat.zero_mod] at hu
        cases hu
      · have : h = 1 := by omega
        rw [this]
        exact TP_one G
    · have hd := List.all_eq_true.mp pr_div h (List.mem_range.mpr (by omega))
      rw [decide_eq_false e0, Bool.false_or, List.any_eq_true] at hd
      obtain ⟨p, hp, hpd⟩ := hd
      have hpd := of_decide_eq_true hpd
      have p2 := of_decide_eq_true (List.all_eq_true.mp pr_two p hp)
      have eh : h = p * (h / p) := (Nat.mul_div_cancel' (Nat.dvd_of_mod_eq_zero hpd)).symm
      have hlt : h / p < h := Nat.div_lt_self (by omega) (by omega)
      have hpn : p < n := Nat.lt_of_le_of_lt (Nat.le_of_dvd (by omega) (Nat.dvd_of_mod_eq_zero hpd)) hn
      have hnp : n % p ≠ 0 := fun z => by
        have en : n = p * (n / p) := (Nat.mul_div_cancel' (Nat.dvd_of_mod_eq_zero z)).symm
        rw [eh, Nat.mul_assoc, en, Nat.mul_mod_mul_left] at hu
        have := Nat.eq_one_of_mul_eq_one_right hu
        omega
      have T1 : TP n (topN n) (RN n) p := TP_of G P p fun j => by
        have := tchk_of (tc_of (show 1 ≤ n by omega) h2) hp hpn hnp j
        have l2 := G.l2
        unfold lsN at l2
        rw [l2] at this
        exact this
      have T2 : TP n (topN n) (RN n) (h / p) := ih (h / p) (by omega) (by omega) ⟨p * u, by rw [← Nat.mul_assoc, Nat.mul_comm (h / p), ← eh]; exact hu⟩
      rw [eh]
      exact TP_mul T1 T2
end C4

set_option maxHeartbeats 4000000
namespace L2
open PySem PySem.Spec PyProof.Rows
/-- an item of a list or of a tuple -/
def rIxS' (K : PySem.W.Frag) : R2 := fun x y H Q => ∃ p xs i v, x = .ref p ∧ y = .int i ∧ (SqL K H p xs ∨ SqT K H p xs) ∧ atI xs i = some v ∧ Q v H
theorem ixS {X : Cx} (K : PySem.W.Frag) (hK : X.K = K := by rfl) : IxR X (rIxS' K) := by
  subst hK
  intro value slice pins s σ H x y v u Q I rx ry h hs
  obtain ⟨p, xs, i, z, rfl, rfl, hq, he, q⟩ := h
  rcases hq with hq | hq
  · exact ix_list value slice pins s σ H _ _ v u Q I rx ry ⟨p, xs, i, z, rfl, rfl, hq, he, q⟩ hs
  · exact ix_tup value slice pins s σ H _ _ v u Q I rx ry ⟨p, xs, i, z, rfl, rfl, hq, he, q⟩ hs
theorem eqDK {X : Cx} (K : PySem.W.Frag) (hu : X.A.units + 64 < cLine) (hK : X.K = K := by rfl) : OpR X (compareOp .Eq) (fun x y H Q => ∃ dx dy, RdD K H x dx ∧ RdD K H y dy ∧ SeqAt.shaped dx = true ∧ SeqAt.shaped dy = true ∧ Q (.bl (PyData.eqv dx dy)) H) := hK ▸ op_eqD hu
theorem neDK {X : Cx} (K : PySem.W.Frag) (hu : X.A.units + 64 < cLine) (hK : X.K = K := by rfl) : OpR X (compareOp .NotEq) (fun x y H Q => ∃ dx dy, RdD K H x dx ∧ RdD K H y dy ∧ SeqAt.shaped dx = true ∧ SeqAt.shaped dy = true ∧ Q (.bl (!PyData.eqv dx dy)) H) := hK ▸ op_neD hu
end L2
namespace C4
open PySem L2 PySem.Spec PyProof.Rows
open Num
abbrev sPr : Stmt := top 18
abbrev sRow : Stmt := top 20
abbrev sNou : Stmt := top 21
abbrev sAli : Stmt := top 22
abbrev sIs : Stmt := top 24
/-! ### the law's own primes -/
def noDiv (p : Int) : Bool := ((rngI 2 (p - 2).toNat).filter fun k => decide (p % k = 0)).isEmpty
def lawPr (n : Nat) : List Int := ((rngI 2 ((n : Int) + 1 - 2).toNat).filter fun p => decide ((n : Int) % p = 0)).filter noDiv
theorem lawPr_all : ((List.range 61).all fun n => n == 0 || (decide (lawPr n = primesM n) && decide ((primesM n).length ≤ 3))) = true := by decide +kernel
theorem lawPr_eq {n : Nat} (h1 : 1 ≤ n) (h2 : n ≤ 60) : lawPr n = primesM n ∧ (primesM n).length ≤ 3 := by
  have h := List.all_eq_true.mp lawPr_all n (List.mem_range.mpr (by omega))
  have h0 : (n == 0) = false := by simp; omega
  rw [h0, Bool.false_or, Bool.and_eq_true, decide_eq_true_eq, decide_eq_true_eq] at h
  exact h
theorem filt_map (p : V → Bool) (p' : Int → Bool) (h : ∀ i, p (.int i) = p' i) : ∀ xs : List Int, ((xs.map V.int).filter p).map (fun y => y) = (xs.filter p').map V.int
  | [] => rfl
  | x :: r => by
    have ih := filt_map p p' h r
    rw [List.map_cons, List.filter_cons, List.filter_cons, h x]
    cases p' x with
    | true => rw [if_pos rfl, if_pos rfl, List.map_cons, List.map_cons, ih]
    | false => rw [if_neg Bool.false_ne_true, if_neg Bool.false_ne_true, ih]
theorem mem_map_get {xs : List Int} {i : Nat} {x : V} (h : (xs.map V.int)[i]? = some x) : ∃ z, x = .int z ∧ z ∈ xs := by
  rw [List.getElem?_map] at h
  cases e : xs[i]? with
  | none => rw [e] at h; cases h
  | some z =>
    rw [e] at h
    cases h
    exact ⟨z, rfl, List.mem_of_getElem? e⟩
theorem shapedI (ns : List Int) : SeqAt.shaped (.list (ns.map PyData.int)) = true := shapedL fun d hd => by
  obtain ⟨z, _, rfl⟩ := List.mem_map.mp hd
  exact ⟨rfl, Nat.zero_le _⟩
def fI (p : Int → Bool) : V → Bool
  | .int i => p i
  | _ => false
section
variable {P : Program} {w : World} {K : PySem.W.Frag} {mg : Str → Option Value} {base : Heap}
theorem scPr : FnScope ["_law_n", "_law_some"] ["_law_n"] (defScope sPr) := ⟨rfl, rfl, rfl, by decide +kernel, rfl, by decide +kernel, by decide +kernel⟩
theorem ok_pr {f : Addr} {fd : FuncData} (F : Fun K "_law_primes" "_law_primes" sPr f fd) (T : Bl mg) : FnOk P w K mg base CX0 1 f fd ["_law_n"] spPrimes := by
  refine F.ok scPr (fun vs H Q E h => ?_) (fun cdv A outer s H vs Q E hr h => ?_)
  · obtain ⟨n, rfl, _⟩ := h; rfl
  · obtain ⟨n, rfl, n1, n60, q⟩ := h
    refine ⟨_, pss_cons (setc 1 ["_law_p"] [0] ["_law_p", "_law_n"] rfl rfl (rng2 T.range (pc pe_int (pc (pe_op op_add (vn 0) pe_int) pa_nil))) (fun _ _ _ _ _ => gn 0) (fun _ _ _ _ _ => pif_one (pt_cmpR op_eq (pe_op op_mod (vn 1) (vn 0)) pe_int (nomark _))) (fun _ _ _ _ _ => vn 0))
      (pss_one (ps_ret (cmp ["_law_p"] [] ["_law_p"] rfl (itL K (vn 1)) (fun _ _ _ _ _ => gnf 0 rfl)
        (fun _ _ _ _ _ => pif_one (pt_cmpR (eqDK K hr.units) (cmp ["_law_k"] [0] ["_law_k", "_law_p"] rfl (rng2 T.range (pc pe_int (pc (vn 0) pa_nil))) (fun _ _ _ _ _ => gn 0) (fun _ _ _ _ _ => pif_one (pt_cmpR op_eq (pe_op op_mod (vn 1) (vn 0)) pe_int (nomark _))) (fun _ _ _ _ _ => vn 0)) (pe_lst pa_nil) (nomark _))) (fun _ _ _ _ _ => vn 0)))), ?_⟩
    have b62 : ∀ z : Int, 0 ≤ z → z ≤ 100 → -(2 ^ 62) ≤ z ∧ z < 2 ^ 62 := fun z h1 h2 => by omega
    refine ⟨_, rfl, _, _, rfl, rfl, 2, (n : Int) + 1, rfl, ⟨by decide, by decide, by omega, by omega⟩, ?_⟩
    refine comp_filt (seq_rng 2 ((n : Int) + 1 - 2).toNat) [some (.int n)] rfl (fI fun p => decide ((n : Int) % p = 0)) (fun y => y) (by rw [List.length_map, rngI_len]; omega) ?_ ?_
    · intro i x H' hx s' R R' g1 g2
      obtain ⟨z, rfl, hz⟩ := mem_map_get hx
      obtain ⟨z1, z2⟩ := rngI_mem hz
      refine ⟨_, rfl, _, rfl, _, _, rfl, rfl, (by show (0 : Int) < z; omega), rfl, _, rfl, ?_⟩
      by_cases hc : (n : Int) % z = 0
      · refine iteP (by rw [dec_int, hc]; rfl) ⟨_, rfl, g1 (decide_eq_true hc) H' (Same.refl _)⟩
      · refine iteN (by rw [dec_int]; simpa using hc) (g2 (decide_eq_false hc) H' (Same.refl _))
    · intro D H1 hD s1 hD'
      rw [filt_map _ (fun p => decide ((n : Int) % p = 0)) (fun _ => rfl)] at hD'
      refine ⟨_, rfl, D, rfl, ⟨_, .of hD'⟩, ?_⟩
      refine comp_filt (seq_lst (K := K) (.of hD')) [] rfl (fI noDiv) (fun y => y) ?_ ?_ ?_
      · rw [List.length_map]
        have := List.length_filter_le (fun p => decide ((n : Int) % p = 0)) (rngI 2 ((n : Int) + 1 - 2).toNat)
        rw [rngI_len] at this
        omega
      · intro i x H' hx s' R R' g1 g2
        obtain ⟨z, rfl, hz⟩ := mem_map_get hx
        obtain ⟨z1, z2⟩ := rngI_mem (List.mem_filter.mp hz).1
        refine ⟨_, rfl, 2, z, rfl, ⟨by decide, by decide, by omega, by omega⟩, ?_⟩
        refine comp_filt (seq_rng 2 (z - 2).toNat) [some (.int z)] rfl (fI fun k => decide (z % k = 0)) (fun y => y) (by rw [List.length_map, rngI_len]; omega) ?_ ?_
        · intro i2 x2 H2 hx2 s2 R2 R2' k1 k2
          obtain ⟨y, rfl, hy⟩ := mem_map_get hx2
          obtain ⟨y1, y2⟩ := rngI_mem hy
          refine ⟨_, rfl, _, rfl, _, _, rfl, rfl, (by show (0 : Int) < y; omega), rfl, _, rfl, ?_⟩
          by_cases hc : z % y = 0
          · refine iteP (by rw [dec_int, hc]; rfl) ⟨_, rfl, k1 (decide_eq_true hc) H2 (Same.refl _)⟩
          · refine iteN (by rw [dec_int]; simpa using hc) (k2 (decide_eq_false hc) H2 (Same.refl _))
        · intro D2 H3 hD2 s3 hD3
          rw [filt_map _ (fun k => decide (z % k = 0)) (fun _ => rfl)] at hD3
          refine ⟨Nat.zero_le _, fun e0 he0 => ⟨_, _, .lst (.of (Same.upd he0 _ _ hD3)) (RdDs.ints _), .lst (.of upd_same) .nil, shapedI _, rfl, _, rfl, ?_⟩⟩
          have e : PyData.eqv (.list ((List.filter (fun k => decide (z % k = 0)) (rngI 2 (z - 2).toNat)).map PyData.int)) (.list []) = noDiv z := by
            rw [eqvNil]
            unfold noDiv
            exact isEmpty_of_len (List.length_map ..)
          rw [e]
          refine ite2 (fun hc => ⟨_, rfl, g1 hc _ (s3.trans (Same.upd he0))⟩) (fun hc => g2 (show noDiv z = false by simpa using hc) _ (s3.trans (Same.upd he0)))
      · intro D2 H3 hD2 s3 hD3
        rw [filt_map _ noDiv (fun _ => rfl)] at hD3
        refine q D2 H3 (s1.trans s3) ?_
        rw [← (lawPr_eq n1 n60).1]
        exact hD3
end
end C4

set_option maxHeartbeats 4000000
namespace C4
open PySem L2 PySem.Spec PyProof.Rows
open Num
def spRow (K : PySem.W.Frag) : Sp := fun vs H Q _ => ∃ (n : Nat) (a : Addr) (ws : List Int), vs = [.int n, .ref a] ∧ 1 ≤ n ∧ n ≤ 60 ∧ (SqL K H a (ws.map V.int) ∨ SqT K H a (ws.map V.int)) ∧ ws.length ≤ 100000 ∧ ∀ l H', Same H H' → H' l = some (.lst ((foldL n ws).map V.int)) → Q (.ref l) H'
def spNou : Sp := fun vs H Q _ => ∃ (n : Nat) (r : Addr) (a : List Int), vs = [.int n, .ref r] ∧ 1 ≤ n ∧ n ≤ 60 ∧ H r = some (.lst (a.map V.int)) ∧ a.length = n ∧ (∀ k, k < n → lks n (steps n (primesM n)) (co a) k = 0) ∧ ∀ H', Same H H' → Q (.bl true) H'
def spAli (K : PySem.W.Frag) : Sp := fun vs H Q _ => ∃ (n : Nat) (a b : Addr) (ws : List Int), vs = [.int n, .ref a, .ref b] ∧ 1 ≤ n ∧ n ≤ 60 ∧ H a = some (.tup ((numL n (topN n) (RN n) ws).map V.int)) ∧ (SqL K H b (ws.map V.int) ∨ SqT K H b (ws.map V.int)) ∧ ws.length ≤ 100000 ∧ ∀ H', Same H H' → Q (.bl true) H'
theorem seqMono {K : PySem.W.Frag} {H H' : Hp} {a : Addr} {xs : List V} (s : Same H H') (h : SqL K H a xs ∨ SqT K H a xs) : SqL K H' a xs ∨ SqT K H' a xs := h.elim (fun h => .inl (s.seq h)) fun h => .inr (s.tup h)
theorem zeros_map (n : Nat) : ((rngI 0 n).map V.int).map (fun _ => V.int 0) = (List.replicate n (0 : Int)).map V.int := by
  unfold rngI
  rw [List.map_map, List.map_map, List.map_replicate]
  show ((List.range n).map fun _ => V.int 0) = _
  rw [List.map_const', List.length_range]
theorem modI {n k m : Nat} (hn : 0 < n) (hm : m ≤ n) : ((k : Int) - (m : Int)) % (n : Int) = (((k + (n - m)) % n : Nat) : Int) := by
  have e : (k : Int) - (m : Int) = ((k + (n - m) : Nat) : Int) + (-1) * (n : Int) := by omega
  rw [e, Int.add_mul_emod_self_right]
  omega
section
variable {P : Program} {w : World} {K : PySem.W.Frag} {mg : Str → Option Value} {base : Heap}
theorem scRow : FnScope ["_law_n", "_law_powers", "_law_k", "_law_row_here"] ["_law_n", "_law_powers"] (defScope sRow) := ⟨rfl, rfl, rfl, by decide +kernel, rfl, by decide +kernel, by decide +kernel⟩
theorem ok_row {f : Addr} {fd : FuncData} (F : Fun K "_law_row" "_law_row" sRow f fd) (T : Bl mg) : FnOk P w K mg base CX0 1 f fd ["_law_n", "_law_powers"] (spRow K) := by
  refine F.ok scRow (fun vs H Q E h => ?_) (fun cdv A outer s H vs Q E hr h => ?_)
  · obtain ⟨n, a, ws, rfl, _⟩ := h; rfl
  · obtain ⟨n, a, ws, rfl, n1, n60, hS, hwl, q⟩ := h
    refine ⟨_, pss_cons (setc 3 ["_law_k"] [] ["_law_k"] rfl rfl (rng1 T.range (pc (vn 0) pa_nil)) (fun _ _ _ _ _ => gn 0) (fun _ _ _ _ _ => pif_nil) (fun _ _ _ _ _ => pe_int))
      (pss_cons (ps_for PassesOwn.never rfl (rng1 T.range (pc (cb (lenK K) T.len (pc (vn 1) pa_nil)) pa_nil)) (gn 2)
        (pss_one (ps_asg (pe_op op_add (pe_ix (ixL K) (vn 3) (pe_op op_mod (vn 2) (vn 0)) (fun _ _ => rfl)) (pe_ix (ixS K) (vn 1) (vn 2) (fun _ _ => rfl))) (pg_sub (vn 3) (pe_op op_mod (vn 2) (vn 0)) set_list))))
      (pss_one (ps_ret (vn 3)))), ?_⟩
    refine ⟨_, rfl, n, rfl, by omega, by omega, ?_⟩
    refine comp_map (seq_rng 0 (n : Int).toNat) [] rfl (fun _ => .int 0) (by rw [List.length_map, rngI_len]; omega) (fun i x H' hx s' R g => g H' (Same.refl _)) (fun l H1 nl s1 hl => ?_)
    rw [Int.toNat_natCast, zeros_map] at hl
    refine ⟨_, rfl, a, _, rfl, seqMono s1 hS, _, rfl, by omega, by rw [List.length_map]; omega, ?_⟩
    rw [Int.toNat_natCast, List.length_map]
    refine for_range (fun i σ' H' => ∃ (cur : List Int) (v2 : Option V), σ' = [some (.int n), some (.ref a), v2, some (.ref l)] ∧ Same H H' ∧ H' l = some (.lst (cur.map V.int)) ∧ cur.length = n ∧ foldN n (ws.drop i) i cur = foldL n ws)
      ⟨_, _, rfl, s1, hl, List.length_replicate .., rfl⟩ ?_ ?_
    · rintro i σ' H' hi ⟨cur, v2, rfl, sm, hl', hcl, hfo⟩
      rw [show (0 : Int) + (i : Int) = (i : Int) by omega]
      have him : i % n < cur.length := by rw [hcl]; exact Nat.mod_lt _ n1
      have eM : V.int ((i : Int) % (n : Int)) = V.int ((i % n : Nat) : Int) := congrArg V.int (by omega)
      have eA : atI (cur.map V.int) ((i : Int) % (n : Int)) = some (.int (co cur (i % n))) := by
        rw [show (i : Int) % (n : Int) = ((i % n : Nat) : Int) by omega]
        exact get_map him
      refine ⟨_, rfl, _, rfl, _, rfl, _, _, rfl, rfl, (by show (0 : Int) < n; omega), l, _, _, _, rfl, rfl, .of hl', eA, _, rfl, _, rfl, a, _, _, _, rfl, rfl, seqMono sm hS, get_map hi, _, _, rfl, rfl, _, rfl, _, rfl, _, rfl, _, _, rfl, rfl, (by show (0 : Int) < n; omega), l, _, _, i % n, rfl, eM, hl', ?_, ?_⟩
      · rw [List.length_map]; exact ixN_nat him
      · refine ⟨cur.set (i % n) (co cur (i % n) + co ws i), _, rfl, sm.updr nl, ?_, ?_, ?_⟩
        · rw [upd_same, set_map]
        · rw [List.length_set]; exact hcl
        · rw [← hfo, drop_co hi, Num.foldN]
    · rintro σ' H' ⟨cur, v2, rfl, sm, hl', hcl, hfo⟩
      rw [List.drop_length, Num.foldN] at hfo
      rw [hfo] at hl'
      exact ⟨_, rfl, q l H' sm hl'⟩
theorem scNou : FnScope ["_law_n", "_law_row_here", "_law_p"] ["_law_n", "_law_row_here"] (defScope sNou) := ⟨rfl, rfl, rfl, by decide +kernel, rfl, by decide +kernel, by decide +kernel⟩
def nxRow (n : Nat) (b : List Int) (s : Nat) : List Int := (List.range n).map fun k => co b k - co b ((k + (n - s)) % n)
theorem nxRow_co {n : Nat} {b : List Int} {s k : Nat} (h : k < n) : co (nxRow n b s) k = lk n s (co b) k := by
  unfold nxRow co
  rw [List.getD_eq_getElem?_getD, List.getElem?_map, List.getElem?_range h]
  rfl
def fRow (n : Nat) (b : List Int) (s : Nat) : V → V
  | .int z => .int (co b z.toNat - co b ((z.toNat + (n - s)) % n))
  | y => y
theorem fRow_map (n : Nat) (b : List Int) (s : Nat) : ((rngI 0 n).map V.int).map (fRow n b s) = (nxRow n b s).map V.int := by
  unfold rngI nxRow
  rw [List.map_map, List.map_map, List.map_map]
  refine List.map_congr_left fun k hk => ?_
  show fRow n b s (.int (0 + (k : Int))) = V.int (co b k - co b ((k + (n - s)) % n))
  rw [show (0 : Int) + (k : Int) = (k : Int) by omega]
  show V.int (co b (k : Int).toNat - co b (((k : Int).toNat + (n - s)) % n)) = _
  rw [Int.toNat_natCast]
theorem ok_nou {f : Addr} {fd : FuncData} (F : Fun K "_law_is_nought" "_law_is_nought" sNou f fd) (T : Bl mg) (GP : Fn P w K mg base CX0 1 "_law_primes" ["_law_n"] spPrimes) : FnOk P w K mg base CX0 2 f fd ["_law_n", "_law_row_here"] spNou := by
  refine F.ok scNou (fun vs H Q E h => ?_) (fun cdv A outer s H vs Q E hr h => ?_)
  · obtain ⟨n, r, a, rfl, _⟩ := h; rfl
  · obtain ⟨n, r, a, rfl, n1, n60, hr0, hal, hz, q⟩ := h
    refine ⟨_, pss_cons (ps_for PassesOwn.never rfl (itL K (fnc GP hr pass0 (pc (vn 0) pa_nil))) (gnf 2 rfl)
        (pss_one (sset 1 rfl (cmp ["_law_k"] [0, 1, 2] ["_law_k", "_law_n", "_law_row_here", "_law_p"] rfl (rng1 T.range (pc (vn 0) pa_nil)) (fun _ _ _ _ _ => gn 0) (fun _ _ _ _ _ => pif_nil)
          (fun _ _ _ _ _ => pe_op op_sub (pe_ix (ixL K) (vn 2) (vn 0) (fun _ _ => rfl)) (pe_ix (ixL K) (vn 2) (pe_op op_mod (pe_op op_sub (vn 0) (pe_op op_fdiv (vn 1) (vn 3))) (vn 1)) (fun _ _ => rfl)))))))
      (pss_one (ps_ret (pe_cmpR (eqDK K hr.units) (vn 1) (cmp ["_law_k"] [] ["_law_k"] rfl (rng1 T.range (pc (vn 0) pa_nil)) (fun _ _ _ _ _ => gn 0) (fun _ _ _ _ _ => pif_nil) (fun _ _ _ _ _ => pe_int)) (nomark _)))), ?_⟩
    refine ⟨_, rfl, n, rfl, n1, n60, fun lp H1 s1 hp => ⟨lp, rfl, ⟨_, .of hp⟩, ?_⟩⟩
    obtain ⟨_, hps, _⟩ := okN_of n1 n60
    refine for_seq (seq_lst (K := K) (.of hp)) (fun i σ' H' => ∃ (b : List Int) (r' : Addr) (v2 : Option V), σ' = [some (.int n), some (.ref r'), v2] ∧ Same H1 H' ∧ H' r' = some (.lst (b.map V.int)) ∧ b.length = n ∧ ∀ k, k < n → co b k = lks n ((steps n (primesM n)).take i) (co a) k)
      ⟨a, r, _, rfl, Same.refl _, s1 _ _ hr0, hal, fun k hk => rfl⟩ (fun i σ' H' h => h.choose_spec.choose_spec.choose_spec.2.1) ?_ ?_
    · rintro i x σ' H' hx ⟨b, r', v2, rfl, sm, hb, hbl, hco⟩
      obtain ⟨hi, rfl⟩ := map_get hx
      generalize hpp : co (primesM n) i = p at *
      have hpm : p ∈ primesM n := by
        rw [← hpp]
        exact List.mem_of_getElem? (co_get hi)
      obtain ⟨p2, p60⟩ := hps p hpm
      refine ⟨_, rfl, n, rfl, by omega, by omega, ?_⟩
      have hs : n / p.toNat ≤ n := Nat.div_le_self _ _
      have eD : (n : Int) / p = ((n / p.toNat : Nat) : Int) := (congrArg (fun x : Int => (n : Int) / x) (show p = ((p.toNat : Nat) : Int) by omega)).trans rfl
      refine comp_map (seq_rng 0 (n : Int).toNat) [some (.int n), some (.ref r'), some (.int p)] rfl (fRow n b (n / p.toNat)) (by rw [List.length_map, rngI_len]; omega) (fun j x H2 hx2 s2 R g => ?_) (fun l H2 nl s2 hl => ?_)
      · obtain ⟨z, rfl, hz2⟩ := mem_map_get hx2
        obtain ⟨z1, z2⟩ := rngI_mem hz2
        obtain ⟨k, rfl⟩ := Int.eq_ofNat_of_zero_le z1
        have hk : k < n := by omega
        have hb2 := s2 _ _ hb
        have hm : (k + (n - n / p.toNat)) % n < b.length := by rw [hbl]; exact Nat.mod_lt _ n1
        refine ⟨_, rfl, _, rfl, r', _, _, _, rfl, rfl, .of hb2, get_map (by omega), _, rfl, _, rfl, _, rfl, _, rfl, _, _, rfl, rfl, ⟨by omega, by omega⟩, _, _, rfl, rfl, _, rfl, _, _, rfl, rfl, (by show (0 : Int) < n; omega), r', _, _, .int (co b ((k + (n - n / p.toNat)) % n)), rfl, rfl, .of hb2, ?_, _, _, rfl, rfl, ?_⟩
        · rw [eD, modI n1 hs]
          exact get_map hm
        · have := g H2 (Same.refl _)
          show R (.int (co b k - co b ((k + (n - n / p.toNat)) % n))) H2
          have e : fRow n b (n / p.toNat) (.int (k : Int)) = V.int (co b k - co b ((k + (n - n / p.toNat)) % n)) := by
            show V.int (co b (k : Int).toNat - co b (((k : Int).toNat + (n - n / p.toNat)) % n)) = _
            rw [Int.toNat_natCast]
          rw [← e]
          exact this
      · rw [Int.toNat_natCast, fRow_map] at hl
        refine ⟨nxRow n b (n / p.toNat), l, _, rfl, sm.trans s2, hl, ?_, fun k hk => ?_⟩
        · unfold nxRow; rw [List.length_map, List.length_range]
        · rw [nxRow_co hk]
          have hst : (steps n (primesM n))[i]? = some (n / p.toNat) := by
            unfold steps
            rw [List.getElem?_map, co_get hi, hpp]
            rfl
          have ht : (steps n (primesM n)).take (i + 1) = (steps n (primesM n)).take i ++ [n / p.toNat] := by
            rw [List.take_succ, hst]
            rfl
          rw [ht]
          unfold lks
          rw [List.foldl_append]
          show lk n (n / p.toNat) (co b) k = lk n (n / p.toNat) (lks n ((steps n (primesM n)).take i) (co a)) k
          unfold lk
          rw [hco k hk, hco _ (Nat.mod_lt _ n1)]
    · rintro σ' H' ⟨b, r', v2, rfl, sm, hb, hbl, hco⟩
      rw [List.length_map] at hco
      have hz2 : b = List.replicate n 0 := by
        refine ext_co (by rw [hbl, List.length_replicate]) fun k hk => ?_
        rw [hbl] at hk
        rw [hco k hk]
        have : (steps n (primesM n)).take (primesM n).length = steps n (primesM n) := List.take_of_length_le (by unfold steps; rw [List.length_map]; exact Nat.le_refl _)
        rw [this, hz k hk]
        unfold co
        rw [List.getD_eq_getElem?_getD, List.getElem?_replicate, if_pos hk]
        rfl
      refine ⟨_, rfl, _, rfl, n, rfl, by omega, by omega, ?_⟩
      refine comp_map (seq_rng 0 (n : Int).toNat) [] rfl (fun _ => .int 0) (by rw [List.length_map, rngI_len]; omega) (fun i x H2 hx s' R g => g H2 (Same.refl _)) (fun l H2 nl s2 hl => ?_)
      rw [Int.toNat_natCast, zeros_map] at hl
      rw [hz2] at hb
      refine ⟨_, _, .lst (.of (s2 _ _ hb)) (RdDs.ints _), .lst (.of hl) (RdDs.ints _), shapedI _, shapedI _, ?_⟩
      have e : PyData.eqv (.list ((List.replicate n (0 : Int)).map PyData.int)) (.list ((List.replicate n (0 : Int)).map PyData.int)) = true := by
        have all : ((List.range 61).all fun n => PyData.eqv (.list ((List.replicate n (0 : Int)).map PyData.int)) (.list ((List.replicate n (0 : Int)).map PyData.int))) = true := by decide +kernel
        exact List.all_eq_true.mp all n (List.mem_range.mpr (by omega))
      rw [e]
      exact q H2 ((s1.trans sm).trans s2)
end
end C4

set_option maxHeartbeats 4000000
namespace C4
open PySem L2 PySem.Spec PyProof.Rows
open Num
def dRow (n : Nat) (a b : List Int) : List Int := (List.range n).map fun k => co a k - co b k
theorem dRow_co {n : Nat} {a b : List Int} {k : Nat} (h : k < n) : co (dRow n a b) k = co a k - co b k := by
  unfold dRow co
  rw [List.getD_eq_getElem?_getD, List.getElem?_map, List.getElem?_range h]
  rfl
def fD (a b : List Int) : V → V
  | .int z => .int (co a z.toNat - co b z.toNat)
  | y => y
theorem fD_map (n : Nat) (a b : List Int) : ((rngI 0 n).map V.int).map (fD a b) = (dRow n a b).map V.int := by
  unfold rngI dRow
  rw [List.map_map, List.map_map, List.map_map]
  refine List.map_congr_left fun k hk => ?_
  show fD a b (.int (0 + (k : Int))) = V.int (co a k - co b k)
  rw [show (0 : Int) + (k : Int) = (k : Int) by omega]
  show V.int (co a (k : Int).toNat - co b (k : Int).toNat) = _
  rw [Int.toNat_natCast]
def spSame (K : PySem.W.Frag) : Sp := fun vs H Q _ => ∃ (p a : Addr) (n : Nat) (ws : List Int) (B : Nat), vs = [.ref p, .int n, .ref a] ∧ Feed H p ∧ 1 ≤ n ∧ n ≤ 60 ∧ H a = some (.lst (ws.map V.int)) ∧ a ≠ p ∧ ws.length ≤ 300 ∧ (∀ x ∈ ws, x.natAbs ≤ B) ∧
  ∀ l H' (cur : List Int), Dr p H H' → H l = none → H' l = some (.lst (cur.map V.int)) → cur.length ≤ 1000 → (∀ x ∈ cur, x.natAbs ≤ B + 1000) → (∀ j, sig n (RN n) j cur 0 = sig n (RN n) j ws 0) → Q (.ref l) H'
section
variable {P : Program} {w : World} {K : PySem.W.Frag} {mg : Str → Option Value} {base : Heap}
theorem scAli : FnScope ["_law_n", "_law_one", "_law_other", "_law_first", "_law_second"] ["_law_n", "_law_one", "_law_other"] (defScope sAli) := ⟨rfl, rfl, rfl, by decide +kernel, rfl, by decide +kernel, by decide +kernel⟩
theorem ok_ali {f : Addr} {fd : FuncData} (F : Fun K "_law_is_alike" "_law_is_alike" sAli f fd) (T : Bl mg) (GR : Fn P w K mg base CX0 1 "_law_row" ["_law_n", "_law_powers"] (spRow K)) (GN : Fn P w K mg base CX0 2 "_law_is_nought" ["_law_n", "_law_row_here"] spNou) :
    FnOk P w K mg base CX0 3 f fd ["_law_n", "_law_one", "_law_other"] (spAli K) := by
  refine F.ok scAli (fun vs H Q E h => ?_) (fun cdv A outer s H vs Q E hr h => ?_)
  · obtain ⟨n, a, b, ws, rfl, _⟩ := h; rfl
  · obtain ⟨n, a, b, ws, rfl, n1, n60, hA, hB, hwl, q⟩ := h
    obtain ⟨G, _⟩ := goodN n1 n60
    refine ⟨_, pss_cons (sset 3 rfl (fnc GR hr pass0 (pc (vn 0) (pc (vn 1) pa_nil)))) (pss_cons (sset 4 rfl (fnc GR hr pass0 (pc (vn 0) (pc (vn 2) pa_nil))))
      (pss_one (ps_ret (fnc GN hr pass0 (pc (vn 0) (pc (cmp ["_law_k"] [3, 4] ["_law_k", "_law_first", "_law_second"] rfl (rng1 T.range (pc (vn 0) pa_nil)) (fun _ _ _ _ _ => gn 0) (fun _ _ _ _ _ => pif_nil)
        (fun _ _ _ _ _ => pe_op op_sub (pe_ix (ixL K) (vn 1) (vn 0) (fun _ _ => rfl)) (pe_ix (ixL K) (vn 2) (vn 0) (fun _ _ => rfl)))) pa_nil)))))), ?_⟩
    have tn := G.tn
    refine ⟨_, rfl, _, rfl, n, a, _, rfl, n1, n60, .inr (.of hA), by rw [numL_len]; omega, fun l1 H1 s1 h1 => ?_⟩
    refine ⟨_, rfl, _, rfl, n, b, _, rfl, n1, n60, seqMono s1 hB, hwl, fun l2 H2 s2 h2 => ?_⟩
    refine ⟨_, rfl, _, rfl, n, rfl, by omega, by omega, ?_⟩
    refine comp_map (seq_rng 0 (n : Int).toNat) [some (.ref l1), some (.ref l2)] rfl (fD (foldL n (numL n (topN n) (RN n) ws)) (foldL n ws)) (by rw [List.length_map, rngI_len]; omega) (fun j x H3 hx s3 R g => ?_) (fun l H3 nl s3 hl => ?_)
    · obtain ⟨z, rfl, hz⟩ := mem_map_get hx
      obtain ⟨z1, z2⟩ := rngI_mem hz
      obtain ⟨k, rfl⟩ := Int.eq_ofNat_of_zero_le z1
      have hk : k < n := by omega
      refine ⟨_, rfl, _, rfl, l1, _, _, _, rfl, rfl, .of (s3 _ _ (s2 _ _ h1)), get_map (by rw [foldL_len]; exact hk), _, rfl, _, rfl, l2, _, _, _, rfl, rfl, .of (s3 _ _ h2), get_map (by rw [foldL_len]; exact hk), _, _, rfl, rfl, ?_⟩
      have := g H3 (Same.refl _)
      have e : fD (foldL n (numL n (topN n) (RN n) ws)) (foldL n ws) (.int (k : Int)) = V.int (co (foldL n (numL n (topN n) (RN n) ws)) k - co (foldL n ws) k) := by
        show V.int (co _ (k : Int).toNat - co _ (k : Int).toNat) = _
        rw [Int.toNat_natCast]
      rw [e] at this
      exact this
    · rw [Int.toNat_natCast, fD_map] at hl
      refine ⟨n, l, _, rfl, n1, n60, hl, by unfold dRow; rw [List.length_map, List.length_range], fun k hk => ?_, fun H4 s4 => q H4 (((s1.trans s2).trans s3).trans s4)⟩
      rw [← look_num G ws k hk]
      exact lks_congr n n1 _ _ _ (fun t ht => dRow_co ht) k hk
theorem scIs : FnScope ["_law_n", "_law_found", "_law_powers"] ["_law_n", "_law_found", "_law_powers"] (defScope sIs) := ⟨rfl, rfl, rfl, by decide +kernel, rfl, by decide +kernel, by decide +kernel⟩
theorem ok_is {f : Addr} {fd : FuncData} (F : Fun K "_law_is" "_law_is" sIs f fd) (GI : Fn P w K mg base CX0 3 "_law_is_number" ["_law_n", "_law_thing"] (spNum K)) (GA : Fn P w K mg base CX0 3 "_law_is_alike" ["_law_n", "_law_one", "_law_other"] (spAli K)) :
    FnOk P w K mg base CX0 4 f fd ["_law_n", "_law_found", "_law_powers"] (spAli K) := by
  refine F.ok scIs (fun vs H Q E h => ?_) (fun cdv A outer s H vs Q E hr h => ?_)
  · obtain ⟨n, a, b, ws, rfl, _⟩ := h; rfl
  · obtain ⟨n, a, b, ws, rfl, n1, n60, hA, hB, hwl, q⟩ := h
    obtain ⟨G, ht⟩ := goodN n1 n60
    have tn := G.tn
    refine ⟨_, pss_one (ps_ret (pe_and (fnc GI hr pass0 (pc (vn 0) (pc (vn 1) pa_nil))) (pe_one (fnc GA hr pass0 (pc (vn 0) (pc (vn 1) (pc (vn 2) pa_nil))))))), ?_⟩
    refine ⟨_, rfl, _, rfl, n, .ref a, _, rfl, n1, n60, .tup hA (by rw [List.length_map, numL_len]; omega) el_ints, fun H1 s1 => ⟨_, rfl, ?_⟩⟩
    have e : numB (some ((numL n (topN n) (RN n) ws).map V.int)) (phiM n) = true := by
      rw [numB_some, List.length_map, numL_len, ht, Bool.and_eq_true]
      refine ⟨decide_eq_true rfl, List.all_eq_true.mpr fun y hy => ?_⟩
      obtain ⟨z, _, rfl⟩ := List.mem_map.mp hy
      rfl
    rw [e]
    refine iteT ?_
    exact ⟨_, rfl, _, rfl, _, rfl, n, a, b, ws, rfl, n1, n60, s1 _ _ hA, seqMono s1 hB, hwl, fun H2 s2 => q H2 (s1.trans s2)⟩
end
end C4

namespace Num
section
variable {n top : Nat} {least : List Int} {R : List (List Int)} {ps : List Int}
def prod (n top : Nat) (R : List (List Int)) (xs ys : List Int) : List Int := numL n top R (mulM xs ys)
end
end Num

namespace Num
section
variable {n top : Nat} {least : List Int} {R : List (List Int)} {ps : List Int}
def trn (n top : Nat) (R : List (List Int)) (u : Int) (xs : List Int) : List Int := numL n top R (trnL n u xs)
theorem trn_len (u : Int) (xs : List Int) : (trn n top R u xs).length = top := numL_len ..
theorem trn_co (hn : 0 < n) {u : Int} {xs : List Int} {j : Nat} (hj : j < top) : co (trn n top R u xs) j = sumF xs.length fun a => co xs a * rh n R (a * (u % (n : Int)).toNat) j := by
  unfold trn
  rw [co_numL hj, sig_trnL n hn, tsig_sum]
  refine sumF_congr _ _ _ fun a _ => ?_
  rw [Nat.zero_add, ti_mod hn]
  rfl
end
end Num

namespace Num
/-- the rows of n at the powers of another round m, h times as far -/
def TP2 (n top : Nat) (R : List (List Int)) (m : Nat) (R' : List (List Int)) (h : Nat) : Prop := ∀ k j, sumF top (fun i => rh n R k i * rh m R' (i * h) j) = rh m R' (k * h) j
section
variable {n top : Nat} {least : List Int} {R : List (List Int)} {ps : List Int} {m top' : Nat} {least' : List Int} {R' : List (List Int)} {ps' : List Int}
theorem TP2_of (G : Good n ps least top R) (P : Per n top least R) (P' : Per m top' least' R') (h : Nat) (C : ∀ j, sumF (top + 1) (fun i => co least i * rh m R' (i * h) j) = 0) : TP2 n top R m R' h := by
  have t1 := G.t1
  have tn := G.tn
  have hn : 0 < n := by omega
  intro k
  induction k with
  | zero =>
    intro j
    have u0 : ∀ i, i < top → rh n R 0 i = if i = 0 then 1 else 0 := fun i hi => by
      unfold rh
      rw [Nat.zero_mod, G.un 0 (by omega), co_unit hi]
    rw [sumF_one top 0 _ (by omega) fun t ht hne => by rw [u0 t ht, if_neg hne, Int.zero_mul], u0 0 (by omega), if_pos rfl, Int.one_mul]
  | succ k ih =>
    intro j
    obtain ⟨s, rfl⟩ : ∃ s, top = s + 1 := ⟨top - 1, by omega⟩
    have e1 : sumF (s + 1) (fun i => rh n R (k + 1) i * rh m R' (i * h) j) = sumF (s + 1) (fun i => (if i = 0 then 0 else rh n R k (i - 1)) * rh m R' (i * h) j) - sumF (s + 1) fun i => rh n R k s * (co least i * rh m R' (i * h) j) := by
      rw [← sumF_sub]
      refine sumF_congr _ _ _ fun i hi => ?_
      rw [rh_next P k i, Nat.add_sub_cancel]
      have ce : co (least.take (s + 1)) i = co least i := by
        unfold co
        rw [List.getD_eq_getElem?_getD, List.getD_eq_getElem?_getD, List.getElem?_take, if_pos hi]
      rw [ce, Int.sub_mul, Int.mul_assoc]
      by_cases h0 : i = 0
      · rw [if_pos (.inl h0), if_pos h0]
      · rw [if_neg (by omega), if_neg h0]
    have e2 : sumF (s + 1) (fun i => (if i = 0 then 0 else rh n R k (i - 1)) * rh m R' (i * h) j) = sumF s fun i => rh n R k i * rh m R' (i * h + h) j := by
      rw [sumF, if_pos rfl, Int.zero_mul, Int.zero_add]
      refine sumF_congr _ _ _ fun i hi => ?_
      rw [if_neg (by omega), Nat.add_sub_cancel, Nat.succ_mul]
    have e3 : sumF (s + 1) (fun i => co least i * rh m R' (i * h) j) = - rh m R' (s * h + h) j := by
      have := C j
      rw [sumF_last, G.mon, Int.one_mul, Nat.succ_mul] at this
      omega
    have sh := shiftN P' (s + 1) (rh n R k) (fun i => i * h) (k * h) ih h j
    rw [sumF_last] at sh
    rw [e1, e2, ← sumF_mul, e3, Nat.succ_mul, ← sh, Int.mul_neg]
    omega
end
end Num

namespace Num
def lsum (f : Nat → Int) : List Nat → Int
  | [] => 0
  | h :: hs => f h + lsum f hs
theorem lsum_const (c : Int) : ∀ (U : List Nat), lsum (fun _ => c) U = (U.length : Int) * c
  | [] => by rw [lsum, List.length_nil]; exact (Int.zero_mul c).symm
  | h :: hs => by rw [lsum, lsum_const c hs, List.length_cons]; push_cast; rw [Int.add_mul, Int.one_mul, Int.add_comm]
section
variable {n top : Nat} {R : List (List Int)} {U : List Nat}
end
end Num

namespace Num
section
variable {n top : Nat} {least : List Int} {R : List (List Int)} {ps : List Int}
theorem trn_coN (hn : 0 < n) {h : Nat} {xs : List Int} {j : Nat} (hj : j < top) : co (trn n top R (h : Int) xs) j = sumF xs.length fun a => co xs a * rh n R (a * h) j := by
  rw [trn_co hn hj]
  refine sumF_congr _ _ _ fun a _ => ?_
  have e : ((h : Int) % (n : Int)).toNat = h % n := by omega
  rw [e, rh_mod (k := a * (h % n)) (k' := a * h) (by rw [Nat.mul_mod, Nat.mod_mod, ← Nat.mul_mod])]
/-- the product of the turnings, one behind another -/
def norm (n top : Nat) (R : List (List Int)) (x : List Int) (U : List Nat) (acc : List Int) : List Int := U.foldl (fun (acc : List Int) (h : Nat) => prod n top R acc (trn n top R (h : Int) x)) acc
end
end Num

namespace Num
/-! lists without twins, moved about -/
theorem perm_sub {α : Type} [DecidableEq α] : ∀ (l m : List α), l.Nodup → (∀ x ∈ l, x ∈ m) → m.length ≤ l.length → l.Perm m
  | [], m, _, _, h => by
    cases m with
    | nil => exact List.Perm.refl _
    | cons x m => exact absurd h (Nat.not_succ_le_zero _)
  | x :: l, m, nd, hs, h => by
    have hx : x ∈ m := hs x (List.mem_cons_self ..)
    have nd' := List.nodup_cons.mp nd
    have p := List.perm_cons_erase hx
    refine (List.Perm.cons x (perm_sub l (m.erase x) nd'.2 (fun y hy => ?_) ?_)).trans p.symm
    · refine (List.mem_erase_of_ne ?_).mpr (hs y (List.mem_cons_of_mem _ hy))
      rintro rfl
      exact nd'.1 hy
    · rw [List.length_erase_of_mem hx]
      rw [List.length_cons] at h
      omega
theorem perm_map {U : List Nat} {f : Nat → Nat} (nd : U.Nodup) (hf : ∀ h ∈ U, f h ∈ U) (inj : ∀ h ∈ U, ∀ k ∈ U, f h = f k → h = k) : (U.map f).Perm U := by
  refine perm_sub _ _ ?_ (fun x hx => ?_) (by rw [List.length_map]; exact Nat.le_refl _)
  · clear hf
    induction U with
    | nil => exact List.nodup_nil
    | cons x U ih =>
      have nd' := List.nodup_cons.mp nd
      rw [List.map_cons, List.nodup_cons]
      refine ⟨fun z => ?_, ih nd'.2 fun h hh k hk => inj h (List.mem_cons_of_mem _ hh) k (List.mem_cons_of_mem _ hk)⟩
      obtain ⟨y, hy, e⟩ := List.mem_map.mp z
      have := inj y (List.mem_cons_of_mem _ hy) x (List.mem_cons_self ..) e
      rw [this] at hy
      exact nd'.1 hy
  · obtain ⟨y, hy, rfl⟩ := List.mem_map.mp hx
    exact hf y hy
theorem lsum_map (g : Nat → Nat) (f : Nat → Int) : ∀ U : List Nat, lsum f (U.map g) = lsum (fun h => f (g h)) U
  | [] => rfl
  | h :: hs => by rw [List.map_cons, lsum, lsum, lsum_map g f hs]
theorem lsum_perm (f : Nat → Int) {U V : List Nat} (p : U.Perm V) : lsum f U = lsum f V := by
  induction p with
  | nil => rfl
  | cons x _ ih => rw [lsum, lsum, ih]
  | swap x y l => rw [lsum, lsum, lsum, lsum]; omega
  | trans _ _ a b => rw [a, b]
/-- the units of n, as a list -/
structure Uni (n : Nat) (U : List Nat) : Prop where
  n2 : 2 ≤ n
  nd : U.Nodup
  inv : ∀ h ∈ U, ∃ v, h * v % n = 1
  lt : ∀ h ∈ U, h < n
  cl : ∀ h ∈ U, ∀ k ∈ U, h * k % n ∈ U
section
variable {n top : Nat} {least : List Int} {R : List (List Int)} {ps : List Int} {U : List Nat}
def one (top : Nat) : List Int := 1 :: List.replicate (top - 1) 0
def zer (top : Nat) : List Int := 0 :: List.replicate (top - 1) 0
theorem zer_len (t1 : 1 ≤ top) : (zer top).length = top := by unfold zer; rw [List.length_cons, List.length_replicate]; omega
theorem co_rep (m i : Nat) : co (List.replicate m (0 : Int)) i = 0 := by
  unfold co
  rw [List.getD_eq_getElem?_getD, List.getElem?_replicate]
  split <;> rfl
theorem zer_co (i : Nat) : co (zer top) i = 0 := by
  unfold zer
  cases i with
  | zero => rw [co_zero]
  | succ i => rw [co_succ, co_rep]
/-- the sum of the turnings -/
def addT (n top : Nat) (R : List (List Int)) (x : List Int) (U : List Nat) (acc : List Int) : List Int := U.foldl (fun (acc : List Int) (h : Nat) => List.zipWith (· + ·) acc (trn n top R (h : Int) x)) acc
/-! the powers of the root -/
def pw (k : Nat) : List Int := List.replicate k 0 ++ [1]
end
/-! the checks by force -/
def sB (n d : Nat) (R : List (List Int)) : List Nat → List Int → Bool
  | [], acc => allZ acc.tail
  | h :: hs, acc => fNat (d * h % n) fun k => fL (vadd acc (ro R k)) fun acc' => sB n d R hs acc'
theorem sB_of (n d : Nat) (R : List (List Int)) : ∀ (U : List Nat) (acc : List Int), sB n d R U acc = true → ∀ j, 1 ≤ j → co acc j + lsum (fun h => rh n R (d * h) j) U = 0
  | [], acc, q, j, j1 => by
    rw [lsum, Int.add_zero]
    obtain ⟨i, rfl⟩ : ∃ i, j = i + 1 := ⟨j - 1, by omega⟩
    rw [← co_tail]
    exact co_allZ q i
  | h :: hs, acc, q, j, j1 => by
    rw [sB, fNat_eq, fL_eq] at q
    have := sB_of n d R hs _ q j j1
    rw [co_vadd, Int.add_assoc] at this
    rw [lsum]
    exact this
def kchk (pr : Nat → List Int) (U : List Nat) (n : Nat) : Bool := fL (leastM n (pr n)) fun least => fNat (least.length - 1) fun top => fL (unit top 0) fun u0 => rowsK least top n u0 fun R =>
  (List.range n).all fun i => fNat (i + 1) fun d => (decide (i = 0) || !decide (ro R i = u0)) && (decide (n % d ≠ 0) || (sB n d R U [] && fL (leastM d (pr d)) fun ls => tB n (n / d) R ls 0 []))
theorem kchk_of {pr : Nat → List Int} {U : List Nat} {n : Nat} (hh : kchk pr U n = true) : (∀ k, 1 ≤ k → k < n → ro (RT n (pr n)) k ≠ unit ((leastM n (pr n)).length - 1) 0) ∧ ∀ d, 1 ≤ d → n % d = 0 → d ≤ n →
    (∀ j, 1 ≤ j → lsum (fun h => rh n (RT n (pr n)) (d * h) j) U = 0) ∧ ∀ j, sumF (leastM d (pr d)).length (fun i => co (leastM d (pr d)) i * rh n (RT n (pr n)) (i * (n / d)) j) = 0 := by
  unfold kchk at hh
  rw [fL_eq, fNat_eq, fL_eq, rowsK_eq] at hh
  refine ⟨fun k k1 k2 => ?_, fun d d1 d2 d3 => ?_⟩
  · have := List.all_eq_true.mp hh k (List.mem_range.mpr k2)
    rw [fNat_eq, Bool.and_eq_true] at this
    have := this.1
    rw [decide_eq_false (show ¬ k = 0 by omega), Bool.false_or] at this
    have := of_decide_eq_false (by simpa using this)
    exact this
  · have := List.all_eq_true.mp hh (d - 1) (List.mem_range.mpr (by omega))
    rw [fNat_eq, Bool.and_eq_true, show d - 1 + 1 = d by omega] at this
    have := this.2
    rw [decide_eq_false (show ¬ n % d ≠ 0 by omega), Bool.false_or, Bool.and_eq_true, fL_eq] at this
    refine ⟨fun j j1 => ?_, fun j => ?_⟩
    · have := sB_of n d _ U [] this.1 j j1
      rw [co_nil, Int.zero_add] at this
      exact this
    · have := tB_of n (n / d) _ _ 0 [] (by rw [Nat.zero_mul, Nat.zero_mod]; exact this.2) j
      rw [co_nil, Int.zero_add] at this
      rw [← this]
      refine sumF_congr _ _ _ fun t _ => ?_
      rw [Nat.zero_add]
      rfl
end Num

set_option maxHeartbeats 4000000
namespace C4
open PySem L2
open Num
def fLN {β : Type} : List Nat → (List Nat → β) → β
  | [], k => k []
  | x :: xs, k => fNat x fun y => fLN xs fun ys => k (y :: ys)
theorem fLN_eq {β : Type} : ∀ (a : List Nat) (k : List Nat → β), fLN a k = k a
  | [], k => rfl
  | x :: xs, k => by rw [fLN, fNat_eq, fLN_eq xs]
def unN (n : Nat) : List Nat := ((List.range n).map (· + 1)).filter fun k => decide (Nat.gcd k n = 1)
def prN (n : Nat) : List Int := primesM n
def kc (n : Nat) : Bool := fLN (unN n) fun U => kchk prN U n
theorem kc_0 : ([1, 2, 3, 4, 5, 6, 7, 8, 9, 10, 11, 12, 13, 14, 15, 16].all kc) = true := by decide +kernel
theorem kc_1 : ([17, 18, 19, 20, 21, 22, 23, 24].all kc) = true := by decide +kernel
theorem kc_2 : ([25, 26, 27, 28, 29, 30].all kc) = true := by decide +kernel
theorem kc_3 : ([31, 32, 33].all kc) = true := by decide +kernel
theorem kc_4 : ([34, 35, 36].all kc) = true := by decide +kernel
theorem kc_5 : ([37, 38].all kc) = true := by decide +kernel
theorem kc_6 : ([39, 40].all kc) = true := by decide +kernel
theorem kc_7 : ([41, 42].all kc) = true := by decide +kernel
theorem kc_8 : ([43, 44].all kc) = true := by decide +kernel
theorem kc_9 : ([45, 46].all kc) = true := by decide +kernel
theorem kc_10 : ([47, 48].all kc) = true := by decide +kernel
theorem kc_11 : ([49, 50].all kc) = true := by decide +kernel
theorem kc_12 : ([51, 52].all kc) = true := by decide +kernel
theorem kc_13 : ([53, 54].all kc) = true := by decide +kernel
theorem kc_14 : ([55, 56].all kc) = true := by decide +kernel
theorem kc_15 : ([57, 58].all kc) = true := by decide +kernel
theorem kc_16 : ([59].all kc) = true := by decide +kernel
theorem kc_17 : ([60].all kc) = true := by decide +kernel
theorem kc_of {n : Nat} (h1 : 1 ≤ n) (h2 : n ≤ 60) : kc n = true := by
  by_cases c0 : n ≤ 16
  · exact List.all_eq_true.mp kc_0 n (by simp only [List.mem_cons, List.not_mem_nil, or_false]; omega)
  by_cases c1 : n ≤ 24
  · exact List.all_eq_true.mp kc_1 n (by simp only [List.mem_cons, List.not_mem_nil, or_false]; omega)
  by_cases c2 : n ≤ 30
  · exact List.all_eq_true.mp kc_2 n (by simp only [List.mem_cons, List.not_mem_nil, or_false]; omega)
  by_cases c3 : n ≤ 33
  · exact List.all_eq_true.mp kc_3 n (by simp only [List.mem_cons, List.not_mem_nil, or_false]; omega)
  by_cases c4 : n ≤ 36
  · exact List.all_eq_true.mp kc_4 n (by simp only [List.mem_cons, List.not_mem_nil, or_false]; omega)
  by_cases c5 : n ≤ 38
  · exact List.all_eq_true.mp kc_5 n (by simp only [List.mem_cons, List.not_mem_nil, or_false]; omega)
  by_cases c6 : n ≤ 40
  · exact List.all_eq_true.mp kc_6 n (by simp only [List.mem_cons, List.not_mem_nil, or_false]; omega)
  by_cases c7 : n ≤ 42
  · exact List.all_eq_true.mp kc_7 n (by simp only [List.mem_cons, List.not_mem_nil, or_false]; omega)
  by_cases c8 : n ≤ 44
  · exact List.all_eq_true.mp kc_8 n (by simp only [List.mem_cons, List.not_mem_nil, or_false]; omega)
  by_cases c9 : n ≤ 46
  · exact List.all_eq_true.mp kc_9 n (by simp only [List.mem_cons, List.not_mem_nil, or_false]; omega)
  by_cases c10 : n ≤ 48
  · exact List.all_eq_true.mp kc_10 n (by simp only [List.mem_cons, List.not_mem_nil, or_false]; omega)
  by_cases c11 : n ≤ 50
  · exact List.all_eq_true.mp kc_11 n (by simp only [List.mem_cons, List.not_mem_nil, or_false]; omega)
  by_cases c12 : n ≤ 52
  · exact List.all_eq_true.mp kc_12 n (by simp only [List.mem_cons, List.not_mem_nil, or_false]; omega)
  by_cases c13 : n ≤ 54
  · exact List.all_eq_true.mp kc_13 n (by simp only [List.mem_cons, List.not_mem_nil, or_false]; omega)
  by_cases c14 : n ≤ 56
  · exact List.all_eq_true.mp kc_14 n (by simp only [List.mem_cons, List.not_mem_nil, or_false]; omega)
  by_cases c15 : n ≤ 58
  · exact List.all_eq_true.mp kc_15 n (by simp only [List.mem_cons, List.not_mem_nil, or_false]; omega)
  by_cases c16 : n ≤ 59
  · exact List.all_eq_true.mp kc_16 n (by simp only [List.mem_cons, List.not_mem_nil, or_false]; omega)
  exact List.all_eq_true.mp kc_17 n (by simp only [List.mem_cons, List.not_mem_nil, or_false]; omega)
theorem kc_use {n : Nat} (h1 : 1 ≤ n) (h2 : n ≤ 60) : kchk prN (unN n) n = true := by
  have := kc_of h1 h2
  unfold kc at this
  rw [fLN_eq] at this
  exact this
end C4

set_option maxHeartbeats 4000000
namespace C4
open PySem L2 PySem.Spec PyProof.Rows
open Num
abbrev sWid : Stmt := top 9
def spStrT (K : PySem.W.Frag) : Sp := fun vs H Q _ => ∃ (a : Addr) (ps : List Int) (st : Nat), vs = [.ref a, .int st] ∧ SqT K H a (ps.map V.int) ∧ 1 ≤ ps.length ∧ (ps.length - 1) * st ≤ 100000 ∧ ps.length ≤ 1000 ∧ st ≤ 1000 ∧ ∀ l H', Same H H' → H' l = some (.lst ((stM ps st).map V.int)) → Q (.ref l) H'
def wid (n : Nat) (m : Nat) (xs : List Int) : List Int := numL m (topN m) (RN m) (stM xs (m / n))
def spWid (K : PySem.W.Frag) : Sp := fun vs H Q _ => ∃ (n m : Nat) (a : Addr) (xs : List Int), vs = [.int n, .ref a, .int m] ∧ 1 ≤ n ∧ n ≤ m ∧ m ≤ 60 ∧ SqT K H a (xs.map V.int) ∧ 1 ≤ xs.length ∧ xs.length ≤ 60 ∧
  ∀ q H', Same H H' → H' q = some (.tup ((wid n m xs).map V.int)) → Q (.ref q) H'
def spSome : Sp := fun vs H Q _ => ∃ (p : Addr) (n : Nat), vs = [.ref p, .int n] ∧ Feed H p ∧ 1 ≤ n ∧ n ≤ 60 ∧ ∀ a (ns : List Int) H', ns.length = topN n → (∀ z ∈ ns, z.natAbs ≤ 2) → Dr p H H' → H' a = some (.tup (ns.map V.int)) → Q (.ref a) H'
section
variable {P : Program} {w : World} {K : PySem.W.Frag} {mg : Str → Option Value} {base : Heap}
theorem ok_strT {f : Addr} {fd : FuncData} (F : Fun K "stretched" "stretched" sStr f fd) (T : Bl mg) (T2 : Bl2 mg) : FnOk P w K mg base CX0 1 f fd ["powers", "step"] (spStrT K) := by
  refine F.ok scStr (fun vs H Q E h => ?_) (fun cdv A outer s H vs Q E hr h => ?_)
  · obtain ⟨a, ps, st, rfl, _⟩ := h; rfl
  · obtain ⟨a, ps, st, rfl, hS, hl, hb, hl2, hst, q⟩ := h
    refine ⟨_, pss_cons (sset 2 rfl (pe_op op_rep (pe_lst (pc pe_int pa_nil)) (pe_op op_add (pe_op op_mul (pe_op op_sub (cb (lenK K) T.len (pc (vn 0) pa_nil)) pe_int) (vn 1)) pe_int)))
      (pss_cons (ps_for PassesOwn.never rfl (enumK K T2.enumerate (pc (vn 0) pa_nil)) (g2 K 3 4 rfl (gn 3) (gn 4))
        (pss_one (ps_asg (vn 4) (pg_sub (vn 2) (pe_op op_mul (vn 3) (vn 1)) set_list))))
      (pss_one (ps_ret (vn 2)))), ?_⟩
    refine ⟨(by show 1 ≤ sizeLine; decide), fun l0 n0 => ?_⟩
    have s0 : Same H (upd H l0 (.lst [.int 0])) := Same.upd n0
    refine ⟨_, rfl, a, _, rfl, .inr (s0.tup hS), _, _, rfl, rfl, _, rfl, _, _, rfl, rfl, .inl ⟨?_, ?_⟩, _, _, rfl, rfl, l0, _, _, rfl, rfl, upd_same, ?_, ?_, ?_, fun l nl => ?_⟩
    · rw [List.length_map]; omega
    · rw [List.length_map]; omega
    · rw [List.length_map]; have : (0 : Int) ≤ ((ps.length : Int) - 1) * st := Int.mul_nonneg (by omega) (by omega); omega
    · rw [List.length_map]
      have : ((ps.length : Int) - 1) * st = (((ps.length - 1) * st : Nat) : Int) := by rw [Int.natCast_mul]; congr 1; omega
      omega
    · rw [List.length_map]
      have : ((ps.length : Int) - 1) * st = (((ps.length - 1) * st : Nat) : Int) := by rw [Int.natCast_mul]; congr 1; omega
      rw [this]
      show 1 * _ ≤ sizeLine
      have e : (16777216 : Nat) = sizeLine := by decide
      omega
    have eN : (((ps.map V.int).length : Int) - 1) * st + 1 = (((ps.length - 1) * st + 1 : Nat) : Int) := by
      rw [List.length_map, Int.natCast_add, Int.natCast_mul]
      congr 2
      omega
    rw [eN, Int.toNat_natCast, rep0]
    have nl' : H l = none := s0.free nl
    have s1 := s0.trans (Same.upd (o := .lst ((List.replicate ((ps.length - 1) * st + 1) (0 : Int)).map V.int)) nl)
    refine ⟨_, rfl, a, rfl, .inr ⟨⟨_, s1.tup hS⟩, ?_⟩⟩
    refine for_enum en_tup (fun i σ' H' => ∃ (cur : List Int) (v3 v4 : Option V), σ' = [some (.ref a), some (.int st), some (.ref l), v3, v4] ∧ Same H H' ∧ H' l = some (.lst (cur.map V.int)) ∧ cur.length = (ps.length - 1) * st + 1 ∧ stN st (ps.drop i) i cur = stM ps st)
      ⟨_, _, _, rfl, s1, upd_same, List.length_replicate .., rfl⟩ (fun i σ' H' h => h.choose_spec.choose_spec.choose_spec.2.1.tup hS) ?_ ?_
    · rintro i y σ' H' T' hy ⟨cur, v3, v4, rfl, sm, hl', hlen, hst'⟩ nT
      obtain ⟨hi, rfl⟩ := map_get hy
      refine ⟨T', _, rfl, .of upd_same, rfl, _, _, rfl, _, _, rfl, rfl, _, rfl, _, rfl, _, rfl, _, rfl, _, _, rfl, rfl, .inl ⟨by omega, by omega⟩, l, _, _, i * st, rfl, rfl, Same.upd nT _ _ hl', ?_, ?_⟩
      rotate_left
      · have hlt : i * st < cur.length := by
          rw [hlen]
          have : i * st ≤ (ps.length - 1) * st := Nat.mul_le_mul_right _ (by omega)
          omega
        refine ⟨cur.set (i * st) (co ps i), _, _, rfl, (sm.trans (Same.upd nT)).updr nl', ?_, ?_, ?_⟩
        · rw [upd_same, set_map]
        · rw [List.length_set]; exact hlen
        · rw [← hst']
          have : ps.drop i = co ps i :: ps.drop (i + 1) := by
            rw [List.drop_eq_getElem_cons hi]
            congr 1
            have := co_get hi
            rw [List.getElem?_eq_getElem hi] at this
            exact Option.some.inj this
          rw [this, Num.stN]
      · rw [List.length_map]
        have : ((i : Int) * (st : Int)) = ((i * st : Nat) : Int) := by rw [Int.natCast_mul]
        rw [this]
        refine ixN_nat ?_
        rw [hlen]
        have : i * st ≤ (ps.length - 1) * st := Nat.mul_le_mul_right _ (by omega)
        omega
    · rintro σ' H' ⟨cur, v3, v4, rfl, sm, hl', hlen, hst'⟩
      rw [List.length_map, List.drop_length, Num.stN] at hst'
      rw [hst'] at hl'
      exact ⟨_, rfl, q l H' sm hl'⟩
theorem scWid : FnScope ["n", "one", "m"] ["n", "one", "m"] (defScope sWid) := ⟨rfl, rfl, rfl, by decide +kernel, rfl, by decide +kernel, by decide +kernel⟩
theorem ok_wid {f : Addr} {fd : FuncData} (F : Fun K "widened" "widened" sWid f fd) (GS : Fn P w K mg base CX0 1 "stretched" ["powers", "step"] (spStrT K)) (GN : Fn P w K mg base CX0 3 "number_of" ["n", "powers"] (spNumOf K)) : FnOk P w K mg base CX0 4 f fd ["n", "one", "m"] (spWid K) := by
  refine F.ok scWid (fun vs H Q E h => ?_) (fun cdv A outer s H vs Q E hr h => ?_)
  · obtain ⟨n, m, a, xs, rfl, _⟩ := h; rfl
  · obtain ⟨n, m, a, xs, rfl, n1, nm, m60, hS, x1, x60, q⟩ := h
    refine ⟨_, pss_one (ps_ret (fnc GN hr pass0 (pc (vn 2) (pc (fnc GS hr pass0 (pc (vn 1) (pc (pe_op op_fdiv (vn 2) (vn 0)) pa_nil))) pa_nil)))), ?_⟩
    have hst : m / n ≤ 60 := Nat.le_trans (Nat.div_le_self _ _) m60
    have hmul : (xs.length - 1) * (m / n) ≤ 59 * 60 := Nat.mul_le_mul (by omega) hst
    have eD : V.int ((m : Int) / (n : Int)) = V.int ((m / n : Nat) : Int) := congrArg V.int (by push_cast; rfl)
    refine ⟨_, rfl, _, rfl, _, rfl, _, rfl, _, _, rfl, rfl, ⟨(by show (0 : Int) < n; omega), (by show (n : Int) < 1073741824; omega)⟩, a, xs, m / n, congrArg (fun z => [V.ref a, z]) eD, hS, x1, by omega, by omega, by omega, fun l H1 s1 h1 => ?_⟩
    exact ⟨m, l, _, rfl, by omega, m60, .inl (.of h1), by rw [stM_len]; omega, fun qq H2 s2 h2 => q qq H2 (s1.trans s2) h2⟩
end
end C4

set_option maxHeartbeats 4000000
namespace C4
open PySem L2
open Num
theorem gcd_same : ((List.range 61).all fun n => (List.range (n + 1)).all fun a => decide (decide (gcdF (a : Int) (n : Int) = 1) = decide (Nat.gcd a n = 1))) = true := by decide +kernel
theorem gcd_is {n a : Nat} (h2 : n ≤ 60) (ha : a ≤ n) : decide (gcdF (a : Int) (n : Int) = 1) = decide (Nat.gcd a n = 1) :=
  of_decide_eq_true (List.all_eq_true.mp (List.all_eq_true.mp gcd_same n (List.mem_range.mpr (by omega))) a (List.mem_range.mpr (by omega)))
theorem inv_un : ((List.range 61).all fun n => decide (n < 2) || (unN n).all fun a => (List.range n).any fun x => decide (a * x % n = 1)) = true := by decide +kernel
theorem un_mem {n h : Nat} : h ∈ unN n ↔ (1 ≤ h ∧ h ≤ n) ∧ Nat.gcd h n = 1 := by
  unfold unN
  rw [List.mem_filter, List.mem_map, decide_eq_true_eq]
  constructor
  · rintro ⟨⟨a, ha, rfl⟩, g⟩
    have := List.mem_range.mp ha
    exact ⟨⟨by omega, by omega⟩, g⟩
  · rintro ⟨⟨h1, h2⟩, g⟩
    exact ⟨⟨h - 1, List.mem_range.mpr (by omega), by omega⟩, g⟩
theorem uni {n : Nat} (h1 : 2 ≤ n) (h2 : n ≤ 60) : Uni n (unN n) := by
  have lt : ∀ h ∈ unN n, h < n := fun h hh => by
    obtain ⟨⟨a, b⟩, g⟩ := un_mem.mp hh
    by_cases e : h = n
    · rw [e, Nat.gcd_self] at g
      omega
    · omega
  refine ⟨h1, ?_, fun h hh => ?_, lt, fun h hh k hk => ?_⟩
  · unfold unN
    refine List.Pairwise.filter _ ?_
    refine List.Pairwise.map (fun x => x + 1) (fun a b (hab : a ≠ b) => ?_) List.nodup_range
    show a + 1 ≠ b + 1
    omega
  · have := List.all_eq_true.mp inv_un n (List.mem_range.mpr (by omega))
    rw [decide_eq_false (show ¬ n < 2 by omega), Bool.false_or] at this
    obtain ⟨x, _, q⟩ := List.any_eq_true.mp (List.all_eq_true.mp this h hh)
    exact ⟨x, of_decide_eq_true q⟩
  · obtain ⟨_, g1⟩ := un_mem.mp hh
    obtain ⟨_, g2⟩ := un_mem.mp hk
    have g : Nat.gcd (h * k) n = 1 := Nat.Coprime.mul_left g1 g2
    have g' : Nat.gcd (h * k % n) n = 1 := by rw [← Nat.gcd_rec, Nat.gcd_comm]; exact g
    refine un_mem.mpr ⟨⟨?_, Nat.le_of_lt (Nat.mod_lt _ (by omega))⟩, g'⟩
    apply Classical.byContradiction
    intro z
    rw [show h * k % n = 0 by omega, Nat.gcd_zero_left] at g'
    omega
theorem tpU {n : Nat} (h1 : 2 ≤ n) (h2 : n ≤ 60) {h : Nat} (hh : h ∈ unN n) : TP n (topN n) (RN n) h :=
  tpS h1 h2 h h (Nat.le_refl _) ((uni h1 h2).lt h hh) ((uni h1 h2).inv h hh)
theorem perN {n : Nat} (h1 : 1 ≤ n) (h2 : n ≤ 60) : Per n (topN n) (lsN n) (RN n) := by
  have hc := chk_of h1 h2
  unfold chk1 at hc
  rw [Bool.and_eq_true] at hc
  exact per_of (by omega) hc.1
/-! widened -/
theorem wid_len (n m : Nat) (xs : List Int) : (wid n m xs).length = topN m := numL_len ..
theorem sig_st {m : Nat} {R : List (List Int)} (j : Nat) {st : Nat} (h0 : 0 < st) : ∀ (xs : List Int) (k : Nat) (acc : List Int), (∀ t, k * st ≤ t → co acc t = 0) → (xs = [] ∨ (k + xs.length - 1) * st < acc.length) →
    sig m R j (stN st xs k acc) 0 = sig m R j acc 0 + sumF xs.length fun t => co xs t * rh m R ((k + t) * st) j
  | [], k, acc, _, _ => by rw [stN, List.length_nil, sumF, Int.add_zero]
  | x :: xs, k, acc, hz, hl => by
    have hl := hl.resolve_left (by intro z; cases z)
    rw [List.length_cons] at hl
    have k1 : k * st < acc.length := Nat.lt_of_le_of_lt (Nat.mul_le_mul_right st (by omega)) hl
    rw [stN, sig_st j h0 xs (k + 1) (acc.set (k * st) x) (fun t ht => ?_) ?_]
    · have e : acc.set (k * st) x = acc.set (k * st) (co acc (k * st) + x) := by rw [hz _ (Nat.le_refl _), Int.zero_add]
      rw [e, sig_set _ _ _ _ _ _ _ k1, List.length_cons, sumF, co_zero, Nat.add_zero, Nat.zero_add, Int.add_assoc]
      congr 2
      refine sumF_congr _ _ _ fun t _ => ?_
      rw [co_succ, show k + 1 + t = k + (t + 1) by omega]
    · cases xs with
      | nil => exact .inl rfl
      | cons y ys =>
        refine .inr ?_
        rw [List.length_set]
        rw [List.length_cons] at hl ⊢
        rw [show k + 1 + (ys.length + 1) - 1 = k + (ys.length + 1 + 1) - 1 by omega]
        exact hl
    · rw [Nat.succ_mul] at ht
      rw [co_set, if_neg (by omega)]
      exact hz t (by omega)
theorem wid_co {n m : Nat} (hd : 0 < m / n) (xs : List Int) (j : Nat) (hj : j < topN m) : co (wid n m xs) j = sumF xs.length fun a => co xs a * rh m (RN m) (a * (m / n)) j := by
  unfold wid Num.stM
  rw [co_numL hj, sig_st j hd xs 0 _ (fun t _ => co_rep _ t) (by
    cases xs with
    | nil => exact .inl rfl
    | cons x xs =>
      refine .inr ?_
      rw [List.length_replicate, Nat.zero_add]
      exact Nat.lt_succ_self _), sig_zeros, Int.zero_add]
  refine sumF_congr _ _ _ fun a _ => ?_
  rw [Nat.zero_add]
theorem tpW {n m : Nat} (h1 : 1 ≤ n) (hm1 : 1 ≤ m) (h2 : m ≤ 60) (hd : m % n = 0) (hn : n ≤ m) : TP2 n (topN n) (RN n) m (RN m) (m / n) := by
  obtain ⟨G, _⟩ := goodN h1 (show n ≤ 60 by omega)
  refine TP2_of G (perN h1 (by omega)) (perN hm1 h2) (m / n) fun j => ?_
  have := ((kchk_of (kc_use hm1 h2)).2 n h1 hd hn).2 j
  have l2 := G.l2
  unfold lsN at l2
  rw [show leastM n (prN n) = leastM n (primesM n) from rfl, l2] at this
  exact this
end C4

namespace Num
theorem sumF_lsum : ∀ (n : Nat) (f : Nat → Int), sumF n f = lsum f (List.range n)
  | 0, f => rfl
  | n + 1, f => by
    rw [sumF_last, sumF_lsum n f, List.range_succ]
    have app : ∀ (U V : List Nat), lsum f (U ++ V) = lsum f U + lsum f V := by
      intro U V
      induction U with
      | nil => rw [List.nil_append, lsum, Int.zero_add]
      | cons x U ih => rw [List.cons_append, lsum, lsum, ih]; omega
    rw [app, lsum, lsum, Int.add_zero]
section
variable {n top : Nat} {least : List Int} {R : List (List Int)} {ps : List Int}
/-- the sum over the powers of a root of p -/
theorem sum_root (G : Good n ps least top R) {p : Nat} (hp : (p : Int) ∈ ps) (a j : Nat) : sumF p (fun t => rh n R (a + t * (n / p)) j) = 0 := by
  have h := G.row _ hp (a % n) (Nat.mod_lt _ G.n1) j
  rw [co_sumRows, Int.toNat_natCast] at h
  rw [← h]
  refine sumF_congr _ _ _ fun t _ => ?_
  unfold rh
  rw [Nat.mod_add_mod]
/-! the law's look -/
theorem sumF_rot1 (n : Nat) (hn : 0 < n) (f : Nat → Int) : sumF n (fun k => f ((k + 1) % n)) = sumF n f := by
  obtain ⟨m, rfl⟩ : ∃ m, n = m + 1 := ⟨n - 1, by omega⟩
  rw [sumF_last, Nat.mod_self, sumF, Int.add_comm]
  congr 1
  refine sumF_congr _ _ _ fun t ht => ?_
  rw [Nat.mod_eq_of_lt (by omega)]
theorem sumF_rot (n : Nat) (hn : 0 < n) (f : Nat → Int) : ∀ c : Nat, sumF n (fun k => f ((k + c) % n)) = sumF n f
  | 0 => sumF_congr _ _ _ fun t ht => by rw [Nat.add_zero, Nat.mod_eq_of_lt ht]
  | c + 1 => by
    rw [← sumF_rot n hn f c, ← sumF_rot1 n hn fun k => f ((k + c) % n)]
    refine sumF_congr _ _ _ fun t _ => ?_
    rw [Nat.mod_add_mod, show t + 1 + c = t + (c + 1) by omega]
/-- what a row of rests means, moved on m -/
def phi (n : Nat) (R : List (List Int)) (g : Nat → Int) (m j : Nat) : Int := sumF n fun k => g k * rh n R (k + m) j
theorem phi_lk (hn : 0 < n) {s : Nat} (hs : s ≤ n) (g : Nat → Int) (m j : Nat) : phi n R (lk n s g) m j = phi n R g m j - phi n R g (m + s) j := by
  unfold phi
  rw [← sumF_rot n hn (fun k => g k * rh n R (k + (m + s)) j) (n - s), ← sumF_sub]
  refine sumF_congr _ _ _ fun t _ => ?_
  unfold lk
  rw [Int.sub_mul]
  congr 2
  refine rh_mod ?_ j
  rw [Nat.mod_add_mod, show t + (n - s) + (m + s) = t + m + n by omega, Nat.add_mod_right]
theorem phi_look (G : Good n ps least top R) : ∀ (qs : List Int) (g : Nat → Int), (∀ p ∈ qs, p ∈ ps ∧ 2 ≤ p) → (∀ k, k < n → lks n (steps n qs) g k = 0) → ∀ m j, phi n R g m j = 0
  | [], g, _, h, m, j => by
    unfold phi
    refine sumF_zero _ _ fun k hk => ?_
    have : g k = 0 := h k hk
    rw [this, Int.zero_mul]
  | p :: qs, g, hq, h, m, j => by
    obtain ⟨hp, p2⟩ := hq p (List.mem_cons_self ..)
    obtain ⟨p, rfl⟩ := Int.eq_ofNat_of_zero_le (show 0 ≤ p by omega)
    have hn : 0 < n := G.n1
    have hs : n / p ≤ n := Nat.div_le_self _ _
    have z := phi_look G qs (lk n (n / p) g) (fun x hx => hq x (List.mem_cons_of_mem _ hx)) h
    have st : ∀ m, phi n R g m j = phi n R g (m + n / p) j := fun m => by
      have := z m j
      rw [phi_lk hn hs] at this
      omega
    have stN : ∀ t, phi n R g (m + t * (n / p)) j = phi n R g m j := fun t => by
      induction t with
      | zero => rw [Nat.zero_mul, Nat.add_zero]
      | succ t ih => rw [Nat.succ_mul, ← Nat.add_assoc, ← st, ih]
    have e : sumF p (fun t => phi n R g (m + t * (n / p)) j) = 0 := by
      unfold phi
      rw [sumF_swap]
      refine sumF_zero _ _ fun k _ => ?_
      rw [← sumF_mul]
      have := sum_root G hp (k + m) j
      rw [sumF_congr _ _ _ fun t _ => by rw [← Nat.add_assoc], this, Int.mul_zero]
    rw [sumF_congr _ _ _ fun t _ => stN t, sumF_lsum, lsum_const, List.length_range] at e
    rcases Int.mul_eq_zero.mp e with z | z
    · omega
    · exact z
end
end Num

namespace Num
def cf (δ : Bool) (p : Nat) (ta : Nat → Nat) (t a : Nat) : Int := (if ta a = t then 1 else 0) - (if δ = true ∧ ta a = p - 1 then 1 else 0)
def Df (top : Nat) (Rq : List (List Int)) (δ : Bool) (p : Nat) (ta ia : Nat → Nat) (t : Nat) (f : Nat → Int) (c : Nat) : Int := sumF top fun a => f a * (cf δ p ta t a * co (ro Rq (ia a)) c)
/-- a number of n cut into p numbers of q -/
structure Cut (n p q step top : Nat) (R : List (List Int)) (topq : Nat) (Rq : List (List Int)) (δ : Bool) (ta ia : Nat → Nat) : Prop where
  star : ∀ a j, a < top → j < top → sumF p (fun t => sumF topq fun b => cf δ p ta t a * co (ro Rq (ia a)) b * rh n R (b * p + t * step) j) = if a = j then 1 else 0
  diam : ∀ b t c, b < topq → t < p → c < topq → sumF top (fun a => rh n R (b * p) a * (cf δ p ta t a * co (ro Rq (ia a)) c)) = if t = 0 ∧ b = c then 1 else 0
section
variable {n p q step top : Nat} {R : List (List Int)} {topq : Nat} {Rq : List (List Int)} {δ : Bool} {ta ia : Nat → Nat} {least : List Int} {ps : List Int}
theorem Df_congr {t c : Nat} {f g : Nat → Int} (h : ∀ a, a < top → f a = g a) : Df top Rq δ p ta ia t f c = Df top Rq δ p ta ia t g c := by
  unfold Df
  refine sumF_congr _ _ _ fun a ha => ?_
  rw [h a ha]
theorem Df_sum (m t c : Nat) (g : Nat → Nat → Int) : Df top Rq δ p ta ia t (fun a => sumF m fun i => g i a) c = sumF m fun i => Df top Rq δ p ta ia t (g i) c := by
  unfold Df
  have e : ∀ a, sumF m (fun i => g i a) * (cf δ p ta t a * co (ro Rq (ia a)) c) = sumF m fun i => g i a * (cf δ p ta t a * co (ro Rq (ia a)) c) := fun a => by
    rw [Int.mul_comm, sumF_mul]
    refine sumF_congr _ _ _ fun i _ => ?_
    rw [Int.mul_comm]
  rw [sumF_congr _ _ _ fun a _ => e a, sumF_swap]
theorem Df_mul (k : Int) (t c : Nat) (f : Nat → Int) : Df top Rq δ p ta ia t (fun a => k * f a) c = k * Df top Rq δ p ta ia t f c := by
  unfold Df
  rw [sumF_mul]
  refine sumF_congr _ _ _ fun a _ => ?_
  rw [Int.mul_assoc]
theorem Df_zero (t c : Nat) {f : Nat → Int} (h : ∀ a, a < top → f a = 0) : Df top Rq δ p ta ia t f c = 0 := by
  unfold Df
  refine sumF_zero _ _ fun a ha => ?_
  rw [h a ha, Int.zero_mul]
theorem Cut.starX (C : Cut n p q step top R topq Rq δ ta ia) {f : Nat → Int} {j : Nat} (hj : j < top) : f j = sumF p fun t => sumF topq fun b => Df top Rq δ p ta ia t f b * rh n R (b * p + t * step) j := by
  have e : ∀ t, sumF topq (fun b => Df top Rq δ p ta ia t f b * rh n R (b * p + t * step) j) = sumF top fun a => f a * sumF topq fun b => cf δ p ta t a * co (ro Rq (ia a)) b * rh n R (b * p + t * step) j := fun t => by
    have e1 : ∀ b, Df top Rq δ p ta ia t f b * rh n R (b * p + t * step) j = sumF top fun a => f a * (cf δ p ta t a * co (ro Rq (ia a)) b * rh n R (b * p + t * step) j) := fun b => by
      unfold Df
      rw [Int.mul_comm, sumF_mul]
      refine sumF_congr _ _ _ fun a _ => ?_
      rw [Int.mul_comm, Int.mul_assoc]
    rw [sumF_congr _ _ _ fun b _ => e1 b, sumF_swap]
    refine sumF_congr _ _ _ fun a _ => ?_
    rw [sumF_mul]
  rw [sumF_congr _ _ _ fun t _ => e t, sumF_swap]
  have e2 : ∀ a, a < top → sumF p (fun t => f a * sumF topq fun b => cf δ p ta t a * co (ro Rq (ia a)) b * rh n R (b * p + t * step) j) = f a * if a = j then 1 else 0 := fun a ha => by
    rw [← sumF_mul, C.star a j ha hj]
  rw [sumF_congr _ _ _ e2, sumF_one top j _ hj fun t _ hne => by rw [if_neg hne, Int.mul_zero], if_pos rfl, Int.mul_one]
theorem Cut.diamW (C : Cut n p q step top R topq Rq δ ta ia) (y : Nat → Int) {t c : Nat} (ht : t < p) (hc : c < topq) : Df top Rq δ p ta ia t (fun a => sumF topq fun b => y b * rh n R (b * p) a) c = if t = 0 then y c else 0 := by
  rw [Df_sum topq t c fun b a => y b * rh n R (b * p) a]
  have e : ∀ b, b < topq → Df top Rq δ p ta ia t (fun a => y b * rh n R (b * p) a) c = y b * if t = 0 ∧ b = c then 1 else 0 := fun b hb => by
    rw [Df_mul]
    unfold Df
    rw [C.diam b t c hb ht hc]
  rw [sumF_congr _ _ _ e]
  by_cases h0 : t = 0
  · rw [if_pos h0, sumF_one topq c _ hc fun b _ hne => by rw [if_neg (fun z => hne z.2), Int.mul_zero], if_pos ⟨h0, rfl⟩, Int.mul_one]
  · rw [if_neg h0]
    exact sumF_zero _ _ fun b _ => by rw [if_neg (fun z => h0 z.1), Int.mul_zero]
theorem Cut.diamK (C : Cut n p q step top R topq Rq δ ta ia) (T : TP2 q topq Rq n R p) (k : Nat) {t c : Nat} (ht : t < p) (hc : c < topq) : Df top Rq δ p ta ia t (fun a => rh n R (k * p) a) c = if t = 0 then rh q Rq k c else 0 := by
  rw [← C.diamW (rh q Rq k) ht hc]
  refine Df_congr fun a _ => ?_
  rw [T k a]
theorem Cut.told (C : Cut n p q step top R topq Rq δ ta ia) (p1 : 1 ≤ p) {f : Nat → Int} (h : ∀ t c, 1 ≤ t → t < p → c < topq → Df top Rq δ p ta ia t f c = 0) {j : Nat} (hj : j < top) : f j = sumF topq fun b => Df top Rq δ p ta ia 0 f b * rh n R (b * p) j := by
  refine (C.starX (f := f) hj).trans ?_
  rw [sumF_one p 0 _ (by omega) fun t ht hne => sumF_zero _ _ fun b hb => by rw [h t b (by omega) ht hb, Int.zero_mul]]
  refine sumF_congr _ _ _ fun b _ => ?_
  rw [Nat.zero_mul, Nat.add_zero]
theorem sum_ite {v : Int} {g : Nat → Bool} : ∀ (p : Nat), ∃ m : Nat, sumF p (fun i => if g i = true then v else 0) = (m : Int) * v ∧ (∀ i, i < p → g i = true → 1 ≤ m)
  | 0 => ⟨0, by rw [sumF]; exact (Int.zero_mul v).symm, fun i hi => absurd hi (Nat.not_lt_zero _)⟩
  | p + 1 => by
    obtain ⟨m, e, h⟩ := sum_ite (v := v) (g := g) p
    rw [sumF_last, e]
    by_cases hg : g p = true
    · refine ⟨m + 1, ?_, fun _ _ _ => by omega⟩
      rw [if_pos hg]
      push_cast
      rw [Int.add_mul, Int.one_mul]
    · refine ⟨m, ?_, fun i hi hi' => ?_⟩
      · rw [if_neg hg, Int.add_zero]
      · by_cases e : i = p
        · exact absurd (e ▸ hi') hg
        · exact h i (by omega) hi'
/-- multiplying the rests by one without a divisor in common only changes their order -/
theorem sum_perm {a v : Nat} (hp : 2 ≤ p) (hv : a * v % p = 1) (F : Nat → Int) : sumF p (fun i => F (a * i % p)) = sumF p F := by
  rw [sumF_lsum, sumF_lsum, ← lsum_map (fun i => a * i % p) F]
  refine lsum_perm F (perm_map List.nodup_range (fun h hh => List.mem_range.mpr (Nat.mod_lt _ (by omega))) fun h hh k hk e => ?_)
  have back : ∀ i, i < p → a * i % p * v % p = i := fun i hi => by
    rw [Nat.mod_mul_mod, Nat.mul_assoc, Nat.mul_comm i v, ← Nat.mul_assoc, Nat.mul_mod, hv, Nat.one_mul, Nat.mod_mod, Nat.mod_eq_of_lt hi]
  have := congrArg (fun z => z * v % p) e
  simp only [back h (List.mem_range.mp hh), back k (List.mem_range.mp hk)] at this
  exact this
theorem Cut.none (C : Cut n p q step top R topq Rq δ ta ia) (T : TP2 q topq Rq n R p) (G : Good n ps least top R) (hp : (p : Int) ∈ ps) (p2 : 2 ≤ p) (hn : n = p * q) (inv : ∀ a, a % p ≠ 0 → ∃ v, a * v % p = 1) {f : Nat → Int}
    (hk : ∀ i, i < p → (1 + q * i) % p ≠ 0 → ∀ j, j < top → sumF top (fun a => f a * rh n R (a * (1 + q * i)) j) = f j) {t c : Nat} (t1 : 1 ≤ t) (ht : t < p) (hc : c < topq) : Df top Rq δ p ta ia t f c = 0 := by
  have hq : n / p = q := by rw [hn, Nat.mul_div_cancel_left _ (by omega)]
  have kz : ∀ k, Df top Rq δ p ta ia t (fun a => rh n R (k * p) a) c = 0 := fun k => by rw [C.diamK T k ht hc, if_neg (by omega)]
  have e1 : ∀ i, i < p → Df top Rq δ p ta ia t (fun j => sumF top fun a => f a * rh n R (a * (1 + q * i)) j) c = if decide ((1 + q * i) % p ≠ 0) = true then Df top Rq δ p ta ia t f c else 0 := fun i hi => by
    by_cases g : (1 + q * i) % p ≠ 0
    · rw [if_pos (decide_eq_true g)]
      exact Df_congr (hk i hi g)
    · rw [if_neg (by simpa using g)]
      have g : (1 + q * i) % p = 0 := by omega
      have ew : 1 + q * i = (1 + q * i) / p * p := (Nat.div_mul_cancel (Nat.dvd_of_mod_eq_zero g)).symm
      rw [Df_sum top t c fun a j => f a * rh n R (a * (1 + q * i)) j]
      refine sumF_zero _ _ fun a _ => ?_
      have ee : a * (1 + q * i) = a * ((1 + q * i) / p) * p := by rw [Nat.mul_assoc, ← ew]
      rw [Df_mul, ee, show Df top Rq δ p ta ia t (rh n R (a * ((1 + q * i) / p) * p)) c = 0 from kz _, Int.mul_zero]
  have e2 : sumF p (fun i => Df top Rq δ p ta ia t (fun j => sumF top fun a => f a * rh n R (a * (1 + q * i)) j) c) = 0 := by
    rw [← Df_sum p t c fun i j => sumF top fun a => f a * rh n R (a * (1 + q * i)) j]
    have e3 : ∀ j, sumF p (fun i => sumF top fun a => f a * rh n R (a * (1 + q * i)) j) = sumF top fun a => f a * sumF p fun i => rh n R (a * (1 + q * i)) j := fun j => by
      rw [sumF_swap]
      refine sumF_congr _ _ _ fun a _ => ?_
      rw [sumF_mul]
    rw [Df_congr fun j _ => e3 j, Df_sum top t c fun a j => f a * sumF p fun i => rh n R (a * (1 + q * i)) j]
    refine sumF_zero _ _ fun a _ => ?_
    rw [Df_mul]
    by_cases ha : a % p = 0
    · have ea : a = a / p * p := (Nat.div_mul_cancel (Nat.dvd_of_mod_eq_zero ha)).symm
      rw [Df_sum p t c fun i j => rh n R (a * (1 + q * i)) j, sumF_zero p _ fun i _ => ?_, Int.mul_zero]
      have ee : a * (1 + q * i) = a / p * (1 + q * i) * p := by rw [Nat.mul_assoc, Nat.mul_comm _ p, ← Nat.mul_assoc, ← ea]
      rw [ee]
      exact kz _
    · rw [Df_zero t c fun j _ => ?_, Int.mul_zero]
      obtain ⟨v, hv⟩ := inv a ha
      have es : sumF p (fun i => rh n R (a * (1 + q * i)) j) = sumF p fun i => rh n R (a + (a * i % p) * q) j := sumF_congr _ _ _ fun i _ => by
        refine rh_mod ?_ j
        have d := Nat.mod_add_div (a * i) p
        have : a * (1 + q * i) = a + a * i % p * q + n * (a * i / p) := by
          rw [hn, Nat.mul_add, Nat.mul_one, Nat.add_assoc]
          congr 1
          calc a * (q * i) = (a * i) * q := by rw [Nat.mul_comm q i, Nat.mul_assoc]
            _ = (a * i % p + p * (a * i / p)) * q := by rw [d]
            _ = a * i % p * q + p * q * (a * i / p) := by rw [Nat.add_mul, Nat.mul_assoc, Nat.mul_comm (a * i / p) q, ← Nat.mul_assoc]
        rw [this, Nat.add_mul_mod_self_left]
      rw [es, sum_perm p2 hv fun i => rh n R (a + i * q) j, ← hq]
      exact sum_root G hp a j
  rw [sumF_congr _ _ _ e1] at e2
  obtain ⟨m, em, hm⟩ := sum_ite (v := Df top Rq δ p ta ia t f c) (g := fun i => decide ((1 + q * i) % p ≠ 0)) p
  rw [em] at e2
  have m1 := hm 0 (by omega) (by
    rw [Nat.mul_zero, Nat.add_zero, Nat.mod_eq_of_lt (by omega)]
    decide)
  rcases Int.mul_eq_zero.mp e2 with z | z
  · omega
  · exact z
end
end Num

namespace Num
def tF (p step j : Int) : Nat → Int → Int
  | 0, t => t
  | f + 1, t => if (j - t * step) % p = 0 then t else tF p step j f (t + 1)
def tA (p step a : Nat) : Nat := (tF p step a 60 0).toNat
def iA (p q step a : Nat) : Nat := ((((a : Int) - (tA p step a : Int) * (step : Int)) / (p : Int)) % (q : Int)).toNat
def psum (g : Int × Nat → Int) : List (Int × Nat) → Int
  | [] => 0
  | x :: r => g x + psum g r
theorem psum_append (g : Int × Nat → Int) : ∀ l m : List (Int × Nat), psum g (l ++ m) = psum g l + psum g m
  | [], m => by rw [List.nil_append, psum, Int.zero_add]
  | x :: l, m => by rw [List.cons_append, psum, psum, psum_append g l m]; omega
theorem psum_map (g : Int × Nat → Int) (h : Nat → Int × Nat) : ∀ m : Nat, psum g ((List.range m).map h) = sumF m fun b => g (h b)
  | 0 => rfl
  | m + 1 => by rw [List.range_succ, List.map_append, psum_append, psum_map g h m, sumF_last, List.map_cons, List.map_nil, psum, psum, Int.add_zero]
theorem psum_flat (g : Int × Nat → Int) (h : Nat → List (Int × Nat)) : ∀ m : Nat, psum g ((List.range m).flatMap h) = sumF m fun b => psum g (h b)
  | 0 => rfl
  | m + 1 => by rw [List.range_succ, List.flatMap_append, psum_append, psum_flat g h m, sumF_last, List.flatMap_cons, List.flatMap_nil, List.append_nil]
theorem psum_zip (g : Int × Nat → Int) (h : Int → Nat × Nat → Int × Nat) : ∀ (row : List Int) (tab : List (Nat × Nat)), row.length = tab.length → psum g (List.zipWith h row tab) = sumF row.length fun a => g (h (co row a) (tab.getD a (0, 0)))
  | [], [], _ => rfl
  | [], _ :: _, e => by cases e
  | _ :: _, [], e => by cases e
  | x :: row, y :: tab, e => by
    rw [List.zipWith_cons_cons, psum, psum_zip g h row tab (Nat.succ.inj e), List.length_cons, sumF]
    rfl
def lcB (n : Nat) (R : List (List Int)) : List (Int × Nat) → List Int → (List Int → Bool) → Bool
  | [], acc, k => k acc
  | (c, e) :: r, acc, k => fInt c fun c' => if c' = 0 then lcB n R r acc k else fNat (e % n) fun e' => fL (vadd acc (vsc c' (ro R e'))) fun acc' => lcB n R r acc' k
theorem lcB_of (n : Nat) (R : List (List Int)) (k : List Int → Bool) : ∀ (l : List (Int × Nat)) (acc : List Int), lcB n R l acc k = true → ∃ acc', k acc' = true ∧ ∀ j, co acc' j = co acc j + psum (fun x => x.1 * rh n R x.2 j) l
  | [], acc, h => ⟨acc, h, fun j => by rw [psum, Int.add_zero]⟩
  | (c, e) :: r, acc, h => by
    rw [lcB, fInt_eq] at h
    by_cases hc : c = 0
    · rw [if_pos hc] at h
      obtain ⟨acc', h1, h2⟩ := lcB_of n R k r acc h
      refine ⟨acc', h1, fun j => ?_⟩
      rw [h2, psum, hc, Int.zero_mul, Int.zero_add]
    · rw [if_neg hc, fNat_eq, fL_eq] at h
      obtain ⟨acc', h1, h2⟩ := lcB_of n R k r _ h
      refine ⟨acc', h1, fun j => ?_⟩
      rw [h2, psum, co_vadd, co_vsc, Int.add_assoc]
      rfl
def fPL {β : Type} : List (Nat × Nat) → (List (Nat × Nat) → β) → β
  | [], k => k []
  | (a, b) :: r, k => fNat a fun a' => fNat b fun b' => fPL r fun r' => k ((a', b') :: r')
theorem fPL_eq {β : Type} : ∀ (l : List (Nat × Nat)) (k : List (Nat × Nat) → β), fPL l k = k l
  | [], k => rfl
  | (a, b) :: r, k => by rw [fPL, fNat_eq, fNat_eq, fPL_eq r]
def cv (δ : Bool) (p t ta : Nat) : Int := (if ta = t then 1 else 0) - (if δ = true ∧ ta = p - 1 then 1 else 0)
def cutB (n p q step : Nat) (δ : Bool) (R Rq : List (List Int)) (top topq : Nat) : Bool := fPL ((List.range top).map fun a => (tA p step a, iA p q step a)) fun tab =>
  ((List.range top).all fun a => decide ((tab.getD a (0, 0)).1 < p) && decide ((tab.getD a (0, 0)).2 < q) && decide (((a : Int) - ((tab.getD a (0, 0)).1 : Int) * (step : Int)) % (p : Int) = 0)) &&
  ((List.range top).all fun a => fNat (tab.getD a (0, 0)).1 fun ta => fL (ro Rq (tab.getD a (0, 0)).2) fun rq => lcB n R ((List.range p).flatMap fun t => fInt (cv δ p t ta) fun c => (List.range topq).map fun b => (c * co rq b, b * p + t * step)) [] fun acc => (List.range top).all fun j => decide (co acc j = if a = j then 1 else 0)) &&
  ((List.range topq).all fun b => fL (ro R (b * p % n)) fun row => decide (row.length = top) && (List.range p).all fun t => lcB q Rq (List.zipWith (fun x ti => (x * cv δ p t ti.1, ti.2)) row tab) [] fun acc => (List.range topq).all fun c => decide (co acc c = if t = 0 ∧ b = c then 1 else 0))
theorem getD_tab {top a : Nat} {h : Nat → Nat × Nat} (ha : a < top) : ((List.range top).map h).getD a (0, 0) = h a := by
  rw [List.getD_eq_getElem?_getD, List.getElem?_map, List.getElem?_range ha]
  rfl
theorem cutB_of {n p q step : Nat} {δ : Bool} {R Rq : List (List Int)} {top topq : Nat} (hq : ∀ a, a < top → iA p q step a < q → iA p q step a % q = iA p q step a) (h : cutB n p q step δ R Rq top topq = true) :
    Cut n p q step top R topq Rq δ (tA p step) (iA p q step) ∧ ∀ a, a < top → tA p step a < p ∧ iA p q step a < q ∧ ((a : Int) - (tA p step a : Int) * (step : Int)) % (p : Int) = 0 := by
  unfold cutB at h
  rw [fPL_eq, Bool.and_eq_true, Bool.and_eq_true] at h
  obtain ⟨⟨h1, h2⟩, h3⟩ := h
  have f1 : ∀ a, a < top → tA p step a < p ∧ iA p q step a < q ∧ ((a : Int) - (tA p step a : Int) * (step : Int)) % (p : Int) = 0 := fun a ha => by
    have := List.all_eq_true.mp h1 a (List.mem_range.mpr ha)
    rw [getD_tab ha] at this
    simp only [Bool.and_eq_true, decide_eq_true_eq] at this
    exact ⟨this.1.1, this.1.2, this.2⟩
  refine ⟨⟨fun a j ha hj => ?_, fun b t c hb ht hc => ?_⟩, f1⟩
  · have := List.all_eq_true.mp h2 a (List.mem_range.mpr ha)
    rw [getD_tab ha, fNat_eq, fL_eq] at this
    obtain ⟨acc, k, e⟩ := lcB_of _ _ _ _ _ this
    have := of_decide_eq_true (List.all_eq_true.mp k j (List.mem_range.mpr hj))
    rw [e, co_nil, Int.zero_add, psum_flat] at this
    rw [← this]
    refine sumF_congr _ _ _ fun t _ => ?_
    rw [fInt_eq, psum_map]
    rfl
  · have := List.all_eq_true.mp h3 b (List.mem_range.mpr hb)
    rw [fL_eq, Bool.and_eq_true] at this
    obtain ⟨hl, this⟩ := this
    have hl := of_decide_eq_true hl
    have := List.all_eq_true.mp this t (List.mem_range.mpr ht)
    obtain ⟨acc, k, e⟩ := lcB_of _ _ _ _ _ this
    have := of_decide_eq_true (List.all_eq_true.mp k c (List.mem_range.mpr hc))
    rw [e, co_nil, Int.zero_add, psum_zip _ _ _ _ (by rw [hl, List.length_map, List.length_range]), hl] at this
    rw [← this]
    refine sumF_congr _ _ _ fun a ha => ?_
    rw [getD_tab ha]
    show _ = co (ro R (b * p % n)) a * cv δ p t (tA p step a) * rh q Rq (iA p q step a) c
    unfold rh
    rw [hq a ha (f1 a ha).2.1, Int.mul_assoc]
    rfl
def nchk (pr : Nat → List Int) (n : Nat) : Bool := fL (leastM n (pr n)) fun least => fNat (least.length - 1) fun top => fL (unit top 0) fun u0 => rowsK least top n u0 fun R =>
  (pr n).all fun pI => fNat pI.toNat fun p => fNat (n / p) fun q => fL (leastM q (pr q)) fun lq => fNat (lq.length - 1) fun topq => fL (unit topq 0) fun u0q => rowsK lq topq q u0q fun Rq =>
    fNat (if q % p = 0 then 1 else q) fun step => cutB n p q step (decide (q % p ≠ 0)) R Rq top topq
theorem nchk_of {pr : Nat → List Int} {n : Nat} (h : nchk pr n = true) {p : Nat} (hp : (p : Int) ∈ pr n) : Cut n p (n / p) (if n / p % p = 0 then 1 else n / p) ((leastM n (pr n)).length - 1) (RT n (pr n)) ((leastM (n / p) (pr (n / p))).length - 1) (RT (n / p) (pr (n / p))) (decide (n / p % p ≠ 0)) (tA p (if n / p % p = 0 then 1 else n / p)) (iA p (n / p) (if n / p % p = 0 then 1 else n / p)) ∧
    ∀ a, a < (leastM n (pr n)).length - 1 → tA p (if n / p % p = 0 then 1 else n / p) a < p ∧ iA p (n / p) (if n / p % p = 0 then 1 else n / p) a < n / p ∧ ((a : Int) - (tA p (if n / p % p = 0 then 1 else n / p) a : Int) * ((if n / p % p = 0 then 1 else n / p : Nat) : Int)) % (p : Int) = 0 := by
  unfold nchk at h
  rw [fL_eq, fNat_eq, fL_eq, rowsK_eq] at h
  have := List.all_eq_true.mp h _ hp
  rw [Int.toNat_natCast, fNat_eq, fNat_eq, fL_eq, fNat_eq, fL_eq, rowsK_eq, fNat_eq] at this
  exact cutB_of (fun a _ hi => Nat.mod_eq_of_lt hi) this
end Num

set_option maxHeartbeats 4000000
namespace C4
open PySem L2
open Num
def nc (n : Nat) : Bool := nchk prN n
theorem nc_0 : ([1, 2, 3, 4, 5, 6, 7, 8, 9, 10, 11, 12, 13, 14, 15, 16].all nc) = true := by decide +kernel
theorem nc_1 : ([17, 18, 19, 20, 21, 22, 23, 24].all nc) = true := by decide +kernel
theorem nc_2 : ([25, 26, 27, 28, 29, 30].all nc) = true := by decide +kernel
theorem nc_3 : ([31, 32, 33].all nc) = true := by decide +kernel
theorem nc_4 : ([34, 35, 36].all nc) = true := by decide +kernel
theorem nc_5 : ([37, 38].all nc) = true := by decide +kernel
theorem nc_6 : ([39, 40].all nc) = true := by decide +kernel
theorem nc_7 : ([41, 42].all nc) = true := by decide +kernel
theorem nc_8 : ([43, 44].all nc) = true := by decide +kernel
theorem nc_9 : ([45, 46].all nc) = true := by decide +kernel
theorem nc_10 : ([47, 48].all nc) = true := by decide +kernel
theorem nc_11 : ([49, 50].all nc) = true := by decide +kernel
theorem nc_12 : ([51, 52].all nc) = true := by decide +kernel
theorem nc_13 : ([53, 54].all nc) = true := by decide +kernel
theorem nc_14 : ([55, 56].all nc) = true := by decide +kernel
theorem nc_15 : ([57, 58].all nc) = true := by decide +kernel
theorem nc_16 : ([59].all nc) = true := by decide +kernel
theorem nc_17 : ([60].all nc) = true := by decide +kernel
theorem nc_of {n : Nat} (h1 : 1 ≤ n) (h2 : n ≤ 60) : nc n = true := by
  by_cases c0 : n ≤ 16
  · exact List.all_eq_true.mp nc_0 n (by simp only [List.mem_cons, List.not_mem_nil, or_false]; omega)
  by_cases c1 : n ≤ 24
  · exact List.all_eq_true.mp nc_1 n (by simp only [List.mem_cons, List.not_mem_nil, or_false]; omega)
  by_cases c2 : n ≤ 30
  · exact List.all_eq_true.mp nc_2 n (by simp only [List.mem_cons, List.not_mem_nil, or_false]; omega)
  by_cases c3 : n ≤ 33
  · exact List.all_eq_true.mp nc_3 n (by simp only [List.mem_cons, List.not_mem_nil, or_false]; omega)
  by_cases c4 : n ≤ 36
  · exact List.all_eq_true.mp nc_4 n (by simp only [List.mem_cons, List.not_mem_nil, or_false]; omega)
  by_cases c5 : n ≤ 38
  · exact List.all_eq_true.mp nc_5 n (by simp only [List.mem_cons, List.not_mem_nil, or_false]; omega)
  by_cases c6 : n ≤ 40
  · exact List.all_eq_true.mp nc_6 n (by simp only [List.mem_cons, List.not_mem_nil, or_false]; omega)
  by_cases c7 : n ≤ 42
  · exact List.all_eq_true.mp nc_7 n (by simp only [List.mem_cons, List.not_mem_nil, or_false]; omega)
  by_cases c8 : n ≤ 44
  · exact List.all_eq_true.mp nc_8 n (by simp only [List.mem_cons, List.not_mem_nil, or_false]; omega)
  by_cases c9 : n ≤ 46
  · exact List.all_eq_true.mp nc_9 n (by simp only [List.mem_cons, List.not_mem_nil, or_false]; omega)
  by_cases c10 : n ≤ 48
  · exact List.all_eq_true.mp nc_10 n (by simp only [List.mem_cons, List.not_mem_nil, or_false]; omega)
  by_cases c11 : n ≤ 50
  · exact List.all_eq_true.mp nc_11 n (by simp only [List.mem_cons, List.not_mem_nil, or_false]; omega)
  by_cases c12 : n ≤ 52
  · exact List.all_eq_true.mp nc_12 n (by simp only [List.mem_cons, List.not_mem_nil, or_false]; omega)
  by_cases c13 : n ≤ 54
  · exact List.all_eq_true.mp nc_13 n (by simp only [List.mem_cons, List.not_mem_nil, or_false]; omega)
  by_cases c14 : n ≤ 56
  · exact List.all_eq_true.mp nc_14 n (by simp only [List.mem_cons, List.not_mem_nil, or_false]; omega)
  by_cases c15 : n ≤ 58
  · exact List.all_eq_true.mp nc_15 n (by simp only [List.mem_cons, List.not_mem_nil, or_false]; omega)
  by_cases c16 : n ≤ 59
  · exact List.all_eq_true.mp nc_16 n (by simp only [List.mem_cons, List.not_mem_nil, or_false]; omega)
  exact List.all_eq_true.mp nc_17 n (by simp only [List.mem_cons, List.not_mem_nil, or_false]; omega)
end C4

set_option maxHeartbeats 4000000
namespace C4
open PySem L2
open Num
def stp (n p : Nat) : Nat := if n / p % p = 0 then 1 else n / p
def dlt (n p : Nat) : Bool := decide (n / p % p ≠ 0)
theorem cutN {n p : Nat} (h1 : 1 ≤ n) (h2 : n ≤ 60) (hp : (p : Int) ∈ primesM n) : Cut n p (n / p) (stp n p) (topN n) (RN n) (topN (n / p)) (RN (n / p)) (dlt n p) (tA p (stp n p)) (iA p (n / p) (stp n p)) ∧
    ∀ a, a < topN n → tA p (stp n p) a < p ∧ iA p (n / p) (stp n p) a < n / p ∧ ((a : Int) - (tA p (stp n p) a : Int) * (stp n p : Int)) % (p : Int) = 0 := nchk_of (nc_of h1 h2) hp
theorem pr_in : ((List.range 61).all fun n => decide (n = 0) || (primesM n).all fun p => pr60.contains p.toNat) = true := by decide +kernel
theorem pr_inv : (pr60.all fun p => (List.range p).all fun a => decide (a = 0) || (List.range p).any fun v => decide (a * v % p = 1)) = true := by decide +kernel
theorem inv_p {n p : Nat} (h1 : 1 ≤ n) (h2 : n ≤ 60) (hp : (p : Int) ∈ primesM n) (a : Nat) (ha : a % p ≠ 0) : ∃ v, a * v % p = 1 := by
  have q := List.all_eq_true.mp pr_in n (List.mem_range.mpr (by omega))
  rw [decide_eq_false (show ¬ n = 0 by omega), Bool.false_or] at q
  have q := List.all_eq_true.mp q _ hp
  rw [Int.toNat_natCast, List.contains_iff_mem] at q
  obtain ⟨_, hps, _⟩ := okN_of h1 h2
  have p2 := (hps _ hp).1
  have r := List.all_eq_true.mp (List.all_eq_true.mp pr_inv p q) (a % p) (List.mem_range.mpr (Nat.mod_lt _ (by omega)))
  rw [decide_eq_false ha, Bool.false_or] at r
  obtain ⟨v, _, e⟩ := List.any_eq_true.mp r
  refine ⟨v, ?_⟩
  have e := of_decide_eq_true e
  rw [Nat.mod_mul_mod] at e
  exact e
theorem un_step : ((List.range 61).all fun n => decide (n = 0) || (primesM n).all fun p => (List.range p.toNat).all fun i => decide ((1 + n / p.toNat * i) % p.toNat = 0) || (decide (1 + n / p.toNat * i ≤ n) && decide (Nat.gcd (1 + n / p.toNat * i) n = 1))) = true := by decide +kernel
theorem un_p {n p : Nat} (h1 : 1 ≤ n) (h2 : n ≤ 60) (hp : (p : Int) ∈ primesM n) {i : Nat} (hi : i < p) (g : (1 + n / p * i) % p ≠ 0) : 1 + n / p * i ∈ unN n := by
  have q := List.all_eq_true.mp un_step n (List.mem_range.mpr (by omega))
  rw [decide_eq_false (show ¬ n = 0 by omega), Bool.false_or] at q
  have q := List.all_eq_true.mp q _ hp
  rw [Int.toNat_natCast] at q
  have q := List.all_eq_true.mp q i (List.mem_range.mpr hi)
  rw [decide_eq_false g, Bool.false_or, Bool.and_eq_true] at q
  exact un_mem.mpr ⟨⟨by omega, of_decide_eq_true q.1⟩, of_decide_eq_true q.2⟩
theorem un_up : ((List.range 61).all fun n => (List.range (n + 1)).all fun s => decide (s = 0) || decide (n % s ≠ 0) || (unN s).all fun k => (unN n).any fun k' => decide (k' % s = k % s)) = true := by decide +kernel
theorem un_lift {n s k : Nat} (h1 : 1 ≤ s) (h2 : n ≤ 60) (hs : s ≤ n) (hd : n % s = 0) (hk : k ∈ unN s) : ∃ k' ∈ unN n, k' % s = k % s := by
  have q := List.all_eq_true.mp (List.all_eq_true.mp un_up n (List.mem_range.mpr (by omega))) s (List.mem_range.mpr (by omega))
  rw [decide_eq_false (show ¬ s = 0 by omega), decide_eq_false (show ¬ n % s ≠ 0 by omega), Bool.false_or, Bool.false_or] at q
  obtain ⟨k', h, e⟩ := List.any_eq_true.mp (List.all_eq_true.mp q k hk)
  exact ⟨k', h, of_decide_eq_true e⟩
/-! widening -/
theorem wid_self {n : Nat} (h1 : 1 ≤ n) (h2 : n ≤ 60) {x : List Int} (hx : x.length = topN n) : wid n n x = x := by
  obtain ⟨G, _⟩ := goodN h1 h2
  have tn := G.tn
  have hnn : n / n = 1 := Nat.div_self (by omega)
  refine ext_co (by rw [wid_len, hx]) fun j hj => ?_
  rw [wid_len] at hj
  rw [wid_co (by rw [hnn]; decide) x j hj, hnn, hx, sumF_one _ j _ hj fun t ht hne => ?_, Nat.mul_one]
  · unfold rh
    rw [Nat.mod_eq_of_lt (by omega), G.un j hj, co_unit hj, if_pos rfl, Int.mul_one]
  · rw [Nat.mul_one]
    unfold rh
    rw [Nat.mod_eq_of_lt (by omega), G.un t ht, co_unit hj, if_neg (fun z => hne z.symm), Int.mul_zero]
theorem wid_wid {m q n : Nat} (m1 : 1 ≤ m) (h2 : n ≤ 60) (mq : m ≤ q) (qn : q ≤ n) (d1 : q % m = 0) (d2 : n % q = 0) (y : List Int) : wid q n (wid m q y) = wid m n y := by
  have q1 : 0 < q := by omega
  have e1 : q / m * (n / q) = n / m := by
    obtain ⟨a, rfl⟩ := Nat.dvd_of_mod_eq_zero d1
    obtain ⟨b, rfl⟩ := Nat.dvd_of_mod_eq_zero d2
    rw [Nat.mul_div_cancel_left _ (by omega), Nat.mul_div_cancel_left _ q1, Nat.mul_assoc, Nat.mul_div_cancel_left _ (by omega)]
  have T := tpW q1 (by omega) h2 d2 qn
  refine ext_co (by rw [wid_len, wid_len]) fun j hj => ?_
  rw [wid_len] at hj
  rw [wid_co (Nat.div_pos qn q1) _ j hj, wid_co (Nat.div_pos (by omega) (by omega)) _ j hj, wid_len]
  have e : ∀ b, b < topN q → co (wid m q y) b * rh n (RN n) (b * (n / q)) j = sumF y.length fun a => co y a * (rh q (RN q) (a * (q / m)) b * rh n (RN n) (b * (n / q)) j) := fun b hb => by
    rw [wid_co (Nat.div_pos mq (by omega)) _ b hb, Int.mul_comm, sumF_mul]
    refine sumF_congr _ _ _ fun a _ => ?_
    rw [Int.mul_comm, Int.mul_assoc]
  rw [sumF_congr _ _ _ e, sumF_swap]
  refine sumF_congr _ _ _ fun a _ => ?_
  rw [← sumF_mul, T (a * (q / m)) j, Nat.mul_assoc, e1]
theorem wid_trn {s n k k' : Nat} (s1 : 1 ≤ s) (h2 : n ≤ 60) (sn : s ≤ n) (d : n % s = 0) (hk : k' ∈ unN n) (e : k' % s = k % s) (y : List Int) : trn n (topN n) (RN n) (k' : Int) (wid s n y) = wid s n (trn s (topN s) (RN s) (k : Int) y) := by
  have T := tpW s1 (by omega) h2 d sn
  have T' : TP n (topN n) (RN n) k' := by
    by_cases hn : n = 1
    · obtain ⟨G, _⟩ := goodN (show 1 ≤ n by omega) h2
      refine TP_mod (h := 1) ?_ (TP_one G)
      rw [hn, Nat.mod_one, Nat.mod_one]
    · exact tpU (by omega) h2 hk
  have hd : s * (n / s) = n := Nat.mul_div_cancel' (Nat.dvd_of_mod_eq_zero d)
  refine ext_co (by rw [trn_len, wid_len]) fun j hj => ?_
  rw [trn_len] at hj
  rw [trn_coN (by omega) hj, wid_co (Nat.div_pos sn s1) _ j hj, wid_len, trn_len]
  have e1 : ∀ i, i < topN n → co (wid s n y) i * rh n (RN n) (i * k') j = sumF y.length fun a => co y a * (rh n (RN n) (a * (n / s)) i * rh n (RN n) (i * k') j) := fun i hi => by
    rw [wid_co (Nat.div_pos sn s1) _ i hi, Int.mul_comm, sumF_mul]
    refine sumF_congr _ _ _ fun a _ => ?_
    rw [Int.mul_comm, Int.mul_assoc]
  have e2 : ∀ b, b < topN s → co (trn s (topN s) (RN s) (k : Int) y) b * rh n (RN n) (b * (n / s)) j = sumF y.length fun a => co y a * (rh s (RN s) (a * k) b * rh n (RN n) (b * (n / s)) j) := fun b hb => by
    rw [trn_coN s1 hb, Int.mul_comm, sumF_mul]
    refine sumF_congr _ _ _ fun a _ => ?_
    rw [Int.mul_comm, Int.mul_assoc]
  have A : sumF (topN n) (fun i => co (wid s n y) i * rh n (RN n) (i * k') j) = sumF y.length fun a => co y a * rh n (RN n) (a * (n / s) * k') j := by
    rw [sumF_congr _ _ _ e1, sumF_swap]
    refine sumF_congr _ _ _ fun a _ => ?_
    rw [← sumF_mul, T' (a * (n / s)) j]
  have B : sumF (topN s) (fun b => co (trn s (topN s) (RN s) (k : Int) y) b * rh n (RN n) (b * (n / s)) j) = sumF y.length fun a => co y a * rh n (RN n) (a * k * (n / s)) j := by
    rw [sumF_congr _ _ _ e2, sumF_swap]
    refine sumF_congr _ _ _ fun a _ => ?_
    rw [← sumF_mul, T (a * k) j]
  rw [A, B]
  refine sumF_congr _ _ _ fun a _ => ?_
  congr 1
  refine rh_mod ?_ j
  have f1 := Nat.mod_add_div k' s
  have f2 := Nat.mod_add_div k s
  have g1 : a * (n / s) * k' = a * (n / s) * (k' % s) + n * (a * (k' / s)) := by
    calc a * (n / s) * k' = a * (n / s) * (k' % s + s * (k' / s)) := by rw [f1]
      _ = a * (n / s) * (k' % s) + s * (n / s) * (a * (k' / s)) := by
        rw [Nat.mul_add]
        congr 1
        rw [Nat.mul_comm s (n / s), Nat.mul_assoc, Nat.mul_assoc, Nat.mul_left_comm a (n / s), Nat.mul_left_comm a s]
      _ = _ := by rw [hd]
  have g2 : a * k * (n / s) = a * (n / s) * (k % s) + n * (a * (k / s)) := by
    calc a * k * (n / s) = a * (n / s) * (k % s + s * (k / s)) := by rw [f2, Nat.mul_assoc, Nat.mul_comm k, ← Nat.mul_assoc]
      _ = a * (n / s) * (k % s) + s * (n / s) * (a * (k / s)) := by
        rw [Nat.mul_add]
        congr 1
        rw [Nat.mul_comm s (n / s), Nat.mul_assoc, Nat.mul_assoc, Nat.mul_left_comm a (n / s), Nat.mul_left_comm a s]
      _ = _ := by rw [hd]
  rw [g1, g2, Nat.add_mul_mod_self_left, Nat.add_mul_mod_self_left, e]
/-! narrowed once -/
section
variable {n p : Nat} (h1 : 1 ≤ n) (h2 : n ≤ 60) (hp : (p : Int) ∈ primesM n)
include h1 h2 hp
theorem p_facts : 2 ≤ p ∧ p * (n / p) = n ∧ 1 ≤ n / p ∧ n / p ≤ n ∧ n / (n / p) = p ∧ n % (n / p) = 0 := by
  obtain ⟨_, hps, _⟩ := okN_of h1 h2
  have p2 := (hps _ hp).1
  obtain ⟨G, _⟩ := goodN h1 h2
  have d := G.div _ hp
  rw [Int.toNat_natCast] at d
  have q1 : 1 ≤ n / p := Nat.pos_of_ne_zero fun z => by
    rw [z, Nat.mul_zero] at d
    omega
  refine ⟨by omega, d, q1, Nat.div_le_self _ _, ?_, ?_⟩
  · exact Nat.div_eq_of_eq_mul_left (by omega) (by rw [d])
  · have := Nat.mul_mod_left p (n / p)
    rw [d] at this
    exact this
def dF (n p : Nat) (t : Nat) (f : Nat → Int) (c : Nat) : Int := Df (topN n) (RN (n / p)) (dlt n p) p (tA p (stp n p)) (iA p (n / p) (stp n p)) t f c
theorem tp_p : TP2 (n / p) (topN (n / p)) (RN (n / p)) n (RN n) p := by
  obtain ⟨p2, d, q1, qn, e, m⟩ := p_facts h1 h2 hp
  have := tpW q1 h1 h2 m qn
  rw [e] at this
  exact this
theorem told1 {x : List Int} (hx : x.length = topN n) (h : ∀ t c, 1 ≤ t → t < p → c < topN (n / p) → dF n p t (co x) c = 0) : wid (n / p) n ((List.range (topN (n / p))).map fun c => dF n p 0 (co x) c) = x := by
  obtain ⟨p2, d, q1, qn, e, m⟩ := p_facts h1 h2 hp
  refine ext_co (by rw [wid_len, hx]) fun j hj => ?_
  rw [wid_len] at hj
  rw [wid_co (by rw [e]; omega) _ j hj, e, List.length_map, List.length_range, (cutN h1 h2 hp).1.told (by omega) h hj]
  refine sumF_congr _ _ _ fun b hb => ?_
  congr 1
  unfold co
  rw [List.getD_eq_getElem?_getD, List.getElem?_map, List.getElem?_range hb]
  rfl
theorem inj1 {y y' : List Int} (hy : y.length = topN (n / p)) (hy' : y'.length = topN (n / p)) (e : wid (n / p) n y = wid (n / p) n y') : y = y' := by
  obtain ⟨p2, d, q1, qn, e1, m⟩ := p_facts h1 h2 hp
  refine ext_co (by rw [hy, hy']) fun c hc => ?_
  rw [hy] at hc
  have f : ∀ z : List Int, z.length = topN (n / p) → dF n p 0 (co (wid (n / p) n z)) c = co z c := fun z hz => by
    have := (cutN h1 h2 hp).1.diamW (co z) (t := 0) (by omega) hc
    rw [if_pos rfl] at this
    rw [← this]
    refine Df_congr fun a ha => ?_
    rw [wid_co (by rw [e1]; omega) _ a ha, e1, hz]
  rw [← f y hy, e, f y' hy']
theorem none1 {x : List Int} (hx : x.length = topN n) (h : ¬ ∀ t c, 1 ≤ t → t < p → c < topN (n / p) → dF n p t (co x) c = 0) : ∃ k ∈ unN n, k % (n / p) = 1 % (n / p) ∧ trn n (topN n) (RN n) (k : Int) x ≠ x := by
  obtain ⟨p2, d, q1, qn, e1, m⟩ := p_facts h1 h2 hp
  apply Classical.byContradiction
  intro z
  refine h fun t c t1 ht hc => ?_
  obtain ⟨G, _⟩ := goodN h1 h2
  refine (cutN h1 h2 hp).1.none (tp_p h1 h2 hp) G hp p2 d.symm (inv_p h1 h2 hp) (fun i hi g j hj => ?_) t1 ht hc
  have hu := un_p h1 h2 hp hi g
  have fx : trn n (topN n) (RN n) ((1 + n / p * i : Nat) : Int) x = x := by
    apply Classical.byContradiction
    intro ne
    exact z ⟨_, hu, by rw [Nat.add_mul_mod_self_left], ne⟩
  have c := trn_coN (R := RN n) (h := 1 + n / p * i) (xs := x) G.n1 hj
  rw [fx, hx] at c
  exact c.symm
end
theorem pr_sub : ((List.range 61).all fun N => decide (N = 0) || (primesM N).all fun p => (List.range 61).all fun s => decide (s = 0) || decide (s % p.toNat ≠ 0) || (primesM s).contains p) = true := by decide +kernel
theorem pr_of {N s p : Nat} (h1 : 1 ≤ N) (h2 : N ≤ 60) (s1 : 1 ≤ s) (s2 : s ≤ 60) (hp : (p : Int) ∈ primesM N) (hd : s % p = 0) : (p : Int) ∈ primesM s := by
  have q := List.all_eq_true.mp pr_sub N (List.mem_range.mpr (by omega))
  rw [decide_eq_false (show ¬ N = 0 by omega), Bool.false_or] at q
  have q := List.all_eq_true.mp (List.all_eq_true.mp q _ hp) s (List.mem_range.mpr (by omega))
  rw [Int.toNat_natCast, decide_eq_false (show ¬ s = 0 by omega), decide_eq_false (show ¬ s % p ≠ 0 by omega), Bool.false_or, Bool.false_or, List.contains_iff_mem] at q
  exact q
theorem pr_end : ((List.range 61).all fun N => (List.range (N + 1)).all fun u => decide (u < 2) || decide (N % u ≠ 0) || (primesM N).any fun p => decide (u % p.toNat = 0)) = true := by decide +kernel
theorem end_of {N u : Nat} (h2 : N ≤ 60) (u1 : 1 ≤ u) (uN : u ≤ N) (hd : N % u = 0) (h : ∀ p ∈ primesM N, u % p.toNat ≠ 0) : u = 1 := by
  have q := List.all_eq_true.mp (List.all_eq_true.mp pr_end N (List.mem_range.mpr (by omega))) u (List.mem_range.mpr (by omega))
  by_cases c : u < 2
  · omega
  · rw [decide_eq_false c, decide_eq_false (show ¬ N % u ≠ 0 by omega), Bool.false_or, Bool.false_or, List.any_eq_true] at q
    obtain ⟨p, hp, e⟩ := q
    exact absurd (of_decide_eq_true e) (h p hp)
/-- widening tells numbers apart -/
theorem inj {m : Nat} (m1 : 1 ≤ m) : ∀ (b n : Nat), n ≤ b → n ≤ 60 → m ≤ n → n % m = 0 → ∀ y y' : List Int, y.length = topN m → y'.length = topN m → wid m n y = wid m n y' → y = y' := by
  intro b
  induction b with
  | zero => intro n hb _ hm; omega
  | succ b ih =>
    intro n hb h2 mn hd y y' hy hy' e
    by_cases hn : n = m
    · rw [hn, wid_self m1 (by omega) hy, wid_self m1 (by omega) hy'] at e
      exact e
    · have hN : m * (n / m) = n := Nat.mul_div_cancel' (Nat.dvd_of_mod_eq_zero hd)
      have N2 : 2 ≤ n / m := by
        generalize n / m = N at hN
        match N, hN with
        | 0, hN => rw [Nat.mul_zero] at hN; omega
        | 1, hN => rw [Nat.mul_one] at hN; omega
        | N + 2, _ => omega
      have N60 : n / m ≤ 60 := Nat.le_trans (Nat.div_le_self _ _) h2
      have q := List.all_eq_true.mp (List.all_eq_true.mp pr_end (n / m) (List.mem_range.mpr (by omega))) (n / m) (List.mem_range.mpr (by omega))
      rw [decide_eq_false (show ¬ n / m < 2 by omega), decide_eq_false (show ¬ n / m % (n / m) ≠ 0 by rw [Nat.mod_self]; omega), Bool.false_or, Bool.false_or, List.any_eq_true] at q
      obtain ⟨p, hp, ep⟩ := q
      obtain ⟨_, hps, _⟩ := okN_of (show 1 ≤ n / m by omega) N60
      obtain ⟨p, rfl⟩ := Int.eq_ofNat_of_zero_le (show 0 ≤ p by have := (hps p hp).1; omega)
      have ep := of_decide_eq_true ep
      rw [Int.toNat_natCast] at ep
      have dp : n % p = 0 := by
        rw [← hN, Nat.mul_mod, ep, Nat.mul_zero, Nat.zero_mod]
      have hp' := pr_of (show 1 ≤ n / m by omega) N60 (show 1 ≤ n by omega) h2 hp dp
      obtain ⟨p2, d, q1, qn, e1, mm⟩ := p_facts (show 1 ≤ n by omega) h2 hp'
      have dm : n / p % m = 0 := by
        have f : n / p = m * (n / m / p) := by
          have := Nat.mul_div_cancel' (Nat.dvd_of_mod_eq_zero ep)
          refine Nat.div_eq_of_eq_mul_right (by omega) ?_
          rw [Nat.mul_left_comm, this, hN]
        rw [f, Nat.mul_mod_right]
      have mq : m ≤ n / p := Nat.le_of_dvd (by omega) (Nat.dvd_of_mod_eq_zero dm)
      have lt : n / p < n := Nat.div_lt_self (by omega) (by omega)
      rw [← wid_wid m1 h2 mq qn dm mm y, ← wid_wid m1 h2 mq qn dm mm y'] at e
      exact ih (n / p) (by omega) (by omega) mq dm y y' hy hy' (inj1 (by omega) h2 hp' (wid_len ..) (wid_len ..) e)
/-- where it can't be narrowed some turning changes it -/
theorem none_up {n s m p : Nat} (m1 : 1 ≤ m) (h2 : n ≤ 60) (s1 : 1 ≤ s) (sn : s ≤ n) (ds : n % s = 0) (hp : (p : Int) ∈ primesM s) (dm : s / p % m = 0) {x : List Int} (hx : x.length = topN s) (h : ¬ ∀ t c, 1 ≤ t → t < p → c < topN (s / p) → dF s p t (co x) c = 0) :
    ∃ k ∈ unN n, k % m = 1 % m ∧ trn n (topN n) (RN n) (k : Int) (wid s n x) ≠ wid s n x := by
  obtain ⟨k, hk, e, ne⟩ := none1 s1 (by omega) hp hx h
  obtain ⟨k', hk', e'⟩ := un_lift s1 h2 sn ds hk
  obtain ⟨p2, d, q1, qn, e1, mm⟩ := p_facts s1 (by omega) hp
  refine ⟨k', hk', ?_, fun z => ?_⟩
  · have dq : m ∣ s / p := Nat.dvd_of_mod_eq_zero dm
    have dsm : m ∣ s := Nat.dvd_trans dq ⟨p, by rw [Nat.mul_comm, d]⟩
    have f1 : k' % m = k' % s % m := (Nat.mod_mod_of_dvd _ dsm).symm
    have f2 : k % m = k % (s / p) % m := (Nat.mod_mod_of_dvd _ dq).symm
    rw [f1, e', Nat.mod_mod_of_dvd _ dsm, f2, e, Nat.mod_mod_of_dvd _ dq]
  · rw [wid_trn s1 h2 sn ds hk' e'] at z
    exact ne (inj s1 n n (Nat.le_refl _) h2 sn ds _ _ (trn_len ..) hx z)
end C4

set_option maxHeartbeats 4000000
namespace C4
open PySem L2 PySem.Spec PyProof.Rows
open Num
theorem eqvLI (ns ms : List Int) : PyData.eqv (.list (ns.map PyData.int)) (.list (ms.map PyData.int)) = decide (ns = ms) := by
  show PyData.eqvAll _ _ = _
  exact PySem.W.ked_eqvAll ns ms
theorem eqvTI (ns ms : List Int) : PyData.eqv (.tuple (ns.map PyData.int)) (.tuple (ms.map PyData.int)) = decide (ns = ms) := by
  show PyData.eqvAll _ _ = _
  exact PySem.W.ked_eqvAll ns ms
theorem shapedLI (ns : List Int) : SeqAt.shaped (.list (ns.map PyData.int)) = true := by
  unfold SeqAt.shaped
  rw [Bool.and_eq_true]
  refine ⟨by simp only [PyData.canLay0]; exact PySem.W.ke_canLayAll0 ns, decide_eq_true ?_⟩
  simp only [PyData.depth, PySem.W.ke_depthAll]
  omega
theorem shapedTI (ns : List Int) : SeqAt.shaped (.tuple (ns.map PyData.int)) = true := by
  unfold SeqAt.shaped
  rw [Bool.and_eq_true]
  refine ⟨by simp only [PyData.canLay0]; exact PySem.W.ke_canLayAll0 ns, decide_eq_true ?_⟩
  simp only [PyData.depth, PySem.W.ke_depthAll]
  omega
theorem look_iff {n : Nat} (h1 : 1 ≤ n) (h2 : n ≤ 60) (us vs : List Int) : (∀ k, k < n → lks n (steps n (primesM n)) (co (dRow n (foldL n us) (foldL n vs))) k = 0) ↔ numL n (topN n) (RN n) us = numL n (topN n) (RN n) vs := by
  obtain ⟨G, _⟩ := goodN h1 h2
  obtain ⟨_, hps, _⟩ := okN_of h1 h2
  have hn : 0 < n := h1
  constructor
  · intro h
    have z := phi_look G (primesM n) _ (fun p hp => ⟨hp, (hps p hp).1⟩) h
    refine ext_co (by rw [numL_len, numL_len]) fun j hj => ?_
    rw [numL_len] at hj
    have := z 0 j
    unfold phi at this
    rw [sumF_congr _ _ (fun k => co (foldL n us) k * co (ro (RN n) k) j - co (foldL n vs) k * co (ro (RN n) k) j) fun k hk => by
      rw [dRow_co hk, Int.sub_mul, Nat.add_zero]
      unfold rh
      rw [Nat.mod_eq_of_lt hk], sumF_sub] at this
    have e : ∀ ws : List Int, sumF n (fun k => co (foldL n ws) k * co (ro (RN n) k) j) = sig n (RN n) j ws 0 := fun ws => by
      rw [← lin_foldL n hn (RN n) ws j, lin_sum, G.len]
    rw [e, e] at this
    rw [co_numL hj, co_numL hj]
    omega
  · intro h k hk
    have a := look_num G us k hk
    have b := look_num G vs k hk
    rw [h] at a
    rw [lks_congr n hn _ (co (dRow n (foldL n us) (foldL n vs))) (fun t => (co (foldL n (numL n (topN n) (RN n) vs)) t - co (foldL n vs) t) + (-1) * (co (foldL n (numL n (topN n) (RN n) vs)) t - co (foldL n us) t)) (fun t ht => by rw [dRow_co ht]; omega) k hk, lks_add, lks_sc, a, b]
    rfl
theorem num_id {n : Nat} (h1 : 1 ≤ n) (h2 : n ≤ 60) {x : List Int} (hx : x.length = topN n) : numL n (topN n) (RN n) x = x := by
  obtain ⟨G, _⟩ := goodN h1 h2
  have tn := G.tn
  refine ext_co (by rw [numL_len, hx]) fun j hj => ?_
  rw [numL_len] at hj
  rw [co_numL hj, ← lin_foldL n h1, lin_sum, G.len, sumF_one n j _ (by omega) fun t ht hne => ?_, foldL_short (by omega), G.un j hj, co_unit hj, if_pos rfl, Int.mul_one]
  rw [foldL_short (by omega)]
  by_cases ht' : t < topN n
  · rw [G.un t ht', co_unit hj, if_neg (fun z => hne z.symm), Int.mul_zero]
  · rw [co_ge (show x.length ≤ t by omega), Int.zero_mul]
def spNouG : Sp := fun vs H Q _ => ∃ (n : Nat) (r : Addr) (a : List Int), vs = [.int n, .ref r] ∧ 1 ≤ n ∧ n ≤ 60 ∧ H r = some (.lst (a.map V.int)) ∧ a.length = n ∧ ∀ (c : Bool) H', Same H H' → (c = true ↔ ∀ k, k < n → lks n (steps n (primesM n)) (co a) k = 0) → Q (.bl c) H'
def spAliG (K : PySem.W.Frag) : Sp := fun vs H Q _ => ∃ (n : Nat) (a b : Addr) (us ws : List Int), vs = [.int n, .ref a, .ref b] ∧ 1 ≤ n ∧ n ≤ 60 ∧ (SqL K H a (us.map V.int) ∨ SqT K H a (us.map V.int)) ∧ (SqL K H b (ws.map V.int) ∨ SqT K H b (ws.map V.int)) ∧ us.length ≤ 100000 ∧ ws.length ≤ 100000 ∧ ∀ (c : Bool) H', Same H H' → (c = true ↔ numL n (topN n) (RN n) us = numL n (topN n) (RN n) ws) → Q (.bl c) H'
section
variable {P : Program} {w : World} {K : PySem.W.Frag} {mg : Str → Option Value} {base : Heap}
theorem ok_nouG {f : Addr} {fd : FuncData} (F : Fun K "_law_is_nought" "_law_is_nought" sNou f fd) (T : Bl mg) (GP : Fn P w K mg base CX0 1 "_law_primes" ["_law_n"] spPrimes) : FnOk P w K mg base CX0 2 f fd ["_law_n", "_law_row_here"] spNouG := by
  refine F.ok scNou (fun vs H Q E h => ?_) (fun cdv A outer s H vs Q E hr h => ?_)
  · obtain ⟨n, r, a, rfl, _⟩ := h; rfl
  · obtain ⟨n, r, a, rfl, n1, n60, hr0, hal, q⟩ := h
    refine ⟨_, pss_cons (ps_for PassesOwn.never rfl (itL K (fnc GP hr pass0 (pc (vn 0) pa_nil))) (gnf 2 rfl)
        (pss_one (sset 1 rfl (cmp ["_law_k"] [0, 1, 2] ["_law_k", "_law_n", "_law_row_here", "_law_p"] rfl (rng1 T.range (pc (vn 0) pa_nil)) (fun _ _ _ _ _ => gn 0) (fun _ _ _ _ _ => pif_nil)
          (fun _ _ _ _ _ => pe_op op_sub (pe_ix (ixL K) (vn 2) (vn 0) (fun _ _ => rfl)) (pe_ix (ixL K) (vn 2) (pe_op op_mod (pe_op op_sub (vn 0) (pe_op op_fdiv (vn 1) (vn 3))) (vn 1)) (fun _ _ => rfl)))))))
      (pss_one (ps_ret (pe_cmpR (eqDK K hr.units) (vn 1) (cmp ["_law_k"] [] ["_law_k"] rfl (rng1 T.range (pc (vn 0) pa_nil)) (fun _ _ _ _ _ => gn 0) (fun _ _ _ _ _ => pif_nil) (fun _ _ _ _ _ => pe_int)) (nomark _)))), ?_⟩
    refine ⟨_, rfl, n, rfl, n1, n60, fun lp H1 s1 hp => ⟨lp, rfl, ⟨_, .of hp⟩, ?_⟩⟩
    obtain ⟨_, hps, _⟩ := okN_of n1 n60
    refine for_seq (seq_lst (K := K) (.of hp)) (fun i σ' H' => ∃ (b : List Int) (r' : Addr) (v2 : Option V), σ' = [some (.int n), some (.ref r'), v2] ∧ Same H1 H' ∧ H' r' = some (.lst (b.map V.int)) ∧ b.length = n ∧ ∀ k, k < n → co b k = lks n ((steps n (primesM n)).take i) (co a) k)
      ⟨a, r, _, rfl, Same.refl _, s1 _ _ hr0, hal, fun k hk => rfl⟩ (fun i σ' H' h => h.choose_spec.choose_spec.choose_spec.2.1) ?_ ?_
    · rintro i x σ' H' hx ⟨b, r', v2, rfl, sm, hb, hbl, hco⟩
      obtain ⟨hi, rfl⟩ := map_get hx
      generalize hpp : co (primesM n) i = p at *
      have hpm : p ∈ primesM n := by
        rw [← hpp]
        exact List.mem_of_getElem? (co_get hi)
      obtain ⟨p2, p60⟩ := hps p hpm
      refine ⟨_, rfl, n, rfl, by omega, by omega, ?_⟩
      have hs : n / p.toNat ≤ n := Nat.div_le_self _ _
      have eD : (n : Int) / p = ((n / p.toNat : Nat) : Int) := (congrArg (fun x : Int => (n : Int) / x) (show p = ((p.toNat : Nat) : Int) by omega)).trans rfl
      refine comp_map (seq_rng 0 (n : Int).toNat) [some (.int n), some (.ref r'), some (.int p)] rfl (fRow n b (n / p.toNat)) (by rw [List.length_map, rngI_len]; omega) (fun j x H2 hx2 s2 R g => ?_) (fun l H2 nl s2 hl => ?_)
      · obtain ⟨z, rfl, hz2⟩ := mem_map_get hx2
        obtain ⟨z1, z2⟩ := rngI_mem hz2
        obtain ⟨k, rfl⟩ := Int.eq_ofNat_of_zero_le z1
        have hk : k < n := by omega
        have hb2 := s2 _ _ hb
        have hm : (k + (n - n / p.toNat)) % n < b.length := by rw [hbl]; exact Nat.mod_lt _ n1
        refine ⟨_, rfl, _, rfl, r', _, _, _, rfl, rfl, .of hb2, get_map (by omega), _, rfl, _, rfl, _, rfl, _, rfl, _, _, rfl, rfl, ⟨by omega, by omega⟩, _, _, rfl, rfl, _, rfl, _, _, rfl, rfl, (by show (0 : Int) < n; omega), r', _, _, .int (co b ((k + (n - n / p.toNat)) % n)), rfl, rfl, .of hb2, ?_, _, _, rfl, rfl, ?_⟩
        · rw [eD, modI n1 hs]
          exact get_map hm
        · have := g H2 (Same.refl _)
          show R (.int (co b k - co b ((k + (n - n / p.toNat)) % n))) H2
          have e : fRow n b (n / p.toNat) (.int (k : Int)) = V.int (co b k - co b ((k + (n - n / p.toNat)) % n)) := by
            show V.int (co b (k : Int).toNat - co b (((k : Int).toNat + (n - n / p.toNat)) % n)) = _
            rw [Int.toNat_natCast]
          rw [← e]
          exact this
      · rw [Int.toNat_natCast, fRow_map] at hl
        refine ⟨nxRow n b (n / p.toNat), l, _, rfl, sm.trans s2, hl, ?_, fun k hk => ?_⟩
        · unfold nxRow; rw [List.length_map, List.length_range]
        · rw [nxRow_co hk]
          have hst : (steps n (primesM n))[i]? = some (n / p.toNat) := by
            unfold steps
            rw [List.getElem?_map, co_get hi, hpp]
            rfl
          have ht : (steps n (primesM n)).take (i + 1) = (steps n (primesM n)).take i ++ [n / p.toNat] := by
            rw [List.take_succ, hst]
            rfl
          rw [ht]
          unfold lks
          rw [List.foldl_append]
          show lk n (n / p.toNat) (co b) k = lk n (n / p.toNat) (lks n ((steps n (primesM n)).take i) (co a)) k
          unfold lk
          rw [hco k hk, hco _ (Nat.mod_lt _ n1)]
    · rintro σ' H' ⟨b, r', v2, rfl, sm, hb, hbl, hco⟩
      rw [List.length_map] at hco
      have hco : ∀ k, k < n → co b k = lks n (steps n (primesM n)) (co a) k := fun k hk => by
        rw [hco k hk]
        have : (steps n (primesM n)).take (primesM n).length = steps n (primesM n) := List.take_of_length_le (by unfold steps; rw [List.length_map]; exact Nat.le_refl _)
        rw [this]
      refine ⟨_, rfl, _, rfl, n, rfl, by omega, by omega, ?_⟩
      refine comp_map (seq_rng 0 (n : Int).toNat) [] rfl (fun _ => .int 0) (by rw [List.length_map, rngI_len]; omega) (fun i x H2 hx s' R g => g H2 (Same.refl _)) (fun l H2 nl s2 hl => ?_)
      rw [Int.toNat_natCast, zeros_map] at hl
      refine ⟨_, _, .lst (.of (s2 _ _ hb)) (RdDs.ints _), .lst (.of hl) (RdDs.ints _), shapedLI _, shapedLI _, ?_⟩
      refine q _ H2 ((s1.trans sm).trans s2) ?_
      rw [eqvLI, decide_eq_true_eq]
      have cr : ∀ k, co (List.replicate n (0 : Int)) k = 0 := fun k => co_rep n k
      constructor
      · intro e k hk
        rw [← hco k hk, e, cr]
      · intro e
        refine ext_co (by rw [hbl, List.length_replicate]) fun k hk => ?_
        rw [hbl] at hk
        rw [hco k hk, e k hk, cr]
theorem ok_aliG {f : Addr} {fd : FuncData} (F : Fun K "_law_is_alike" "_law_is_alike" sAli f fd) (T : Bl mg) (GR : Fn P w K mg base CX0 1 "_law_row" ["_law_n", "_law_powers"] (spRow K)) (GN : Fn P w K mg base CX0 2 "_law_is_nought" ["_law_n", "_law_row_here"] spNouG) :
    FnOk P w K mg base CX0 3 f fd ["_law_n", "_law_one", "_law_other"] (spAliG K) := by
  refine F.ok scAli (fun vs H Q E h => ?_) (fun cdv A outer s H vs Q E hr h => ?_)
  · obtain ⟨n, a, b, us, ws, rfl, _⟩ := h; rfl
  · obtain ⟨n, a, b, us, ws, rfl, n1, n60, hA, hB, hul, hwl, q⟩ := h
    refine ⟨_, pss_cons (sset 3 rfl (fnc GR hr pass0 (pc (vn 0) (pc (vn 1) pa_nil)))) (pss_cons (sset 4 rfl (fnc GR hr pass0 (pc (vn 0) (pc (vn 2) pa_nil))))
      (pss_one (ps_ret (fnc GN hr pass0 (pc (vn 0) (pc (cmp ["_law_k"] [3, 4] ["_law_k", "_law_first", "_law_second"] rfl (rng1 T.range (pc (vn 0) pa_nil)) (fun _ _ _ _ _ => gn 0) (fun _ _ _ _ _ => pif_nil)
        (fun _ _ _ _ _ => pe_op op_sub (pe_ix (ixL K) (vn 1) (vn 0) (fun _ _ => rfl)) (pe_ix (ixL K) (vn 2) (vn 0) (fun _ _ => rfl)))) pa_nil)))))), ?_⟩
    refine ⟨_, rfl, _, rfl, n, a, us, rfl, n1, n60, hA, hul, fun l1 H1 s1 h1 => ?_⟩
    refine ⟨_, rfl, _, rfl, n, b, ws, rfl, n1, n60, seqMono s1 hB, hwl, fun l2 H2 s2 h2 => ?_⟩
    refine ⟨_, rfl, _, rfl, n, rfl, by omega, by omega, ?_⟩
    refine comp_map (seq_rng 0 (n : Int).toNat) [some (.ref l1), some (.ref l2)] rfl (fD (foldL n us) (foldL n ws)) (by rw [List.length_map, rngI_len]; omega) (fun j x H3 hx s3 R g => ?_) (fun l H3 nl s3 hl => ?_)
    · obtain ⟨z, rfl, hz⟩ := mem_map_get hx
      obtain ⟨z1, z2⟩ := rngI_mem hz
      obtain ⟨k, rfl⟩ := Int.eq_ofNat_of_zero_le z1
      have hk : k < n := by omega
      refine ⟨_, rfl, _, rfl, l1, _, _, _, rfl, rfl, .of (s3 _ _ (s2 _ _ h1)), get_map (by rw [foldL_len]; exact hk), _, rfl, _, rfl, l2, _, _, _, rfl, rfl, .of (s3 _ _ h2), get_map (by rw [foldL_len]; exact hk), _, _, rfl, rfl, ?_⟩
      have := g H3 (Same.refl _)
      have e : fD (foldL n us) (foldL n ws) (.int (k : Int)) = V.int (co (foldL n us) k - co (foldL n ws) k) := by
        show V.int (co _ (k : Int).toNat - co _ (k : Int).toNat) = _
        rw [Int.toNat_natCast]
      rw [e] at this
      exact this
    · rw [Int.toNat_natCast, fD_map] at hl
      exact ⟨n, l, _, rfl, n1, n60, hl, by unfold dRow; rw [List.length_map, List.length_range], fun c H4 s4 hc => q c H4 (((s1.trans s2).trans s3).trans s4) (hc.trans (look_iff n1 n60 us ws))⟩
end
end C4

set_option maxHeartbeats 4000000
namespace L2
open PySem PySem.Spec PyProof.Rows
/-- a comprehension each of whose turns makes a new list -/
theorem comp_fresh {J : It} {own : List Str} {caps : List Nat} {te : TE} {σ : St} {H : Hp} {Q : VK} {xs : List V} (S : SeqIt J H xs) (cs : St) (hcs : capS own caps σ = none :: cs) (zs : List V) (hz : xs.length ≤ 1000000)
    (hs : ∀ x H', Same H H' → ∀ R : VK, (∀ q H5, Same H' H5 → H' q = none → H5 q = some (.lst zs) → R (.ref q) H5) → te (some x :: cs) H' R)
    (hd : ∀ D (bs : List Addr) H', H D = none → Same H H' → H' D = some (.lst (bs.map V.ref)) → bs.length = xs.length → bs.Nodup → (∀ b ∈ bs, H b = none ∧ b ≠ D ∧ H' b = some (.lst zs)) → Q (.ref D) H') : CompK own caps (gName 0) tTrue te σ Q J H := by
  refine comp_gen (xs := xs) (fun D i ys H' => Same H H' ∧ ∃ bs : List Addr, ys = bs.map V.ref ∧ bs.length = i ∧ bs.Nodup ∧ ∀ b ∈ bs, H b = none ∧ b ≠ D ∧ H' b = some (.lst zs)) cs hcs hz ?_ ?_ ?_ ?_
  · rintro D i ys H' hD hD' ⟨s, _⟩
    exact ⟨fun hi => ⟨S.go i H' s hi, fun x H3 y => S.yld i H' x H3 s hi y⟩, fun e => e ▸ S.stop H' s⟩
  · intro D hD
    exact ⟨Same.upd hD, [], rfl, rfl, List.nodup_nil, fun b h => by cases h⟩
  · rintro D i x ys H' hD hD' hx ⟨s, bs, rfl, hl, nd, hb⟩ R k
    refine hs x H' s R fun q H5 s5 nq h5 => ?_
    have h5D := s5 _ _ hD'
    have qD : q ≠ D := fun z => by rw [z, hD'] at nq; cases nq
    refine k _ H5 h5D ⟨(s.trans s5).updr hD, bs ++ [q], by rw [List.map_append]; rfl, by rw [List.length_append]; simp [hl], ?_, fun b hb' => ?_⟩
    · rw [List.nodup_append]
      refine ⟨nd, List.nodup_cons.mpr ⟨fun z => (by cases z), List.nodup_nil⟩, fun a ha b hb' e => ?_⟩
      rw [List.mem_singleton.mp hb'] at e
      have := (hb a ha).2.2
      rw [e, nq] at this
      cases this
    · rcases List.mem_append.mp hb' with h | h
      · obtain ⟨g1, g2, g3⟩ := hb b h
        exact ⟨g1, g2, by rw [upd_ne g2]; exact s5 _ _ g3⟩
      · rw [List.mem_singleton.mp h]
        exact ⟨s.free nq, qD, by rw [upd_ne qD]; exact h5⟩
  · rintro D ys H' hD hD' hyl ⟨s, bs, rfl, hl, nd, hb⟩
    exact hd D bs H' hD s hD' hl nd hb
/-- a comprehension over references, each giving a new tuple of ints -/
theorem comp_ix {J : It} {own : List Str} {caps : List Nat} {te : TE} {σ : St} {H : Hp} {Q : VK} {as : List Addr} (S : SeqIt J H (as.map V.ref)) (cs : St) (hcs : capS own caps σ = none :: cs) (g : Nat → List Int) (hz : as.length ≤ 1000000)
    (hs : ∀ (i : Nat) a H', as[i]? = some a → Same H H' → ∀ R : VK, (∀ q H5, Same H' H5 → H5 q = some (.tup ((g i).map V.int)) → R (.ref q) H5) → te (some (.ref a) :: cs) H' R)
    (hd : ∀ D (bs : List Addr) H', H D = none → Same H H' → H' D = some (.lst (bs.map V.ref)) → bs.length = as.length → (∀ (i : Nat) b, bs[i]? = some b → H' b = some (.tup ((g i).map V.int))) → Q (.ref D) H') : CompK own caps (gName 0) tTrue te σ Q J H := by
  refine comp_gen (xs := as.map V.ref) (fun D i ys H' => Same H H' ∧ ∃ bs : List Addr, ys = bs.map V.ref ∧ bs.length = i ∧ ∀ (j : Nat) b, bs[j]? = some b → H' b = some (.tup ((g j).map V.int))) cs hcs (by rw [List.length_map]; exact hz) ?_ ?_ ?_ ?_
  · rintro D i ys H' hD hD' ⟨s, _⟩
    exact ⟨fun hi => ⟨S.go i H' s hi, fun x H3 y => S.yld i H' x H3 s hi y⟩, fun e => e ▸ S.stop H' s⟩
  · intro D hD
    exact ⟨Same.upd hD, [], rfl, rfl, fun j b h => by cases h⟩
  · rintro D i x ys H' hD hD' hx ⟨s, bs, rfl, hl, hb⟩ R k
    rw [List.getElem?_map] at hx
    cases e : as[i]? with
    | none => rw [e] at hx; cases hx
    | some a =>
      rw [e] at hx
      cases hx
      refine hs i a H' e s R fun q H5 s5 h5 => ?_
      have h5D := s5 _ _ hD'
      have ne : ∀ {b ws}, H5 b = some (.tup ws) → b ≠ D := fun {b ws} hb z => by rw [z, h5D] at hb; cases hb
      refine k _ H5 h5D ⟨(s.trans s5).updr hD, bs ++ [q], by rw [List.map_append]; rfl, by rw [List.length_append]; simp [hl], fun j b hj => ?_⟩
      by_cases hj' : j < bs.length
      · rw [List.getElem?_append_left hj'] at hj
        have h2 := hb j b hj
        rw [upd_ne (ne (s5 _ _ h2))]; exact s5 _ _ h2
      · rw [List.getElem?_append_right (by omega)] at hj
        have e0 : j - bs.length = 0 := by
          apply Classical.byContradiction
          intro z
          rw [List.getElem?_eq_none (by rw [List.length_singleton]; omega)] at hj
          cases hj
        rw [e0] at hj
        cases hj
        have : j = i := by omega
        rw [this, upd_ne (ne h5)]
        exact h5
  · rintro D ys H' hD hD' hyl ⟨s, bs, rfl, hl, hb⟩
    rw [List.length_map] at hl
    exact hd D bs H' hD s hD' hl hb
end L2
namespace C4
open PySem L2 PySem.Spec PyProof.Rows
open Num
abbrev sNarrowed : Stmt := top 10
abbrev sOnce : Stmt := top 11
abbrev sParted : Stmt := top 12
abbrev sDivided : Stmt := top 13
theorem tF_nonneg {p step j : Int} : ∀ (f : Nat) (t : Int), 0 ≤ t → 0 ≤ tF p step j f t
  | 0, t, h => h
  | f + 1, t, h => by
    rw [tF]
    split
    · exact h
    · exact tF_nonneg f (t + 1) (by omega)
def pA (p q step : Nat) (xs : List Int) : Nat → Nat → List Int
  | 0, _ => List.replicate q 0
  | j + 1, t => if t = tA p step j then (pA p q step xs j t).set (iA p q step j) (co (pA p q step xs j t) (iA p q step j) + co xs j) else pA p q step xs j t
theorem pA_len (p q step : Nat) (xs : List Int) (t : Nat) : ∀ j, (pA p q step xs j t).length = q
  | 0 => List.length_replicate ..
  | j + 1 => by
    rw [pA]
    split
    · rw [List.length_set, pA_len p q step xs t j]
    · exact pA_len p q step xs t j
theorem pA_sig {p q step : Nat} {xs : List Int} {R : List (List Int)} {t c : Nat} : ∀ k, (∀ a, a < k → iA p q step a < q) → sig q R c (pA p q step xs k t) 0 = sumF k fun a => if tA p step a = t then co xs a * co (ro R (iA p q step a)) c else 0
  | 0, _ => by rw [pA, sig_zeros]; rfl
  | k + 1, h => by
    have ih := pA_sig (p := p) (q := q) (step := step) (xs := xs) (R := R) (t := t) (c := c) k fun a ha => h a (by omega)
    have hi := h k (by omega)
    rw [sumF_last, pA]
    by_cases e : t = tA p step k
    · rw [if_pos e, if_pos e.symm, sig_set _ _ _ _ _ _ _ (by rw [pA_len]; exact hi), ih, Nat.zero_add, Nat.mod_eq_of_lt hi]
    · rw [if_neg e, if_neg (fun z => e z.symm), ih, Int.add_zero]
def Sv (n p : Nat) (xs : List Int) (t : Nat) : List Int := numL (n / p) (topN (n / p)) (RN (n / p)) (pA p (n / p) (stp n p) xs xs.length t)
def lastv (n p : Nat) (xs : List Int) : List Int := if n / p % p = 0 then zer (topN (n / p)) else Sv n p xs (p - 1)
theorem Sv_len (n p : Nat) (xs : List Int) (t : Nat) : (Sv n p xs t).length = topN (n / p) := numL_len ..
theorem dF_S {n p : Nat} (h1 : 1 ≤ n) (h2 : n ≤ 60) (hp : (p : Int) ∈ primesM n) {xs : List Int} (hx : xs.length = topN n) (t : Nat) {c : Nat} (hc : c < topN (n / p)) : co (Sv n p xs t) c - co (lastv n p xs) c = dF n p t (co xs) c := by
  have hi : ∀ a, a < xs.length → iA p (n / p) (stp n p) a < n / p := fun a ha => ((cutN h1 h2 hp).2 a (by omega)).2.1
  have e : ∀ t, co (Sv n p xs t) c = sumF xs.length fun a => if tA p (stp n p) a = t then co xs a * co (ro (RN (n / p)) (iA p (n / p) (stp n p) a)) c else 0 := fun t => by
    unfold Sv
    rw [co_numL hc, pA_sig _ hi]
  unfold dF Df lastv cf dlt
  by_cases h0 : n / p % p = 0
  · rw [if_pos h0, e, zer_co, Int.sub_zero, hx]
    refine sumF_congr _ _ _ fun a _ => ?_
    rw [decide_eq_false (by omega : ¬ n / p % p ≠ 0)]
    by_cases ht : tA p (stp n p) a = t
    · rw [if_pos ht, if_pos ht]
      simp
    · rw [if_neg ht, if_neg ht]
      simp
  · rw [if_neg h0, e, e, ← sumF_sub, hx]
    refine sumF_congr _ _ _ fun a _ => ?_
    rw [decide_eq_true h0]
    by_cases ht : tA p (stp n p) a = t
    · rw [if_pos ht, if_pos ht]
      by_cases h3 : tA p (stp n p) a = p - 1
      · rw [if_pos h3, if_pos ⟨rfl, h3⟩]; simp
      · rw [if_neg h3, if_neg (fun z => h3 z.2)]; simp
    · rw [if_neg ht, if_neg ht]
      by_cases h3 : tA p (stp n p) a = p - 1
      · rw [if_pos h3, if_pos ⟨rfl, h3⟩]
        simp [Int.neg_mul, Int.mul_neg]
      · rw [if_neg h3, if_neg (fun z => h3 z.2)]; simp
theorem lastv_len {n p : Nat} (xs : List Int) (t1 : 1 ≤ topN (n / p)) : (lastv n p xs).length = topN (n / p) := by
  unfold lastv
  split
  · exact zer_len t1
  · exact Sv_len ..
/-- all parts but the first are the last one -/
def flat (n p : Nat) (xs : List Int) : Prop := ∀ t, 1 ≤ t → t < p → Sv n p xs t = lastv n p xs
theorem flat_iff {n p : Nat} (h1 : 1 ≤ n) (h2 : n ≤ 60) (hp : (p : Int) ∈ primesM n) {xs : List Int} (hx : xs.length = topN n) : flat n p xs ↔ ∀ t c, 1 ≤ t → t < p → c < topN (n / p) → dF n p t (co xs) c = 0 := by
  obtain ⟨p2, d, q1, qn, _, _⟩ := p_facts h1 h2 hp
  obtain ⟨G, _⟩ := goodN q1 (show n / p ≤ 60 by omega)
  constructor
  · intro f t c t1 ht hc
    rw [← dF_S h1 h2 hp hx t hc, f t t1 ht, Int.sub_self]
  · intro f t t1 ht
    refine ext_co (by rw [Sv_len, lastv_len xs G.t1]) fun c hc => ?_
    rw [Sv_len] at hc
    have := dF_S h1 h2 hp hx t hc
    rw [f t c t1 ht hc] at this
    omega
theorem nar_eq {n p : Nat} (h1 : 1 ≤ n) (h2 : n ≤ 60) (hp : (p : Int) ∈ primesM n) {xs : List Int} (hx : xs.length = topN n) : List.zipWith (· - ·) (Sv n p xs 0) (lastv n p xs) = (List.range (topN (n / p))).map fun c => dF n p 0 (co xs) c := by
  obtain ⟨p2, d, q1, qn, _, _⟩ := p_facts h1 h2 hp
  obtain ⟨G, _⟩ := goodN q1 (show n / p ≤ 60 by omega)
  have ll := lastv_len (n := n) (p := p) xs G.t1
  refine List.ext_getElem? fun c => ?_
  by_cases hc : c < topN (n / p)
  · rw [List.getElem?_zipWith, co_get (by rw [Sv_len]; exact hc), co_get (by rw [ll]; exact hc), List.getElem?_map, List.getElem?_range hc]
    exact congrArg some (dF_S h1 h2 hp hx 0 hc)
  · rw [List.getElem?_eq_none (by rw [List.length_zipWith, Sv_len]; omega), List.getElem?_eq_none (by rw [List.length_map, List.length_range]; omega)]
end C4

set_option maxHeartbeats 4000000
namespace C4
open PySem L2 PySem.Spec PyProof.Rows
open Num
def spParted (K : PySem.W.Frag) : Sp := fun vs H Q _ => ∃ (n p : Nat) (a : Addr) (xs : List Int), vs = [.int n, .ref a, .int p] ∧ 1 ≤ n ∧ n ≤ 60 ∧ (p : Int) ∈ primesM n ∧ H a = some (.tup (xs.map V.int)) ∧ xs.length = topN n ∧
  ∀ l (bs : List Addr) H', Same H H' → H' l = some (.lst (bs.map V.ref)) → bs.length = p → (∀ (t : Nat) b, bs[t]? = some b → H' b = some (.tup ((Sv n p xs t).map V.int))) → Q (.ref l) H'
section
variable {P : Program} {w : World} {K : PySem.W.Frag} {mg : Str → Option Value} {base : Heap}
theorem scParted : FnScope ["n", "one", "p", "q", "step", "sums", "j", "x", "t"] ["n", "one", "p"] (defScope sParted) := ⟨rfl, rfl, rfl, by decide +kernel, rfl, by decide +kernel, by decide +kernel⟩
theorem ok_parted {f : Addr} {fd : FuncData} (F : Fun K "parted" "parted" sParted f fd) (T : Bl mg) (T2 : Bl2 mg) (GN : Fn P w K mg base CX0 3 "number_of" ["n", "powers"] (spNumOf K)) : FnOk P w K mg base CX0 4 f fd ["n", "one", "p"] (spParted K) := by
  refine F.ok scParted (fun vs H Q E h => ?_) (fun cdv A outer s H vs Q E hr h => ?_)
  · obtain ⟨n, p, a, xs, rfl, _⟩ := h; rfl
  · obtain ⟨n, p, a, xs, rfl, n1, n60, hp, hA, hx, q⟩ := h
    refine ⟨_, pss_cons (sset 3 rfl (pe_op op_fdiv (vn 0) (vn 2)))
      (pss_cons (sset 4 rfl (pe_ifExp (pt_cmpR op_eq (pe_op op_mod (vn 3) (vn 2)) pe_int (nomark _)) pe_int (vn 3)))
      (pss_cons (setc 5 ["t"] [3] ["t", "q"] rfl rfl (rng1 T.range (pc (vn 2) pa_nil)) (fun _ _ _ _ _ => gn 0) (fun _ _ _ _ _ => pif_nil) (fun _ _ _ _ _ => pe_op op_rep (pe_lst (pc pe_int pa_nil)) (vn 1)))
      (pss_cons (ps_for PassesOwn.never rfl (enumSK K T2.enumerate (pc (vn 1) pa_nil)) (g2 K 6 7 rfl (gn 6) (gn 7))
        (pss_cons (sset 8 rfl pe_int)
        (pss_cons (ps_while PassesOwn.never (pt_cmpR op_ne (pe_op op_mod (pe_op op_sub (vn 6) (pe_op op_mul (vn 8) (vn 4))) (vn 2)) pe_int (nomark _)) (pss_one (ps_aug (i := 8) (nodupS_ok (by kernel_rfl)) rfl (isLoc_ok (by kernel_rfl)) pe_int ip_add (.inl rfl))))
        (pss_one (ps_augS (pe_ix (ixL K) (vn 5) (vn 8) (fun _ _ => rfl)) (pe_op op_mod (pe_op op_fdiv (pe_op op_sub (vn 6) (pe_op op_mul (vn 8) (vn 4))) (vn 2)) (vn 3)) get_lst (vn 7) ip_add set_list)))))
      (pss_one (ps_ret (cmp ["powers"] [3] ["powers", "q"] rfl (itL K (vn 5)) (fun _ _ _ _ _ => gn 0) (fun _ _ _ _ _ => pif_nil) (fun _ _ _ _ _ => fnc GN hr pass0 (pc (vn 1) (pc (vn 0) pa_nil))))))))), ?_⟩
    obtain ⟨p2, hpq, q1, qn, _, _⟩ := p_facts n1 n60 hp
    obtain ⟨_, hps, _⟩ := okN_of n1 n60
    have p60 : p ≤ 60 := by have := (hps _ hp).2; omega
    have cut := (cutN n1 n60 hp).2
    have e7 : (16777216 : Nat) = sizeLine := by decide
    have eq : V.int ((n : Int) / (p : Int)) = V.int ((n / p : Nat) : Int) := congrArg V.int (by push_cast; rfl)
    refine ⟨_, rfl, _, rfl, _, _, rfl, rfl, ⟨(by show (0 : Int) < p; omega), (by show (p : Int) < 1073741824; omega)⟩, ?_⟩
    dsimp only
    rw [eq]
    generalize hq : n / p = Q' at *
    have estp : (if Q' % p = 0 then 1 else Q') = stp n p := by unfold stp; rw [hq]
    refine ⟨_, rfl, _, rfl, _, _, rfl, rfl, (by show (0 : Int) < p; omega), rfl, _, rfl, ?_⟩
    by_cases h0 : Q' % p = 0
    · have hSV : (1 : Int) = (stp n p : Int) := by unfold stp; rw [hq, if_pos h0]; rfl
      refine iteP (decide_eq_true (congrArg V.int (by omega))) ?_
      refine ⟨_, rfl, p, rfl, by omega, by omega, ?_⟩
      rw [Int.toNat_natCast]
      refine comp_fresh (seq_rng 0 p) [some (.int Q')] rfl ((List.replicate Q' (0 : Int)).map V.int) (by rw [List.length_map, rngI_len]; omega) (fun x0 H1 s1 R g => ?_) (fun L bs H2 nL s2 hL hbl nd hbs => ?_)
      · refine ⟨(by show 1 ≤ sizeLine; decide), fun l0 n0 => ⟨_, rfl, l0, _, _, rfl, rfl, upd_same, by omega, by omega, ?_, fun l1 nl1 => ?_⟩⟩
        · rw [Int.toNat_natCast]
          show 1 * Q' ≤ sizeLine
          omega
        · rw [Int.toNat_natCast, rep0]
          have t0 := Same.upd (H := H1) (o := .lst [.int 0]) n0
          exact g l1 _ (t0.trans (Same.upd nl1)) (t0.free nl1) upd_same
      rw [List.length_map, rngI_len] at hbl
      refine ⟨_, rfl, a, _, H, rfl, .inr (.of hA), s2, fun J At S hAt => ?_⟩
      refine for_enum S (fun i σ' H' => ∃ v6 v7 v8 : Option V, σ' = [some (.int n), some (.ref a), some (.int p), some (.int Q'), some (.int 1), some (.ref L), v6, v7, v8] ∧ Same H H' ∧ H' L = some (.lst (bs.map V.ref)) ∧ ∀ (t : Nat) b, bs[t]? = some b → H' b = some (.lst ((pA p Q' (stp n p) xs i t).map V.int)))
        ⟨_, _, _, rfl, s2, hL, fun t b hb => (hbs b (List.mem_of_getElem? hb)).2.2⟩ (fun i σ' H' h => hAt _ h.choose_spec.choose_spec.choose_spec.2.1) ?_ ?_
      · rintro i y σ' H' T' hy ⟨v6, v7, v8, rfl, sm, hL', hb'⟩ nT
        obtain ⟨hi, rfl⟩ := map_get hy
        obtain ⟨c1, c2, c3⟩ := cut i (by omega)
        have sT := Same.upd (H := H') (o := .tup [.int i, .int (co xs i)]) nT
        refine ⟨T', _, rfl, .of upd_same, rfl, _, _, rfl, _, _, rfl, rfl, ?_⟩
        have hT0 : (0 : Int) ≤ tF p (stp n p) i 60 0 := tF_nonneg _ _ (Int.le_refl 0)
        have hT : (tF p (stp n p) i 60 0) = (tA p (stp n p) i : Int) := by unfold tA; omega
        refine tw_intro (fun m σ'' H'' => ∃ t : Int, σ'' = [some (.int n), some (.ref a), some (.int p), some (.int Q'), some (.int 1), some (.ref L), some (.int i), some (.int (co xs i)), some (.int t)] ∧ H'' = upd H' T' (.tup [.int i, .int (co xs i)]) ∧ 0 ≤ t ∧ t + m ≤ 60 ∧ tF p (stp n p) i m t = (tA p (stp n p) i : Int))
          (fun σ'' H'' => σ'' = [some (.int n), some (.ref a), some (.int p), some (.int Q'), some (.int 1), some (.ref L), some (.int i), some (.int (co xs i)), some (.int (tA p (stp n p) i : Int))] ∧ H'' = upd H' T' (.tup [.int i, .int (co xs i)])) ?hend ⟨60, 0, rfl, rfl, by omega, by omega, hT⟩ ?turn
        case hend =>
          rintro σ'' H'' ⟨rfl, rfl⟩
          obtain ⟨b, hb⟩ : ∃ b, bs[tA p (stp n p) i]? = some b := ⟨_, List.getElem?_eq_getElem (by omega)⟩
          have hbH := hb' _ b hb
          have hbl2 := pA_len p Q' (stp n p) xs (tA p (stp n p) i) i
          have hLb : L ≠ b := fun z => (hbs b (List.mem_of_getElem? hb)).2.1 z.symm
          have eI : V.int (((i : Int) - (tA p (stp n p) i : Int) * 1) / (p : Int) % (Q' : Int)) = V.int ((iA p Q' (stp n p) i : Nat) : Int) := by
            have e1 : ((i : Int) - (tA p (stp n p) i : Int) * 1) = ((i : Int) - (tA p (stp n p) i : Int) * (stp n p : Int)) := by rw [hSV]
            rw [e1]
            unfold iA
            rw [Int.toNat_of_nonneg (Int.emod_nonneg _ (by omega))]
          refine ⟨_, rfl, _, rfl, L, _, _, .ref b, rfl, rfl, .of (sT _ _ hL'), atI_nat (by rw [List.getElem?_map, hb]; rfl), _, rfl, _, rfl, _, rfl, _, _, rfl, rfl, .inl ⟨by omega, by omega⟩, _, _, rfl, rfl, _, rfl, _, _, rfl, rfl, ⟨(by show (0 : Int) < p; omega), (by show (p : Int) < 1073741824; omega)⟩, _, rfl, _, _, rfl, rfl, (by show (0 : Int) < Q'; omega), b, _, iA p Q' (stp n p) i, _, rfl, eI, sT _ _ hbH, get_co (by rw [hbl2]; exact c2), _, rfl, _, _, rfl, rfl, b, _, _, iA p Q' (stp n p) i, rfl, eI, sT _ _ hbH, ?_, ?_⟩
          · rw [List.length_map]
            exact ixN_nat (by rw [hbl2]; exact c2)
          · refine ⟨_, _, _, rfl, (sm.trans sT).updr (hbs b (List.mem_of_getElem? hb)).1, ?_, fun t b2 hb2 => ?_⟩
            · rw [upd_ne hLb]
              exact sT _ _ hL'
            · rw [pA]
              by_cases et : t = tA p (stp n p) i
              · subst et
                rw [hb] at hb2
                cases hb2
                rw [upd_same, if_pos rfl, set_map]
              · have nb : b2 ≠ b := fun z => by
                  rw [z] at hb2
                  exact et ((List.getElem?_inj (List.getElem?_eq_some_iff.mp hb2).1 nd).mp (hb2.trans hb.symm))
                rw [upd_ne nb, if_neg et]
                exact sT _ _ (hb' t b2 hb2)
        case turn =>
          rintro hend m σ'' H'' ⟨t, rfl, rfl, t0, tm, ht⟩
          refine ⟨_, rfl, _, rfl, _, rfl, _, _, rfl, rfl, .inl ⟨by omega, by omega⟩, _, _, rfl, rfl, _, rfl, _, _, rfl, rfl, (by show (0 : Int) < p; omega), rfl, _, rfl, ?_⟩
          have eS : (1 : Int) = (stp n p : Int) := hSV
          refine ite2 (fun h1 => ?_) (fun h1 => ?_)
          · have h1 : ((i : Int) - t * (stp n p : Int)) % (p : Int) ≠ 0 := fun z => by
              rw [dec_int] at h1
              rw [eS, z] at h1
              simp at h1
            cases m with
            | zero =>
              have ht : t = (tA p (stp n p) i : Int) := ht
              rw [ht] at h1
              exact absurd c3 h1
            | succ m =>
              rw [tF, if_neg h1] at ht
              exact ⟨_, fun _ _ z => z, _, rfl, _, _, rfl, rfl, m, by omega, t + 1, rfl, rfl, by omega, by omega, ht⟩
          · have h1 : ((i : Int) - t * (stp n p : Int)) % (p : Int) = 0 := by
              apply Classical.byContradiction
              intro z
              apply h1
              rw [dec_int, eS]
              simp [z]
            have : t = (tA p (stp n p) i : Int) := by
              cases m with
              | zero => exact ht
              | succ m => rw [tF, if_pos h1] at ht; exact ht
            exact hend _ _ ⟨by rw [this], rfl⟩
      · rintro σ' H' ⟨v6, v7, v8, rfl, sm, hL', hb'⟩
        rw [List.length_map] at hb'
        refine ⟨_, rfl, L, rfl, ⟨_, .of hL'⟩, ?_⟩
        refine comp_ix (as := bs) (seq_lst (.of hL')) [some (.int Q')] rfl (fun t => Sv n p xs t) (by omega) (fun t b H3 hb s3 R g => ?_) (fun D cs H3 nD s3 hD hcl hcs => ?_)
        · have hl := pA_len p Q' (stp n p) xs t xs.length
          refine ⟨_, rfl, _, rfl, Q', b, _, rfl, by omega, by omega, .inl (.of (s3 _ _ (hb' t b hb))), by omega, fun qq H4 s4 h4 => g qq H4 s4 ?_⟩
          unfold Sv
          rw [hq]
          exact h4
        · exact q D cs H3 (sm.trans s3) hD (by omega) hcs
    · have hSV : (Q' : Int) = (stp n p : Int) := by unfold stp; rw [hq, if_neg h0]
      refine iteN (fun z => h0 (by have := V.int.inj (of_decide_eq_true z); omega)) ⟨_, rfl, ?_⟩
      refine ⟨_, rfl, p, rfl, by omega, by omega, ?_⟩
      rw [Int.toNat_natCast]
      refine comp_fresh (seq_rng 0 p) [some (.int Q')] rfl ((List.replicate Q' (0 : Int)).map V.int) (by rw [List.length_map, rngI_len]; omega) (fun x0 H1 s1 R g => ?_) (fun L bs H2 nL s2 hL hbl nd hbs => ?_)
      · refine ⟨(by show 1 ≤ sizeLine; decide), fun l0 n0 => ⟨_, rfl, l0, _, _, rfl, rfl, upd_same, by omega, by omega, ?_, fun l1 nl1 => ?_⟩⟩
        · rw [Int.toNat_natCast]
          show 1 * Q' ≤ sizeLine
          omega
        · rw [Int.toNat_natCast, rep0]
          have t0 := Same.upd (H := H1) (o := .lst [.int 0]) n0
          exact g l1 _ (t0.trans (Same.upd nl1)) (t0.free nl1) upd_same
      rw [List.length_map, rngI_len] at hbl
      refine ⟨_, rfl, a, _, H, rfl, .inr (.of hA), s2, fun J At S hAt => ?_⟩
      refine for_enum S (fun i σ' H' => ∃ v6 v7 v8 : Option V, σ' = [some (.int n), some (.ref a), some (.int p), some (.int Q'), some (.int Q'), some (.ref L), v6, v7, v8] ∧ Same H H' ∧ H' L = some (.lst (bs.map V.ref)) ∧ ∀ (t : Nat) b, bs[t]? = some b → H' b = some (.lst ((pA p Q' (stp n p) xs i t).map V.int)))
        ⟨_, _, _, rfl, s2, hL, fun t b hb => (hbs b (List.mem_of_getElem? hb)).2.2⟩ (fun i σ' H' h => hAt _ h.choose_spec.choose_spec.choose_spec.2.1) ?_ ?_
      · rintro i y σ' H' T' hy ⟨v6, v7, v8, rfl, sm, hL', hb'⟩ nT
        obtain ⟨hi, rfl⟩ := map_get hy
        obtain ⟨c1, c2, c3⟩ := cut i (by omega)
        have sT := Same.upd (H := H') (o := .tup [.int i, .int (co xs i)]) nT
        refine ⟨T', _, rfl, .of upd_same, rfl, _, _, rfl, _, _, rfl, rfl, ?_⟩
        have hT0 : (0 : Int) ≤ tF p (stp n p) i 60 0 := tF_nonneg _ _ (Int.le_refl 0)
        have hT : (tF p (stp n p) i 60 0) = (tA p (stp n p) i : Int) := by unfold tA; omega
        refine tw_intro (fun m σ'' H'' => ∃ t : Int, σ'' = [some (.int n), some (.ref a), some (.int p), some (.int Q'), some (.int Q'), some (.ref L), some (.int i), some (.int (co xs i)), some (.int t)] ∧ H'' = upd H' T' (.tup [.int i, .int (co xs i)]) ∧ 0 ≤ t ∧ t + m ≤ 60 ∧ tF p (stp n p) i m t = (tA p (stp n p) i : Int))
          (fun σ'' H'' => σ'' = [some (.int n), some (.ref a), some (.int p), some (.int Q'), some (.int Q'), some (.ref L), some (.int i), some (.int (co xs i)), some (.int (tA p (stp n p) i : Int))] ∧ H'' = upd H' T' (.tup [.int i, .int (co xs i)])) ?hend ⟨60, 0, rfl, rfl, by omega, by omega, hT⟩ ?turn
        case hend =>
          rintro σ'' H'' ⟨rfl, rfl⟩
          obtain ⟨b, hb⟩ : ∃ b, bs[tA p (stp n p) i]? = some b := ⟨_, List.getElem?_eq_getElem (by omega)⟩
          have hbH := hb' _ b hb
          have hbl2 := pA_len p Q' (stp n p) xs (tA p (stp n p) i) i
          have hLb : L ≠ b := fun z => (hbs b (List.mem_of_getElem? hb)).2.1 z.symm
          have eI : V.int (((i : Int) - (tA p (stp n p) i : Int) * Q') / (p : Int) % (Q' : Int)) = V.int ((iA p Q' (stp n p) i : Nat) : Int) := by
            have e1 : ((i : Int) - (tA p (stp n p) i : Int) * Q') = ((i : Int) - (tA p (stp n p) i : Int) * (stp n p : Int)) := by rw [hSV]
            rw [e1]
            unfold iA
            rw [Int.toNat_of_nonneg (Int.emod_nonneg _ (by omega))]
          refine ⟨_, rfl, _, rfl, L, _, _, .ref b, rfl, rfl, .of (sT _ _ hL'), atI_nat (by rw [List.getElem?_map, hb]; rfl), _, rfl, _, rfl, _, rfl, _, _, rfl, rfl, .inl ⟨by omega, by omega⟩, _, _, rfl, rfl, _, rfl, _, _, rfl, rfl, ⟨(by show (0 : Int) < p; omega), (by show (p : Int) < 1073741824; omega)⟩, _, rfl, _, _, rfl, rfl, (by show (0 : Int) < Q'; omega), b, _, iA p Q' (stp n p) i, _, rfl, eI, sT _ _ hbH, get_co (by rw [hbl2]; exact c2), _, rfl, _, _, rfl, rfl, b, _, _, iA p Q' (stp n p) i, rfl, eI, sT _ _ hbH, ?_, ?_⟩
          · rw [List.length_map]
            exact ixN_nat (by rw [hbl2]; exact c2)
          · refine ⟨_, _, _, rfl, (sm.trans sT).updr (hbs b (List.mem_of_getElem? hb)).1, ?_, fun t b2 hb2 => ?_⟩
            · rw [upd_ne hLb]
              exact sT _ _ hL'
            · rw [pA]
              by_cases et : t = tA p (stp n p) i
              · subst et
                rw [hb] at hb2
                cases hb2
                rw [upd_same, if_pos rfl, set_map]
              · have nb : b2 ≠ b := fun z => by
                  rw [z] at hb2
                  exact et ((List.getElem?_inj (List.getElem?_eq_some_iff.mp hb2).1 nd).mp (hb2.trans hb.symm))
                rw [upd_ne nb, if_neg et]
                exact sT _ _ (hb' t b2 hb2)
        case turn =>
          rintro hend m σ'' H'' ⟨t, rfl, rfl, t0, tm, ht⟩
          refine ⟨_, rfl, _, rfl, _, rfl, _, _, rfl, rfl, .inl ⟨by omega, by omega⟩, _, _, rfl, rfl, _, rfl, _, _, rfl, rfl, (by show (0 : Int) < p; omega), rfl, _, rfl, ?_⟩
          have eS : (Q' : Int) = (stp n p : Int) := hSV
          refine ite2 (fun h1 => ?_) (fun h1 => ?_)
          · have h1 : ((i : Int) - t * (stp n p : Int)) % (p : Int) ≠ 0 := fun z => by
              rw [dec_int] at h1
              rw [eS, z] at h1
              simp at h1
            cases m with
            | zero =>
              have ht : t = (tA p (stp n p) i : Int) := ht
              rw [ht] at h1
              exact absurd c3 h1
            | succ m =>
              rw [tF, if_neg h1] at ht
              exact ⟨_, fun _ _ z => z, _, rfl, _, _, rfl, rfl, m, by omega, t + 1, rfl, rfl, by omega, by omega, ht⟩
          · have h1 : ((i : Int) - t * (stp n p : Int)) % (p : Int) = 0 := by
              apply Classical.byContradiction
              intro z
              apply h1
              rw [dec_int, eS]
              simp [z]
            have : t = (tA p (stp n p) i : Int) := by
              cases m with
              | zero => exact ht
              | succ m => rw [tF, if_pos h1] at ht; exact ht
            exact hend _ _ ⟨by rw [this], rfl⟩
      · rintro σ' H' ⟨v6, v7, v8, rfl, sm, hL', hb'⟩
        rw [List.length_map] at hb'
        refine ⟨_, rfl, L, rfl, ⟨_, .of hL'⟩, ?_⟩
        refine comp_ix (as := bs) (seq_lst (.of hL')) [some (.int Q')] rfl (fun t => Sv n p xs t) (by omega) (fun t b H3 hb s3 R g => ?_) (fun D cs H3 nD s3 hD hcl hcs => ?_)
        · have hl := pA_len p Q' (stp n p) xs t xs.length
          refine ⟨_, rfl, _, rfl, Q', b, _, rfl, by omega, by omega, .inl (.of (s3 _ _ (hb' t b hb))), by omega, fun qq H4 s4 h4 => g qq H4 s4 ?_⟩
          unfold Sv
          rw [hq]
          exact h4
        · exact q D cs H3 (sm.trans s3) hD (by omega) hcs
end
end C4

set_option maxHeartbeats 4000000
namespace L2
theorem atI_nat' {xs : List V} {i : Int} {j : Nat} {v : V} (e : i = (j : Int)) (h : xs[j]? = some v) : atI xs i = some v := by
  rw [e]
  exact atI_nat h
end L2
namespace C4
open PySem L2 PySem.Spec PyProof.Rows
open Num
def spOnce (K : PySem.W.Frag) : Sp := fun vs H Q _ => ∃ (n p : Nat) (a : Addr) (xs : List Int), vs = [.int n, .ref a, .int p] ∧ 1 ≤ n ∧ n ≤ 60 ∧ (p : Int) ∈ primesM n ∧ H a = some (.tup (xs.map V.int)) ∧ xs.length = topN n ∧
  (∀ q H', Same H H' → flat n p xs → H' q = some (.tup ((List.zipWith (· - ·) (Sv n p xs 0) (lastv n p xs)).map V.int)) → Q (.ref q) H') ∧ (∀ H', Same H H' → ¬ flat n p xs → Q .non H')
theorem whl_one {n : Nat} (n1 : 1 ≤ n) (n60 : n ≤ 60) (k : Int) : (k :: List.replicate (phiM n - 1).toNat (0 : Int)) = k :: List.replicate (topN n - 1) 0 := by
  obtain ⟨_, ht⟩ := goodN n1 n60
  rw [← ht]
  congr 2
  omega
def fNe (n p : Nat) (xs : List Int) : V → V
  | .int t => .bl (!decide (Sv n p xs t.toNat = lastv n p xs))
  | y => y
theorem fNe_map (n p : Nat) (xs : List Int) (m : Nat) : ((rngI 1 m).map V.int).map (fNe n p xs) = ((List.range m).map fun t => !decide (Sv n p xs (t + 1) = lastv n p xs)).map V.bl := by
  unfold rngI
  rw [List.map_map, List.map_map, List.map_map]
  refine List.map_congr_left fun t _ => ?_
  show V.bl (!decide (Sv n p xs (1 + (t : Int)).toNat = lastv n p xs)) = V.bl (!decide (Sv n p xs (t + 1) = lastv n p xs))
  rw [show (1 + (t : Int)).toNat = t + 1 by omega]
theorem any_flat {n p : Nat} {xs : List Int} (p2 : 2 ≤ p) : (((List.range (p - 1)).map fun t => !decide (Sv n p xs (t + 1) = lastv n p xs)).any id) = true ↔ ¬ flat n p xs := by
  rw [List.any_eq_true]
  constructor
  · rintro ⟨b, hb, e⟩ f
    obtain ⟨t, ht, rfl⟩ := List.mem_map.mp hb
    have ht := List.mem_range.mp ht
    rw [id, f (t + 1) (by omega) (by omega)] at e
    simp at e
  · intro f
    apply Classical.byContradiction
    intro z
    refine f fun t t1 tp => ?_
    apply Classical.byContradiction
    intro ne
    refine z ⟨true, List.mem_map.mpr ⟨t - 1, List.mem_range.mpr (by omega), ?_⟩, rfl⟩
    rw [show t - 1 + 1 = t by omega, decide_eq_false ne]
    rfl
section
variable {P : Program} {w : World} {K : PySem.W.Frag} {mg : Str → Option Value} {base : Heap}
theorem scOnce : FnScope ["n", "one", "p", "q", "sums", "last"] ["n", "one", "p"] (defScope sOnce) := ⟨rfl, rfl, rfl, by decide +kernel, rfl, by decide +kernel, by decide +kernel⟩
theorem ok_once {f : Addr} {fd : FuncData} (F : Fun K "narrowed_once" "narrowed_once" sOnce f fd) (T : Bl mg) (GPa : Fn P w K mg base CX0 4 "parted" ["n", "one", "p"] (spParted K)) (GWh : Fn P w K mg base CX0 3 "whole" ["n", "k"] spWhl) (GLs : Fn P w K mg base CX0 1 "less" ["one", "other"] (spTwo K (· - ·))) : FnOk P w K mg base CX0 5 f fd ["n", "one", "p"] (spOnce K) := by
  refine F.ok scOnce (fun vs H Q E h => ?_) (fun cdv A outer s H vs Q E hr h => ?_)
  · obtain ⟨n, p, a, xs, rfl, _⟩ := h; rfl
  · obtain ⟨n, p, a, xs, rfl, n1, n60, hp, hA, hx, q1', q2'⟩ := h
    refine ⟨_, pss_cons (sset 3 rfl (pe_op op_fdiv (vn 0) (vn 2)))
      (pss_cons (sset 4 rfl (fnc GPa hr pass0 (pc (vn 0) (pc (vn 1) (pc (vn 2) pa_nil)))))
      (pss_cons (sset 5 rfl (pe_ix (ixL K) (vn 4) (pe_op op_sub (vn 2) pe_int) (fun _ _ => rfl)))
      (pss_cons (ps_if (pt_cmpR op_eq (pe_op op_mod (vn 3) (vn 2)) pe_int (nomark _)) (pss_one (sset 5 rfl (fnc GWh hr pass0 (pc (vn 3) (pc pe_int pa_nil))))) pss_nil)
      (pss_cons (ps_if (pt_val (cb (call_any rfl) T.any (pc (cmp ["t"] [4, 5] ["t", "sums", "last"] rfl (rng2 T.range (pc pe_int (pc (vn 2) pa_nil))) (fun _ _ _ _ _ => gn 0) (fun _ _ _ _ _ => pif_nil) (fun _ _ _ _ _ => pe_cmpR (neDK K hr.units) (pe_ix (ixL K) (vn 1) (vn 0) (fun _ _ => rfl)) (vn 2) (nomark _))) pa_nil))) (pss_one (ps_ret pe_non)) pss_nil)
      (pss_one (ps_ret (fnc GLs hr pass0 (pc (pe_ix (ixL K) (vn 4) pe_int (fun _ _ => rfl)) (pc (vn 5) pa_nil))))))))), ?_⟩
    obtain ⟨p2, hpq, q1, qn, _, _⟩ := p_facts n1 n60 hp
    obtain ⟨_, hps, _⟩ := okN_of n1 n60
    have p60 : p ≤ 60 := by have := (hps _ hp).2; omega
    have q60 : n / p ≤ 60 := by omega
    obtain ⟨Gq, htq⟩ := goodN q1 q60
    have tq := Gq.t1
    have tqn := Gq.tn
    have eq : V.int ((n : Int) / (p : Int)) = V.int ((n / p : Nat) : Int) := congrArg V.int (by push_cast; rfl)
    refine ⟨_, rfl, _, rfl, _, _, rfl, rfl, ⟨(by show (0 : Int) < p; omega), (by show (p : Int) < 1073741824; omega)⟩, ?_⟩
    dsimp only
    rw [eq]
    refine ⟨_, rfl, _, rfl, _, rfl, n, p, a, xs, rfl, n1, n60, hp, hA, hx, fun L bs H1 s1 hL hbl hbs => ?_⟩
    have at' : ∀ t, t < p → ∃ b, bs[t]? = some b ∧ H1 b = some (.tup ((Sv n p xs t).map V.int)) := fun t ht => ⟨_, List.getElem?_eq_getElem (by omega), hbs t _ (List.getElem?_eq_getElem (by omega))⟩
    obtain ⟨bl, hbl1, hbl2⟩ := at' (p - 1) (by omega)
    obtain ⟨b0, hb01, hb02⟩ := at' 0 (by omega)
    refine ⟨_, rfl, _, rfl, _, _, rfl, rfl, L, _, _, .ref bl, rfl, rfl, .of hL, atI_nat' (j := p - 1) (by omega) (by rw [List.getElem?_map, hbl1]; rfl), ?_⟩
    refine ⟨_, rfl, _, rfl, _, _, rfl, rfl, (by show (0 : Int) < p; omega), rfl, _, rfl, ?_⟩
    by_cases h0 : n / p % p = 0
    · refine iteP (decide_eq_true (congrArg V.int ((Int.natCast_emod (n / p) p).symm.trans (congrArg (fun z : Nat => (z : Int)) h0)))) ?_
      refine ⟨_, rfl, n / p, 0, rfl, q1, q60, fun e H2 s2 h2 => ?_⟩
      rw [whl_one q1 q60] at h2
      have hE : H2 e = some (.tup ((lastv n p xs).map V.int)) := by unfold lastv; rw [if_pos h0]; exact h2
      refine ⟨_, rfl, 1, (p : Int), rfl, ⟨by omega, by omega, by omega, by omega⟩, ?_⟩
      have en : ((p : Int) - 1).toNat = p - 1 := by omega
      rw [en]
      refine comp_map (seq_rng 1 (p - 1)) [some (.ref L), some (.ref e)] rfl (fNe n p xs) (by rw [List.length_map, rngI_len]; omega) (fun i y H' hy s' R g => ?_) (fun D H3 nD s3 hD => ?_)
      · obtain ⟨z, rfl, hz⟩ := mem_map_get hy
        obtain ⟨z1, z2⟩ := rngI_mem hz
        obtain ⟨t, rfl⟩ := Int.eq_ofNat_of_zero_le (show 0 ≤ z by omega)
        obtain ⟨b, hb1, hb2⟩ := at' t (by omega)
        refine ⟨_, rfl, _, rfl, L, _, _, .ref b, rfl, rfl, .of ((s2.trans s') _ _ hL), atI_nat (by rw [List.getElem?_map, hb1]; rfl), _, rfl, _, _, .tup (.of ((s2.trans s') _ _ hb2)) (RdDs.ints _), .tup (.of (s' _ _ hE)) (RdDs.ints _), shapedTI _, shapedTI _, ?_⟩
        rw [eqvTI]
        have := g H' (Same.refl _)
        have e1 : fNe n p xs (.int (t : Int)) = V.bl (!decide (Sv n p xs t = lastv n p xs)) := by
          show V.bl (!decide (Sv n p xs (t : Int).toNat = lastv n p xs)) = _
          rw [Int.toNat_natCast]
        rw [e1] at this
        exact this
      rw [fNe_map] at hD
      refine ⟨D, _, rfl, .of hD, _, rfl, ?_⟩
      refine ite2 (fun h1 => ?_) (fun h1 => ?_)
      · exact q2' H3 ((s1.trans s2).trans s3) ((any_flat p2).mp h1)
      · have fl : flat n p xs := Classical.byContradiction fun z => h1 ((any_flat p2).mpr z)
        have ls := Sv_len n p xs 0
        refine ⟨_, rfl, L, _, 0, .ref b0, rfl, rfl, .of ((s2.trans s3) _ _ hL), atI_nat (j := 0) (by rw [List.getElem?_map, hb01]; rfl), _, rfl, b0, e, _, _, rfl, .of ((s2.trans s3) _ _ hb02), .of (s3 _ _ hE), by omega, fun q4 H4 s4 h4 => ?_⟩
        exact q1' q4 H4 (((s1.trans s2).trans s3).trans s4) fl h4
    · refine iteN (fun z => h0 (by have := V.int.inj (of_decide_eq_true z); omega)) ?_
      have hE : H1 bl = some (.tup ((lastv n p xs).map V.int)) := by unfold lastv; rw [if_neg h0]; exact hbl2
      have s2 : Same H1 H1 := Same.refl _
      refine ⟨_, rfl, 1, (p : Int), rfl, ⟨by omega, by omega, by omega, by omega⟩, ?_⟩
      have en : ((p : Int) - 1).toNat = p - 1 := by omega
      rw [en]
      refine comp_map (seq_rng 1 (p - 1)) [some (.ref L), some (.ref bl)] rfl (fNe n p xs) (by rw [List.length_map, rngI_len]; omega) (fun i y H' hy s' R g => ?_) (fun D H3 nD s3 hD => ?_)
      · obtain ⟨z, rfl, hz⟩ := mem_map_get hy
        obtain ⟨z1, z2⟩ := rngI_mem hz
        obtain ⟨t, rfl⟩ := Int.eq_ofNat_of_zero_le (show 0 ≤ z by omega)
        obtain ⟨b, hb1, hb2⟩ := at' t (by omega)
        refine ⟨_, rfl, _, rfl, L, _, _, .ref b, rfl, rfl, .of ((s2.trans s') _ _ hL), atI_nat (by rw [List.getElem?_map, hb1]; rfl), _, rfl, _, _, .tup (.of ((s2.trans s') _ _ hb2)) (RdDs.ints _), .tup (.of (s' _ _ hE)) (RdDs.ints _), shapedTI _, shapedTI _, ?_⟩
        rw [eqvTI]
        have := g H' (Same.refl _)
        have e1 : fNe n p xs (.int (t : Int)) = V.bl (!decide (Sv n p xs t = lastv n p xs)) := by
          show V.bl (!decide (Sv n p xs (t : Int).toNat = lastv n p xs)) = _
          rw [Int.toNat_natCast]
        rw [e1] at this
        exact this
      rw [fNe_map] at hD
      refine ⟨D, _, rfl, .of hD, _, rfl, ?_⟩
      refine ite2 (fun h1 => ?_) (fun h1 => ?_)
      · exact q2' H3 ((s1.trans s2).trans s3) ((any_flat p2).mp h1)
      · have fl : flat n p xs := Classical.byContradiction fun z => h1 ((any_flat p2).mpr z)
        have ls := Sv_len n p xs 0
        refine ⟨_, rfl, L, _, 0, .ref b0, rfl, rfl, .of ((s2.trans s3) _ _ hL), atI_nat (j := 0) (by rw [List.getElem?_map, hb01]; rfl), _, rfl, b0, bl, _, _, rfl, .of ((s2.trans s3) _ _ hb02), .of (s3 _ _ hE), by omega, fun q4 H4 s4 h4 => ?_⟩
        exact q1' q4 H4 (((s1.trans s2).trans s3).trans s4) fl h4
end
end C4

set_option maxHeartbeats 4000000
namespace C4
open PySem L2 PySem.Spec PyProof.Rows
open Num
def spNarrowed (K : PySem.W.Frag) : Sp := fun vs H Q _ => ∃ (n m : Nat) (a : Addr) (x : List Int), vs = [.int n, .ref a, .int m] ∧ 1 ≤ m ∧ m ≤ n ∧ n ≤ 60 ∧ n % m = 0 ∧ H a = some (.tup (x.map V.int)) ∧ x.length = topN n ∧
  (∀ q (y : List Int) H', Same H H' → H' q = some (.tup (y.map V.int)) → y.length = topN m → wid m n y = x → Q (.ref q) H') ∧ (∀ (k : Nat) H', Same H H' → k ∈ unN n → k % m = 1 % m → trn n (topN n) (RN n) (k : Int) x ≠ x → Q .non H')
theorem step_facts {n s m p : Nat} (m1 : 1 ≤ m) (p2 : 2 ≤ p) (s1 : 1 ≤ s) (ds : s % m = 0) (dn : n % s = 0) (hp : s / m % p = 0) : s % p = 0 ∧ s / p % m = 0 ∧ 1 ≤ s / p ∧ s % (s / p) = 0 ∧ n % (s / p) = 0 ∧ m ≤ s / p ∧ s / p / m = s / m / p ∧ s / p < s := by
  obtain ⟨u, rfl⟩ := Nat.dvd_of_mod_eq_zero ds
  rw [Nat.mul_div_cancel_left _ (by omega)] at hp ⊢
  obtain ⟨v, rfl⟩ := Nat.dvd_of_mod_eq_zero hp
  obtain ⟨k, rfl⟩ := Nat.dvd_of_mod_eq_zero dn
  have v1 : 1 ≤ v := Nat.pos_of_ne_zero fun z => by rw [z, Nat.mul_zero, Nat.mul_zero] at s1; omega
  have e : m * (p * v) = p * (m * v) := Nat.mul_left_comm ..
  have mv : m ≤ m * v := Nat.le_mul_of_pos_right m (by omega)
  rw [e, Nat.mul_div_cancel_left _ (by omega), Nat.mul_div_cancel_left _ (by omega), Nat.mul_div_cancel_left _ (by omega)]
  refine ⟨Nat.mul_mod_right .., Nat.mul_mod_right .., by omega, Nat.mul_mod_left .., ?_, mv, rfl, ?_⟩
  · rw [Nat.mul_comm p, Nat.mul_assoc, Nat.mul_mod_right]
  · have : 1 * (m * v) < p * (m * v) := Nat.mul_lt_mul_of_pos_right (by omega) (by omega)
    omega
theorem end_facts {n s m : Nat} (m1 : 1 ≤ m) (s1 : 1 ≤ s) (h2 : n ≤ 60) (n1 : 1 ≤ n) (ds : s % m = 0) (dn : n % s = 0) (h : ∀ p ∈ primesM (n / m : Nat), s / m % p.toNat ≠ 0) : s = m := by
  obtain ⟨u, rfl⟩ := Nat.dvd_of_mod_eq_zero ds
  obtain ⟨k, rfl⟩ := Nat.dvd_of_mod_eq_zero dn
  rw [Nat.mul_div_cancel_left _ (by omega), Nat.mul_assoc, Nat.mul_div_cancel_left _ (by omega)] at h
  have u1 : 1 ≤ u := Nat.pos_of_ne_zero fun z => by rw [z, Nat.mul_zero] at s1; omega
  have k1 : 1 ≤ k := Nat.pos_of_ne_zero fun z => by rw [z, Nat.mul_zero] at n1; omega
  have l1 : u * k ≤ m * (u * k) := Nat.le_mul_of_pos_left _ (by omega)
  rw [Nat.mul_assoc] at h2
  have := end_of (N := u * k) (u := u) (by omega) u1 (Nat.le_mul_of_pos_right u (by omega)) (Nat.mul_mod_right ..) h
  rw [this, Nat.mul_one]
section
variable {P : Program} {w : World} {K : PySem.W.Frag} {mg : Str → Option Value} {base : Heap}
theorem scNarrowed : FnScope ["n", "one", "m", "found", "size", "p"] ["n", "one", "m"] (defScope sNarrowed) := ⟨rfl, rfl, rfl, by decide +kernel, rfl, by decide +kernel, by decide +kernel⟩
theorem ok_narrowed {f : Addr} {fd : FuncData} (F : Fun K "narrowed" "narrowed" sNarrowed f fd) (GPr : Fn P w K mg base CX0 1 "primes_of" ["n"] spPrimes) (GO : Fn P w K mg base CX0 5 "narrowed_once" ["n", "one", "p"] (spOnce K)) : FnOk P w K mg base CX0 6 f fd ["n", "one", "m"] (spNarrowed K) := by
  refine F.ok scNarrowed (fun vs H Q E h => ?_) (fun cdv A outer s H vs Q E hr h => ?_)
  · obtain ⟨n, m, a, x, rfl, _⟩ := h; rfl
  · obtain ⟨n, m, a, x, rfl, m1, mn, n60, dn, hA, hx, q1, q2⟩ := h
    refine ⟨_, pss_cons (sset 3 rfl (vn 1)) (pss_cons (sset 4 rfl (vn 0))
      (pss_cons (ps_for PassesOwn.never rfl (itL K (fnc GPr hr pass0 (pc (pe_op op_fdiv (vn 0) (vn 2)) pa_nil))) (gn 5)
        (pss_one (ps_while PassesOwn.never (pt_cmpR op_eq (pe_op op_mod (pe_op op_fdiv (vn 4) (vn 2)) (vn 5)) pe_int (nomark _))
          (pss_cons (sset 3 rfl (fnc GO hr pass0 (pc (vn 4) (pc (vn 3) (pc (vn 5) pa_nil)))))
          (pss_cons (ps_if (pt_cmpR op_isN (vn 3) pe_non (nomark _)) (pss_one (ps_ret pe_non)) pss_nil)
          (pss_one (sset 4 rfl (pe_op op_fdiv (vn 4) (vn 5)))))))))
      (pss_one (ps_ret (vn 3))))), ?_⟩
    have N1 : 1 ≤ n / m := Nat.div_pos mn (by omega)
    have N60 : n / m ≤ 60 := Nat.le_trans (Nat.div_le_self _ _) n60
    obtain ⟨_, hps, _⟩ := okN_of N1 N60
    have eN : V.int ((n : Int) / (m : Int)) = V.int ((n / m : Nat) : Int) := congrArg V.int (by push_cast; rfl)
    refine ⟨_, rfl, _, rfl, _, rfl, _, rfl, _, _, rfl, rfl, ⟨(by show (0 : Int) < m; omega), (by show (m : Int) < 1073741824; omega)⟩, n / m, congrArg (fun z => [z]) eN, N1, N60, fun lp H1 s1 hlp => ⟨lp, rfl, ⟨_, .of hlp⟩, ?_⟩⟩
    refine for_seq (seq_lst (K := K) (.of hlp)) (fun i σ' H' => ∃ (s : Nat) (fa : Addr) (f : List Int) (v5 : Option V), σ' = [some (.int n), some (.ref a), some (.int m), some (.ref fa), some (.int s), v5] ∧ Same H1 H' ∧ H' fa = some (.tup (f.map V.int)) ∧ 1 ≤ s ∧ s ≤ n ∧ n % s = 0 ∧ s % m = 0 ∧ f.length = topN s ∧ wid s n f = x ∧ ∀ j, j < i → s / m % (co (primesM (n / m : Nat)) j).toNat ≠ 0)
      ⟨n, a, x, _, rfl, Same.refl _, s1 _ _ hA, by omega, Nat.le_refl _, Nat.mod_self n, dn, hx, wid_self (by omega) n60 hx, fun j hj => absurd hj (Nat.not_lt_zero _)⟩ (fun i σ' H' h => h.choose_spec.choose_spec.choose_spec.choose_spec.2.1) ?_ ?_
    · rintro i y σ' H' hy ⟨s0, fa, f0, v5, rfl, sm, hf, s01, s0n, ds0, dm0, fl0, hw0, hj0⟩
      obtain ⟨hi, rfl⟩ := map_get hy
      have hpm : co (primesM (n / m : Nat)) i ∈ primesM (n / m : Nat) := List.mem_of_getElem? (co_get hi)
      obtain ⟨p2, p60⟩ := hps _ hpm
      generalize hpp : co (primesM (n / m : Nat)) i = pI at *
      obtain ⟨p, rfl⟩ := Int.eq_ofNat_of_zero_le (show 0 ≤ pI by omega)
      refine tw_intro (fun ms σ'' H'' => ∃ (s : Nat) (fa : Addr) (f : List Int), σ'' = [some (.int n), some (.ref a), some (.int m), some (.ref fa), some (.int s), some (.int p)] ∧ Same H1 H'' ∧ H'' fa = some (.tup (f.map V.int)) ∧ 1 ≤ s ∧ s ≤ n ∧ n % s = 0 ∧ s % m = 0 ∧ f.length = topN s ∧ wid s n f = x ∧ (∀ j, j < i → s / m % (co (primesM (n / m : Nat)) j).toNat ≠ 0) ∧ ms = s)
        (fun σ'' H'' => ∃ (s : Nat) (fa : Addr) (f : List Int), σ'' = [some (.int n), some (.ref a), some (.int m), some (.ref fa), some (.int s), some (.int p)] ∧ Same H1 H'' ∧ H'' fa = some (.tup (f.map V.int)) ∧ 1 ≤ s ∧ s ≤ n ∧ n % s = 0 ∧ s % m = 0 ∧ f.length = topN s ∧ wid s n f = x ∧ (∀ j, j < i → s / m % (co (primesM (n / m : Nat)) j).toNat ≠ 0) ∧ s / m % p ≠ 0) ?hend
        ⟨_, s0, fa, f0, rfl, sm, hf, s01, s0n, ds0, dm0, fl0, hw0, hj0, rfl⟩ ?turn
      case hend =>
        rintro σ'' H'' ⟨s, fa, f, rfl, sm', hf', s1', sn', ds', dm', fl', hw', hj', hlast⟩
        refine ⟨s, fa, f, _, rfl, sm', hf', s1', sn', ds', dm', fl', hw', fun j hj => ?_⟩
        by_cases e : j = i
        · rw [e, hpp, Int.toNat_natCast]
          exact hlast
        · exact hj' j (by omega)
      case turn =>
        rintro hend ms σ'' H'' ⟨s, fa, f, rfl, sm', hf', s1', sn', ds', dm', fl', hw', hj', hms⟩
        have eT : ((s : Int) / (m : Int)) % (p : Int) = ((s / m % p : Nat) : Int) := by push_cast; rfl
        refine ⟨_, rfl, _, rfl, _, _, rfl, rfl, ⟨(by show (0 : Int) < m; omega), (by show (m : Int) < 1073741824; omega)⟩, _, rfl, _, _, rfl, rfl, (by show (0 : Int) < p; omega), rfl, _, rfl, ?_⟩
        refine ite2 (fun h1 => ?_) (fun h1 => ?_)
        · have h1 : s / m % p = 0 := by
            have := V.int.inj (of_decide_eq_true h1)
            rw [eT] at this
            omega
          obtain ⟨d1, d2, d3, d4, d5, d6, d7, d8⟩ := step_facts m1 (by omega) s1' dm' ds' h1
          have hp' := pr_of N1 N60 s1' (by omega) hpm d1
          refine ⟨_, fun _ _ z => z, _, rfl, _, rfl, _, rfl, s, p, fa, f, rfl, s1', by omega, hp', hf', fl', fun fa2 H2 s2 hfl h2 => ?_, fun H2 s2 hfl => ?_⟩
          · refine ⟨_, rfl, rfl, _, rfl, iteN (by simp) ?_⟩
            have eS : V.int ((s : Int) / (p : Int)) = V.int ((s / p : Nat) : Int) := congrArg V.int (by push_cast; rfl)
            refine ⟨_, rfl, _, rfl, _, _, rfl, rfl, ⟨(by show (0 : Int) < p; omega), (by show (p : Int) < 1073741824; omega)⟩, ?_⟩
            have fz := (flat_iff s1' (by omega) hp' fl').mp hfl
            have wl : (List.zipWith (· - ·) (Sv s p f 0) (lastv s p f)).length = topN (s / p) := by rw [nar_eq s1' (by omega) hp' fl', List.length_map, List.length_range]
            have ww : wid (s / p) s (List.zipWith (· - ·) (Sv s p f 0) (lastv s p f)) = f := by rw [nar_eq s1' (by omega) hp' fl', told1 s1' (by omega) hp' fl' fz]
            refine ⟨s / p, by rw [hms]; exact d8, s / p, fa2, _, ?_, sm'.trans s2, h2, d3, by omega, d5, d2, wl, ?_, fun j hj z => hj' j hj ?_, rfl⟩
            · show [some (V.int n), some (V.ref a), some (V.int m), some (V.ref fa2), some (V.int ((s : Int) / (p : Int))), some (V.int p)] = _
              rw [eS]
            · rw [← wid_wid d3 n60 (by omega) sn' d4 ds', ww, hw']
            · rw [d7] at z
              have : s / m = p * (s / m / p) := (Nat.mul_div_cancel' (Nat.dvd_of_mod_eq_zero h1)).symm
              rw [this, Nat.mul_mod, z, Nat.mul_zero, Nat.zero_mod]
          · refine ⟨_, rfl, rfl, _, rfl, iteP (by simp) ?_⟩
            obtain ⟨k, hk, e, ne⟩ := none_up m1 n60 s1' sn' ds' hp' d2 fl' (fun z => hfl ((flat_iff s1' (by omega) hp' fl').mpr z))
            rw [hw'] at ne
            exact q2 k H2 ((s1.trans sm').trans s2) hk e ne
        · have h1 : s / m % p ≠ 0 := fun z => h1 (decide_eq_true (congrArg V.int (by rw [eT, z]; rfl)))
          exact hend _ _ ⟨s, fa, f, rfl, sm', hf', s1', sn', ds', dm', fl', hw', hj', h1⟩
    · rintro σ' H' ⟨s0, fa, f0, v5, rfl, sm, hf, s01, s0n, ds0, dm0, fl0, hw0, hj0⟩
      rw [List.length_map] at hj0
      have : s0 = m := end_facts m1 s01 n60 (by omega) dm0 ds0 fun p hp => by
        obtain ⟨j, hj⟩ := List.getElem?_of_mem hp
        have hl : j < (primesM (n / m : Nat)).length := (List.getElem?_eq_some_iff.mp hj).1
        have := hj0 j hl
        rw [co_get hl] at hj
        rw [Option.some.inj hj] at this
        exact this
      subst this
      exact ⟨_, rfl, q1 fa f0 H' (s1.trans sm) hf fl0 hw0⟩
end
end C4

set_option maxHeartbeats 4000000
namespace C4
open PySem L2 PySem.Spec PyProof.Rows
open Num
abbrev sSpread : Stmt := top 27
def spDivided (K : PySem.W.Frag) : Sp := fun vs H Q _ => ∃ (a : Addr) (xs : List Int) (k : Int), vs = [.ref a, .int k] ∧ SqT K H a (xs.map V.int) ∧ 1 ≤ k ∧ k < 2 ^ 64 ∧ xs.length ≤ 1000 ∧
  (∀ q H', Same H H' → (∀ x ∈ xs, x % k = 0) → H' q = some (.tup ((xs.map (· / k)).map V.int)) → Q (.ref q) H') ∧ (∀ H', Same H H' → ¬ (∀ x ∈ xs, x % k = 0) → Q .non H')
def fRem (k : Int) : V → V
  | .int x => .bl (!decide (V.int (x % k) = V.int 0))
  | y => y
theorem fRem_map (k : Int) (xs : List Int) : (xs.map V.int).map (fRem k) = (xs.map fun x => !decide (V.int (x % k) = V.int 0)).map V.bl := by
  rw [List.map_map, List.map_map]
  rfl
theorem any_rem {k : Int} {xs : List Int} : ((xs.map fun x => !decide (V.int (x % k) = V.int 0)).any id) = true ↔ ¬ ∀ x ∈ xs, x % k = 0 := by
  rw [List.any_eq_true]
  constructor
  · rintro ⟨b, hb, e⟩ f
    obtain ⟨x, hx, rfl⟩ := List.mem_map.mp hb
    rw [id, f x hx] at e
    simp at e
  · intro f
    apply Classical.byContradiction
    intro z
    refine f fun x hx => ?_
    apply Classical.byContradiction
    intro ne
    refine z ⟨true, List.mem_map.mpr ⟨x, hx, ?_⟩, rfl⟩
    rw [decide_eq_false (fun h => ne (V.int.inj h))]
    rfl
def fQuo (k : Int) : V → V
  | .int x => .int (x / k)
  | y => y
theorem fQuo_map (k : Int) (xs : List Int) : (xs.map V.int).map (fQuo k) = (xs.map (· / k)).map V.int := by
  rw [List.map_map, List.map_map]
  rfl
/-- the row that the law spreads -/
def sprL (n m : Nat) (xs : List Int) : List Int := stN (m / n) xs 0 (List.replicate m 0)
theorem sprL_len (n m : Nat) (xs : List Int) : (sprL n m xs).length = m := by unfold sprL; rw [stN_len, List.length_replicate]
theorem sprL_num {n m : Nat} (hd : 0 < m / n) {xs : List Int} (hl : xs = [] ∨ (xs.length - 1) * (m / n) < m) : numL m (topN m) (RN m) (sprL n m xs) = wid n m xs := by
  refine ext_co (by rw [numL_len, wid_len]) fun j hj => ?_
  rw [numL_len] at hj
  rw [wid_co hd xs j hj, co_numL hj]
  unfold sprL
  rw [sig_st j hd xs 0 _ (fun t _ => co_rep _ t) (by rw [List.length_replicate, Nat.zero_add]; exact hl), sig_zeros, Int.zero_add]
  refine sumF_congr _ _ _ fun a _ => ?_
  rw [Nat.zero_add]
theorem spr_fit {n m : Nat} (n1 : 1 ≤ n) (nm : n ≤ m) (n60 : n ≤ 60) {xs : List Int} (hx : xs.length = topN n) : (xs.length - 1) * (m / n) < m := by
  obtain ⟨G, _⟩ := goodN n1 n60
  have tn := G.tn
  have t1 := G.t1
  have d1 : 0 < m / n := Nat.div_pos nm (by omega)
  have : (xs.length - 1) * (m / n) < n * (m / n) := Nat.mul_lt_mul_of_pos_right (by omega) d1
  have := Nat.mul_div_le m n
  omega
def spSpread (K : PySem.W.Frag) : Sp := fun vs H Q _ => ∃ (n m : Nat) (a : Addr) (xs : List Int), vs = [.int n, .ref a, .int m] ∧ 1 ≤ n ∧ n ≤ m ∧ m ≤ 60 ∧ H a = some (.tup (xs.map V.int)) ∧ xs.length = topN n ∧ ∀ l H', Same H H' → H' l = some (.lst ((sprL n m xs).map V.int)) → Q (.ref l) H'
section
variable {P : Program} {w : World} {K : PySem.W.Frag} {mg : Str → Option Value} {base : Heap}
theorem scDivided : FnScope ["one", "k"] ["one", "k"] (defScope sDivided) := ⟨rfl, rfl, rfl, by decide +kernel, rfl, by decide +kernel, by decide +kernel⟩
theorem ok_divided {f : Addr} {fd : FuncData} (F : Fun K "divided" "divided" sDivided f fd) (T : Bl mg) : FnOk P w K mg base CX0 1 f fd ["one", "k"] (spDivided K) := by
  refine F.ok scDivided (fun vs H Q E h => ?_) (fun cdv A outer s H vs Q E hr h => ?_)
  · obtain ⟨a, xs, k, rfl, _⟩ := h; rfl
  · obtain ⟨a, xs, k, rfl, hA, k1, k64, hl, q1, q2⟩ := h
    refine ⟨_, pss_cons (ps_if (pt_val (cb (call_any rfl) T.any (pc (cmp ["x"] [1] ["x", "k"] rfl (itT K (vn 0)) (fun _ _ _ _ _ => gn 0) (fun _ _ _ _ _ => pif_nil) (fun _ _ _ _ _ => pe_cmpR op_ne (pe_op op_mod (vn 0) (vn 1)) pe_int (nomark _))) pa_nil))) (pss_one (ps_ret pe_non)) pss_nil)
      (pss_one (ps_ret (ct call_tuple_of T.tuple (pc (cmp ["x"] [1] ["x", "k"] rfl (itT K (vn 0)) (fun _ _ _ _ _ => gn 0) (fun _ _ _ _ _ => pif_nil) (fun _ _ _ _ _ => pe_op op_fdivB (vn 0) (vn 1))) pa_nil)))), ?_⟩
    refine ⟨_, rfl, a, rfl, ⟨_, hA⟩, ?_⟩
    refine comp_map (seq_tup hA) [some (.int k)] rfl (fRem k) (by rw [List.length_map]; omega) (fun i x H' hx' s' R g => ?_) (fun D H1 nD s1 hD => ?_)
    · obtain ⟨_, rfl⟩ := map_get hx'
      exact ⟨_, rfl, _, rfl, _, _, rfl, rfl, (by show (0 : Int) < k; omega), rfl, g H' (Same.refl _)⟩
    rw [fRem_map] at hD
    refine ⟨D, _, rfl, .of hD, _, rfl, ?_⟩
    refine ite2 (fun h1 => ?_) (fun h1 => ?_)
    · exact q2 H1 s1 (any_rem.mp h1)
    · have fl : ∀ x ∈ xs, x % k = 0 := Classical.byContradiction fun z => h1 (any_rem.mpr z)
      refine ⟨_, rfl, a, rfl, ⟨_, s1.tup hA⟩, ?_⟩
      refine comp_map (seq_tup (s1.tup hA)) [some (.int k)] rfl (fQuo k) (by rw [List.length_map]; omega) (fun i x H' hx' s' R g => ?_) (fun D2 H2 nD2 s2 hD2 => ?_)
      · obtain ⟨_, rfl⟩ := map_get hx'
        exact ⟨_, rfl, _, rfl, _, _, rfl, rfl, ⟨(by show (0 : Int) < k; omega), log_small (by omega) k64⟩, g H' (Same.refl _)⟩
      · rw [fQuo_map] at hD2
        refine ⟨D2, _, rfl, .inl ⟨.of hD2, fun qq hqq => ?_⟩⟩
        exact q1 qq _ ((s1.trans s2).trans (Same.upd hqq)) fl upd_same
theorem scSpread : FnScope ["_law_n", "_law_one", "_law_m", "_law_k", "_law_row_here"] ["_law_n", "_law_one", "_law_m"] (defScope sSpread) := ⟨rfl, rfl, rfl, by decide +kernel, rfl, by decide +kernel, by decide +kernel⟩
theorem ok_spread {f : Addr} {fd : FuncData} (F : Fun K "_law_spread" "_law_spread" sSpread f fd) (T : Bl mg) : FnOk P w K mg base CX0 1 f fd ["_law_n", "_law_one", "_law_m"] (spSpread K) := by
  refine F.ok scSpread (fun vs H Q E h => ?_) (fun cdv A outer s H vs Q E hr h => ?_)
  · obtain ⟨n, m, a, xs, rfl, _⟩ := h; rfl
  · obtain ⟨n, m, a, xs, rfl, n1, nm, m60, hA, hx, q⟩ := h
    have fit := spr_fit n1 nm (by omega) hx
    obtain ⟨G, _⟩ := goodN n1 (show n ≤ 60 by omega)
    have tn := G.tn
    have hst : m / n ≤ 60 := Nat.le_trans (Nat.div_le_self _ _) m60
    refine ⟨_, pss_cons (setc 4 ["_law_k"] [] ["_law_k"] rfl rfl (rng1 T.range (pc (vn 2) pa_nil)) (fun _ _ _ _ _ => gn 0) (fun _ _ _ _ _ => pif_nil) (fun _ _ _ _ _ => pe_int))
      (pss_cons (ps_for PassesOwn.never rfl (rng1 T.range (pc (cb (lenK K) T.len (pc (vn 1) pa_nil)) pa_nil)) (gn 3)
        (pss_one (ps_asg (pe_ix (ixT K) (vn 1) (vn 3) (fun _ _ => rfl)) (pg_sub (vn 4) (pe_op op_mul (vn 3) (pe_op op_fdiv (vn 2) (vn 0))) set_list))))
      (pss_one (ps_ret (vn 4)))), ?_⟩
    refine ⟨_, rfl, m, rfl, by omega, by omega, ?_⟩
    refine comp_map (seq_rng 0 (m : Int).toNat) [] rfl (fun _ => .int 0) (by rw [List.length_map, rngI_len]; omega) (fun i x H' hx s' R g => g H' (Same.refl _)) (fun l H1 nl s1 hl => ?_)
    rw [Int.toNat_natCast, zeros_map] at hl
    refine ⟨_, rfl, a, _, rfl, .inr (.of (s1 _ _ hA)), _, rfl, by omega, by rw [List.length_map]; omega, ?_⟩
    rw [Int.toNat_natCast, List.length_map]
    refine for_range (fun i σ' H' => ∃ (cur : List Int) (v3 : Option V), σ' = [some (.int n), some (.ref a), some (.int m), v3, some (.ref l)] ∧ Same H H' ∧ H' l = some (.lst (cur.map V.int)) ∧ cur.length = m ∧ stN (m / n) (xs.drop i) i cur = sprL n m xs)
      ⟨_, _, rfl, s1, hl, List.length_replicate .., rfl⟩ ?_ ?_
    · rintro i σ' H' hi ⟨cur, v3, rfl, sm, hl', hcl, hfo⟩
      rw [show (0 : Int) + (i : Int) = (i : Int) by omega]
      have him : i * (m / n) < cur.length := by
        rw [hcl]
        exact Nat.lt_of_le_of_lt (Nat.mul_le_mul_right _ (by omega)) fit
      have eM : V.int ((i : Int) * ((m : Int) / (n : Int))) = V.int ((i * (m / n) : Nat) : Int) := congrArg V.int (by push_cast; rfl)
      refine ⟨_, rfl, _, rfl, a, _, _, _, rfl, rfl, .of (sm _ _ hA), get_map hi, _, rfl, _, rfl, _, rfl, _, rfl, _, _, rfl, rfl, ⟨(by show (0 : Int) < n; omega), (by show (n : Int) < 1073741824; omega)⟩, _, _, rfl, rfl, .inl ⟨by omega, by omega⟩, l, _, _, i * (m / n), rfl, eM, hl', ?_, ?_⟩
      · rw [List.length_map]; exact ixN_nat him
      · refine ⟨cur.set (i * (m / n)) (co xs i), _, rfl, sm.updr nl, ?_, ?_, ?_⟩
        · rw [upd_same, set_map]
        · rw [List.length_set]; exact hcl
        · rw [← hfo, drop_co hi, Num.stN]
    · rintro σ' H' ⟨cur, v3, rfl, sm, hl', hcl, hfo⟩
      rw [List.drop_length, Num.stN] at hfo
      rw [hfo] at hl'
      exact ⟨_, rfl, q l H' sm hl'⟩
end
end C4

set_option maxHeartbeats 4000000
namespace C4
open PySem L2 PySem.Spec PyProof.Rows
open Num
abbrev sNarR : Stmt := top 28
def spNarR : Sp := fun vs H Q _ => ∃ (p : Addr) (n m : Nat), vs = [.ref p, .int n, .int m] ∧ Feed H p ∧ 1 ≤ m ∧ m ≤ n ∧ n ≤ 60 ∧ n % m = 0 ∧ ∀ H', Dr p H H' → Q (.bl true) H'
def gF (n : Nat) : V → Bool
  | .int k => decide (gcdF k n = 1)
  | _ => false
def rF (m : Nat) : V → Bool
  | .int k => decide (V.int (k % (m : Int)) = V.int (1 % (m : Int)))
  | _ => false
theorem units_map {n : Nat} (h2 : n ≤ 60) : (((rngI 1 n).map V.int).filter (gF n)).map (fun y => y) = ((unN n).map fun k : Nat => ((k : Nat) : Int)).map V.int := by
  rw [List.map_id']
  unfold unN rngI
  rw [List.map_map, List.map_map, List.filter_map, List.filter_map, List.map_map]
  have e : (List.range n).filter ((gF n) ∘ (V.int ∘ fun k : Nat => 1 + (k : Int))) = (List.range n).filter ((fun k => decide (Nat.gcd k n = 1)) ∘ (· + 1)) := by
    refine List.filter_congr fun k hk => ?_
    have hk := List.mem_range.mp hk
    show decide (gcdF (1 + (k : Int)) n = 1) = decide (Nat.gcd (k + 1) n = 1)
    rw [← gcd_is h2 (show k + 1 ≤ n by omega), show (1 : Int) + (k : Int) = ((k + 1 : Nat) : Int) by omega]
  rw [e]
  refine List.map_congr_left fun k _ => ?_
  show V.int (1 + (k : Int)) = V.int ((k + 1 : Nat) : Int)
  rw [show (1 : Int) + (k : Int) = ((k + 1 : Nat) : Int) by omega]
def unM (n m : Nat) : List Nat := (unN n).filter fun k => decide (k % m = 1 % m)
theorem units_mod (n m : Nat) : ((((unN n).map fun k : Nat => ((k : Nat) : Int)).map V.int).filter (rF m)).map (fun y => y) = ((unM n m).map fun k : Nat => ((k : Nat) : Int)).map V.int := by
  rw [List.map_id']
  unfold unM
  rw [List.map_map, List.filter_map, List.map_map]
  have e : (unN n).filter ((rF m) ∘ (V.int ∘ fun k : Nat => ((k : Nat) : Int))) = (unN n).filter fun k => decide (k % m = 1 % m) := by
    refine List.filter_congr fun k hk => ?_
    show decide (V.int ((k : Int) % (m : Int)) = V.int (1 % (m : Int))) = decide (k % m = 1 % m)
    rw [decide_eq_decide]
    constructor
    · intro z
      have := V.int.inj z
      have e1 : ((k % m : Nat) : Int) = ((1 % m : Nat) : Int) := by push_cast; exact this
      omega
    · intro z
      have e1 : ((k % m : Nat) : Int) = ((1 % m : Nat) : Int) := by rw [z]
      push_cast at e1
      rw [e1]
  rw [e]
section
variable {P : Program} {w : World} {K : PySem.W.Frag} {mg : Str → Option Value} {base : Heap}
theorem scNarR : FnScope ["_law_feed_here", "_law_n", "_law_m", "_law_one", "_law_found", "_law_some", "_law_k", "_law_row_here", "_law_j"] ["_law_feed_here", "_law_n", "_law_m"] (defScope sNarR) := ⟨rfl, rfl, rfl, by decide +kernel, rfl, by decide +kernel, by decide +kernel⟩
theorem ok_narR {f : Addr} {fd : FuncData} (F : Fun K "_law_narrow_right" "_law_narrow_right" sNarR f fd) (T : Bl mg) (GG : Fn P w K mg base CX0 1 "_law_gcd" ["_law_one", "_law_other"] spGcd) (GU : Fn P w K mg base CX0 3 "_law_number" ["_law_feed_here", "_law_n"] spNumber)
    (GNa : Fn P w K mg base CX0 6 "narrowed" ["n", "one", "m"] (spNarrowed K)) (GNu : Fn P w K mg base CX0 3 "_law_is_number" ["_law_n", "_law_thing"] (spNum K)) (GAl : Fn P w K mg base CX0 3 "_law_is_alike" ["_law_n", "_law_one", "_law_other"] (spAliG K)) (GSp : Fn P w K mg base CX0 1 "_law_spread" ["_law_n", "_law_one", "_law_m"] (spSpread K)) :
    FnOk P w K mg base CX0 7 f fd ["_law_feed_here", "_law_n", "_law_m"] spNarR := by
  refine F.ok scNarR (fun vs H Q E h => ?_) (fun cdv A outer s H vs Q E hr h => ?_)
  · obtain ⟨p, n, m, rfl, _⟩ := h; rfl
  · obtain ⟨p, n, m, rfl, F0, m1, mn, n60, dm, q⟩ := h
    refine ⟨_, pss_cons (sset 3 rfl (fnc GU hr pass0 (pc (vn 0) (pc (vn 1) pa_nil))))
      (pss_cons (sset 4 rfl (fnc GNa hr pass0 (pc (vn 1) (pc (vn 3) (pc (vn 2) pa_nil)))))
      (pss_cons (ps_if (pt_cmpR op_notN (vn 4) pe_non (nomark _)) (pss_one (ps_ret (pe_and (fnc GNu hr pass0 (pc (vn 2) (pc (vn 4) pa_nil))) (pe_one (fnc GAl hr pass0 (pc (vn 1) (pc (fnc GSp hr pass0 (pc (vn 2) (pc (vn 4) (pc (vn 1) pa_nil)))) (pc (vn 3) pa_nil)))))))) pss_nil)
      (pss_cons (setc 5 ["_law_k"] [1] ["_law_k", "_law_n"] rfl rfl (rng2 T.range (pc pe_int (pc (pe_op op_add (vn 1) pe_int) pa_nil))) (fun _ _ _ _ _ => gn 0) (fun _ _ _ _ _ => pif_one (pt_cmpR op_eq (fnc GG hr pass0 (pc (vn 0) (pc (vn 1) pa_nil))) pe_int (nomark _))) (fun _ _ _ _ _ => vn 0))
      (pss_cons (setc 5 ["_law_k"] [2] ["_law_k", "_law_m"] rfl rfl (itL K (vn 5)) (fun _ _ _ _ _ => gn 0) (fun _ _ _ _ _ => pif_one (pt_cmpR op_eq (pe_op op_mod (vn 0) (vn 1)) (pe_op op_mod pe_int (vn 1)) (nomark _))) (fun _ _ _ _ _ => vn 0))
      (pss_cons (ps_for PassesOwn.never rfl (itL K (vn 5)) (gn 6)
        (pss_cons (setc 7 ["_law_j"] [] ["_law_j"] rfl rfl (rng1 T.range (pc (vn 1) pa_nil)) (fun _ _ _ _ _ => gn 0) (fun _ _ _ _ _ => pif_nil) (fun _ _ _ _ _ => pe_int))
        (pss_cons (ps_for PassesOwn.never rfl (rng1 T.range (pc (cb (lenK K) T.len (pc (vn 3) pa_nil)) pa_nil)) (gn 8)
          (pss_one (ps_asg (pe_op op_add (pe_ix (ixL K) (vn 7) (pe_op op_mod (pe_op op_mul (vn 8) (vn 6)) (vn 1)) (fun _ _ => rfl)) (pe_ix (ixT K) (vn 3) (vn 8) (fun _ _ => rfl))) (pg_sub (vn 7) (pe_op op_mod (pe_op op_mul (vn 8) (vn 6)) (vn 1)) set_list))))
        (pss_one (ps_if (pt_not (pt_val (fnc GAl hr pass0 (pc (vn 1) (pc (vn 7) (pc (vn 3) pa_nil)))))) (pss_one (ps_ret pe_bl)) pss_nil)))))
      (pss_one (ps_ret pe_bl))))))), ?_⟩
    have n1 : 1 ≤ n := by omega
    obtain ⟨G, htop⟩ := goodN n1 n60
    have tn := G.tn
    refine ⟨_, rfl, _, rfl, p, n, rfl, F0, n1, n60, fun a x H1 hxl hxb d1 hA => ?_⟩
    have hx : x.length = topN n := by omega
    have F1 := d1.feed F0
    refine ⟨_, rfl, _, rfl, _, rfl, n, m, a, x, rfl, m1, mn, n60, dm, hA, hx, fun qa y H2 s2 hq hyl hw => ?_, fun k H2 s2 hk ek ne => ?_⟩
    · -- told
      refine ⟨_, rfl, rfl, _, rfl, iteP (by simp) ?_⟩
      obtain ⟨Gm, htm⟩ := goodN m1 (show m ≤ 60 by omega)
      have tm := Gm.tn
      refine ⟨_, rfl, _, rfl, m, .ref qa, _, rfl, m1, by omega, .tup hq (by rw [List.length_map]; omega) el_ints, fun H3 s3 => ⟨_, rfl, ?_⟩⟩
      have e : numB (some (y.map V.int)) (phiM m) = true := by
        rw [numB_some, List.length_map, hyl, htm, Bool.and_eq_true]
        refine ⟨decide_eq_true rfl, List.all_eq_true.mpr fun z hz => ?_⟩
        obtain ⟨z', _, rfl⟩ := List.mem_map.mp hz
        rfl
      rw [e]
      refine iteT ?_
      refine ⟨_, rfl, _, rfl, _, rfl, _, rfl, m, n, qa, y, rfl, m1, mn, n60, s3 _ _ hq, hyl, fun l H4 s4 hl => ?_⟩
      refine ⟨_, rfl, n, l, a, _, x, rfl, n1, n60, .inl (.of hl), .inr (.of (((s2.trans s3).trans s4) _ _ hA)), by rw [sprL_len]; omega, by omega, fun c H5 s5 hc => ?_⟩
      have : c = true := hc.mpr (by rw [sprL_num (Nat.div_pos mn (by omega)) (.inr (spr_fit m1 mn (by omega) hyl)), hw, num_id n1 n60 hx])
      rw [this]
      exact q H5 (d1.same (((s2.trans s3).trans s4).trans s5))
    · -- None
      refine ⟨_, rfl, rfl, _, rfl, iteN (by simp) ?_⟩
      refine ⟨_, rfl, _, _, rfl, rfl, 1, (n : Int) + 1, rfl, ⟨by omega, by omega, by omega, by omega⟩, ?_⟩
      have en : ((n : Int) + 1 - 1).toNat = n := by omega
      rw [en]
      refine comp_filt (seq_rng 1 n) [some (.int n)] rfl (gF n) (fun y => y) (by rw [List.length_map, rngI_len]; omega) ?_ ?_
      · intro i y H' hy s' R R' g1 g2
        obtain ⟨z, rfl, hz⟩ := mem_map_get hy
        refine ⟨_, rfl, _, rfl, z, n, rfl, by omega, by omega, rfl, _, rfl, ?_⟩
        refine ite2 (fun b1 => ?_) (fun b1 => ?_)
        · have b1 : gcdF z n = 1 := V.int.inj (of_decide_eq_true b1)
          exact ⟨_, rfl, g1 (decide_eq_true b1) H' (Same.refl _)⟩
        · have b1 : ¬ gcdF z n = 1 := fun e => b1 (decide_eq_true (congrArg V.int e))
          exact g2 (decide_eq_false b1) H' (Same.refl _)
      intro U H3 nU s3 hU
      rw [units_map n60] at hU
      have ul : (unN n).length ≤ n := by
        unfold unN
        refine Nat.le_trans (List.length_filter_le _ _) ?_
        rw [List.length_map, List.length_range]
        exact Nat.le_refl _
      refine ⟨_, rfl, U, rfl, ⟨_, .of hU⟩, ?_⟩
      refine comp_filt (seq_lst (.of hU)) [some (.int m)] rfl (rF m) (fun y => y) (by rw [List.length_map, List.length_map]; omega) ?_ ?_
      · intro i y H' hy s' R R' g1 g2
        obtain ⟨z, rfl, hz⟩ := mem_map_get hy
        refine ⟨_, rfl, _, rfl, _, _, rfl, rfl, (by show (0 : Int) < m; omega), _, rfl, _, _, rfl, rfl, (by show (0 : Int) < m; omega), rfl, _, rfl, ?_⟩
        refine ite2 (fun b1 => ?_) (fun b1 => ?_)
        · exact ⟨_, rfl, g1 b1 H' (Same.refl _)⟩
        · exact g2 (by
            cases h : rF m (V.int z) with
            | false => rfl
            | true => exact absurd h b1) H' (Same.refl _)
      intro V' H4 nV s4 hV
      rw [units_mod] at hV
      have S4 := (s2.trans s3).trans s4
      refine ⟨_, rfl, V', rfl, ⟨_, .of hV⟩, ?_⟩
      refine for_seq (seq_lst (.of hV)) (fun i σ' H' => ∃ v6 v7 v8 : Option V, σ' = [some (.ref p), some (.int n), some (.int m), some (.ref a), some .non, some (.ref V'), v6, v7, v8] ∧ Same H4 H' ∧ ∀ j k, j < i → (unM n m)[j]? = some k → trn n (topN n) (RN n) (k : Int) x = x)
        ⟨_, _, _, rfl, Same.refl _, fun j k hj => absurd hj (Nat.not_lt_zero _)⟩ (fun i σ' H' h => h.choose_spec.choose_spec.choose_spec.2.1) ?_ ?_
      · rintro i y σ' H' hy ⟨v6, v7, v8, rfl, sm, hfix⟩
        obtain ⟨u, hu, rfl⟩ : ∃ u : Nat, (unM n m)[i]? = some u ∧ y = .int u := by
          rw [List.getElem?_map, List.getElem?_map] at hy
          cases e : (unM n m)[i]? with
          | none => rw [e] at hy; cases hy
          | some u => rw [e] at hy; exact ⟨u, rfl, (Option.some.inj hy).symm⟩
        refine ⟨_, rfl, n, rfl, by omega, by omega, ?_⟩
        refine comp_map (seq_rng 0 (n : Int).toNat) [] rfl (fun _ => .int 0) (by rw [List.length_map, rngI_len]; omega) (fun i x H' hx s' R g => g H' (Same.refl _)) (fun l H5 nl s5 hl => ?_)
        rw [Int.toNat_natCast, zeros_map] at hl
        have hA5 := ((S4.trans sm).trans s5) _ _ hA
        refine ⟨_, rfl, a, _, rfl, .inr (.of hA5), _, rfl, by omega, by rw [List.length_map]; omega, ?_⟩
        rw [Int.toNat_natCast, List.length_map]
        refine for_range (fun j σ'' H'' => ∃ (cur : List Int) (w8 : Option V), σ'' = [some (.ref p), some (.int n), some (.int m), some (.ref a), some .non, some (.ref V'), some (.int u), some (.ref l), w8] ∧ Same H' H'' ∧ H'' l = some (.lst (cur.map V.int)) ∧ cur.length = n ∧ trnN n (u : Int) (x.drop j) j cur = trnL n (u : Int) x)
          ⟨_, _, rfl, s5, hl, List.length_replicate .., rfl⟩ ?_ ?_
        · rintro j σ'' H'' hj ⟨cur, w8, rfl, sm', hl', hcl, hfo⟩
          rw [show (0 : Int) + (j : Int) = (j : Int) by omega]
          have hA' := ((S4.trans sm).trans sm') _ _ hA
          have him : ti n u j < cur.length := by rw [hcl]; exact ti_lt n1 u j
          have eM : V.int ((j : Int) * (u : Int) % (n : Int)) = V.int ((ti n u j : Nat) : Int) := by rw [ti_int n1]
          have eA : atI (cur.map V.int) ((j : Int) * (u : Int) % (n : Int)) = some (.int (co cur (ti n u j))) := by
            rw [← ti_int n1]
            exact get_map him
          refine ⟨_, rfl, _, rfl, _, rfl, _, _, rfl, rfl, .inl ⟨by omega, by omega⟩, _, rfl, _, _, rfl, rfl, (by show (0 : Int) < n; omega), l, _, _, _, rfl, rfl, .of hl', eA, _, rfl, _, rfl, a, _, _, _, rfl, rfl, .of hA', get_map hj, _, _, rfl, rfl, _, rfl, _, rfl, _, rfl, _, _, rfl, rfl, .inl ⟨by omega, by omega⟩, _, rfl, _, _, rfl, rfl, (by show (0 : Int) < n; omega), l, _, _, ti n u j, rfl, eM, hl', ?_, ?_⟩
          · rw [List.length_map]; exact ixN_nat him
          · refine ⟨cur.set (ti n u j) (co cur (ti n u j) + co x j), _, rfl, sm'.updr nl, ?_, ?_, ?_⟩
            · rw [upd_same, set_map]
            · rw [List.length_set]; exact hcl
            · rw [← hfo, drop_co hj, Num.trnN]
        · rintro σ'' H'' ⟨cur, w8, rfl, sm', hl', hcl, hfo⟩
          rw [List.drop_length, Num.trnN] at hfo
          have hA' := ((S4.trans sm).trans sm') _ _ hA
          refine ⟨_, rfl, _, rfl, _, rfl, n, l, a, cur, x, rfl, n1, n60, .inl (.of hl'), .inr (.of hA'), by omega, by omega, fun c H6 s6 hc => ⟨_, rfl, ?_⟩⟩
          have hc : c = true ↔ trn n (topN n) (RN n) (u : Int) x = x := by
            rw [hc, hfo, num_id n1 n60 hx]
            exact Iff.rfl
          cases c with
          | true =>
            refine iteN (by decide) ?_
            refine ⟨_, _, _, rfl, (sm.trans sm').trans s6, fun j k hj hjk => ?_⟩
            by_cases e : j = i
            · rw [e, hu] at hjk
              cases hjk
              exact hc.mp rfl
            · exact hfix j k (by omega) hjk
          | false =>
            refine iteP (by decide) ?_
            exact q H6 (d1.same (((S4.trans sm).trans sm').trans s6))
      · rintro σ' H' ⟨v6, v7, v8, rfl, sm, hfix⟩
        rw [List.length_map, List.length_map] at hfix
        have hkm : k ∈ unM n m := List.mem_filter.mpr ⟨hk, decide_eq_true ek⟩
        obtain ⟨j, hj⟩ := List.getElem?_of_mem hkm
        exact absurd (hfix j k (List.getElem?_eq_some_iff.mp hj).1 hj) ne
end
end C4

set_option maxHeartbeats 4000000
namespace C4
open PySem L2 PySem.Spec PyProof.Rows
open Num
abbrev sDivR : Stmt := top 29
def spDivR : Sp := fun vs H Q _ => ∃ (p a : Addr) (xs : List Int), vs = [.ref p, .ref a] ∧ Feed H p ∧ H a = some (.tup (xs.map V.int)) ∧ 1 ≤ xs.length ∧ xs.length ≤ 60 ∧ (∀ z ∈ xs, z.natAbs ≤ 10 ^ 17) ∧ ∀ H', Dr p H H' → Q (.bl true) H'
theorem cut_to {ns : List Int} {k : Nat} (h : k ≤ ns.length) : cutV (ns.map V.int) none (some (k : Int)) = (ns.take k).map V.int := by
  unfold cutV
  rw [HT.sIx_nat, List.length_map]
  show (((ns.map V.int).drop 0).take (min k ns.length - 0)) = _
  rw [List.drop_zero, Nat.sub_zero, Nat.min_eq_left h, List.map_take]
theorem cut_from (ns : List Int) (k : Nat) : cutV (ns.map V.int) (some (k : Int)) none = (ns.drop k).map V.int := by
  unfold cutV
  rw [HT.sIx_nat, List.length_map]
  show (((ns.map V.int).drop (min k ns.length)).take (ns.length - min k ns.length)) = _
  rw [List.take_of_length_le (by rw [List.length_drop, List.length_map]; omega), List.map_drop]
  by_cases h : k ≤ ns.length
  · rw [Nat.min_eq_left h]
  · rw [Nat.min_eq_right (by omega), List.drop_of_length_le (by rw [List.length_map]; omega), List.drop_of_length_le (by rw [List.length_map]; omega)]
def fMul (k : Int) : V → V
  | .int x => .int (x * k)
  | y => y
theorem fMul_map (k : Int) (xs : List Int) : (xs.map V.int).map (fMul k) = (xs.map (· * k)).map V.int := by
  rw [List.map_map, List.map_map]
  rfl
def fMod (k : Int) : V → V
  | .int x => .int (x % k)
  | y => y
theorem fMod_map (k : Int) (xs : List Int) : (xs.map V.int).map (fMod k) = (xs.map (· % k)).map V.int := by
  rw [List.map_map, List.map_map]
  rfl
theorem div_back {k : Int} (h : 1 ≤ k) (xs : List Int) : (xs.map (· * k)).map (· / k) = xs := by
  rw [List.map_map]
  have : ((· / k) ∘ (· * k) : Int → Int) = id := by
    funext x
    show x * k / k = x
    exact Int.mul_ediv_cancel x (by omega)
  rw [this, List.map_id]
theorem all_div {k : Int} (xs : List Int) : ∀ x ∈ xs.map (· * k), x % k = 0 := fun x hx => by
  obtain ⟨y, _, rfl⟩ := List.mem_map.mp hx
  exact Int.mul_emod_left y k
theorem shown_none : PyData.shown .none = ("None" : Str) := by decide +kernel
section
variable {P : Program} {w : World} {K : PySem.W.Frag} {mg : Str → Option Value} {base : Heap}
theorem scDivR : FnScope ["_law_feed_here", "_law_one", "_law_far", "_law_often", "_law_some", "_law_at", "_law_more", "_law_due"] ["_law_feed_here", "_law_one"] (defScope sDivR) := ⟨rfl, rfl, rfl, by decide +kernel, rfl, by decide +kernel, by decide +kernel⟩
theorem ok_divR {f : Addr} {fd : FuncData} (F : Fun K "_law_divided_right" "_law_divided_right" sDivR f fd) (T : Bl mg) (GD : Fn P w K mg base CX0 1 "_law_draw" ["_law_feed_here", "_law_many"] spDraw) (GDi : Fn P w K mg base CX0 1 "divided" ["one", "k"] (spDivided K)) : FnOk P w K mg base CX0 2 f fd ["_law_feed_here", "_law_one"] spDivR := by
  refine F.ok scDivR (fun vs H Q E h => ?_) (fun cdv A outer s H vs Q E hr h => ?_)
  · obtain ⟨p, a, xs, rfl, _⟩ := h; rfl
  · obtain ⟨p, a, xs, rfl, F0, hA, l1, l60, hxb, q⟩ := h
    refine ⟨_, pss_cons (sset 2 rfl (pe_ix (ixL K) (pe_lst (pc pe_int (pc pe_int (pc (pe_op op_pow pe_int pe_int) pa_nil)))) (fnc GD hr pass0 (pc (vn 0) (pc pe_int pa_nil))) (fun _ _ => rfl)))
      (pss_cons (sset 3 rfl (pe_op op_add pe_int (fnc GD hr pass0 (pc (vn 0) (pc (vn 2) pa_nil)))))
      (pss_cons (ps_if (pt_cmpR op_gt (vn 2) pe_int (nomark _)) (pss_one (sset 1 rfl (ct call_tuple_of T.tuple (pc (cmp ["_law_a"] [] ["_law_a"] rfl (itT K (vn 1)) (fun _ _ _ _ _ => gn 0) (fun _ _ _ _ _ => pif_nil) (fun _ _ _ _ _ => pe_op op_mod (vn 0) pe_int)) pa_nil)))) pss_nil)
      (pss_cons (sset 4 rfl (ct call_tuple_of T.tuple (pc (cmp ["_law_a"] [3] ["_law_a", "_law_often"] rfl (itT K (vn 1)) (fun _ _ _ _ _ => gn 0) (fun _ _ _ _ _ => pif_nil) (fun _ _ _ _ _ => pe_op op_mul (vn 0) (vn 1))) pa_nil)))
      (pss_cons (ps_if (pt_cmpR op_ne (cb (reprK K hr) T.repr (pc (fnc GDi hr pass0 (pc (vn 4) (pc (vn 3) pa_nil))) pa_nil)) (cb (reprK K hr) T.repr (pc (vn 1) pa_nil)) (nomark _)) (pss_one (ps_ret pe_bl)) pss_nil)
      (pss_cons (sset 5 rfl (fnc GD hr pass0 (pc (vn 0) (pc (cb (lenK K) T.len (pc (vn 4) pa_nil)) pa_nil))))
      (pss_cons (sset 6 rfl (pe_op op_add (pe_ix (ixT K) (vn 4) (vn 5) (fun _ _ => rfl)) (fnc GD hr pass0 (pc (vn 0) (pc (vn 3) pa_nil)))))
      (pss_cons (sset 7 rfl (pe_ifExp (pt_cmpR op_ne (pe_op op_mod (vn 6) (vn 3)) pe_int (nomark _)) pe_str (cb (reprK K hr) T.repr (pc (vn 1) pa_nil))))
      (pss_one (ps_ret (pe_cmpR op_eq (cb (reprK K hr) T.repr (pc (fnc GDi hr pass0 (pc (pe_op op_catU (pe_op op_catU (pe_slice sl_tup (vn 4) po_none (po_some (vn 5))) (pe_tup (pc (vn 6) pa_nil))) (pe_slice sl_tup (vn 4) (po_some (pe_op op_add (vn 5) pe_int)) po_none)) (pc (vn 3) pa_nil))) pa_nil)) (vn 7) (nomark _))))))))))), ?_⟩
    have sz : (16777216 : Nat) = sizeLine := by decide
    refine ⟨_, _, rfl, rfl, ⟨by decide, by decide, by decide⟩, (by show 3 ≤ sizeLine; decide), fun l hl => ?_⟩
    have sl := Same.upd (H := H) (o := .lst [.int 3, .int 60, .int (10 ^ 18)]) hl
    refine ⟨_, rfl, p, 3, rfl, F0.mono sl, by decide, by decide +kernel, fun r1 H1 a1 b1 d1 => ?_⟩
    obtain ⟨gv, hgv, hgm⟩ := ixget (xs := [V.int 3, V.int 60, V.int (10 ^ 18)]) a1 (by simpa using b1)
    obtain ⟨far, rfl, g1, g2⟩ : ∃ m : Int, gv = .int m ∧ 1 ≤ m ∧ m ≤ 10 ^ 18 := by
      simp only [List.mem_cons, List.not_mem_nil, or_false] at hgm
      rcases hgm with rfl | rfl | rfl
      · exact ⟨3, rfl, by decide, by decide⟩
      · exact ⟨60, rfl, by decide, by decide⟩
      · exact ⟨10 ^ 18, rfl, by decide, by decide⟩
    refine ⟨l, _, r1, _, rfl, rfl, .of (d1.keep _ _ upd_same (F0.ne_none hl)), hgv, ?_⟩
    have e1 : Dr p H H1 := Dr.pre sl d1
    have F1 := e1.feed F0
    have hA1 := e1.tup F0 hA
    refine ⟨_, rfl, _, rfl, p, far, rfl, F1, by omega, log_small (by omega) (by omega), fun r2 H2 a2 b2 d2 => ⟨_, _, rfl, rfl, ?_⟩⟩
    have F2 := d2.feed F1
    have e2 := e1.trans d2
    have hA2 := d2.tup F1 hA1
    have o1 : 1 ≤ 1 + r2 := by omega
    have o2 : 1 + r2 ≤ 10 ^ 18 := by omega
    refine ⟨_, rfl, _, _, rfl, rfl, _, rfl, ?_⟩
    refine ite2 (fun hfar => ?_) (fun hfar => ?_)
    · refine ⟨_, rfl, a, rfl, ⟨_, .of hA2⟩, ?_⟩
      refine comp_map (seq_tup (.of hA2)) [] rfl (fMod 9) (by rw [List.length_map]; omega) (fun i x H' hx' s' R g => ?_) (fun D H3 nD s3 hD => ?_)
      · obtain ⟨_, rfl⟩ := map_get hx'
        exact ⟨_, rfl, _, _, rfl, rfl, (by show (0 : Int) < 9; decide), g H' (Same.refl _)⟩
      rw [fMod_map] at hD
      refine ⟨D, _, rfl, .inl ⟨.of hD, fun a' ha' => ?_⟩⟩
      have s4 := s3.trans (Same.upd (o := .tup ((xs.map (· % 9)).map V.int)) ha')
      have hB : upd H3 a' (.tup ((xs.map (· % 9)).map V.int)) a' = some (.tup ((xs.map (· % 9)).map V.int)) := upd_same
      have F4 := F2.mono s4
      have e4 := e2.same s4
      have yb : ∀ z ∈ xs.map (· % 9), z.natAbs ≤ 10 ^ 17 := fun z hz => by
        obtain ⟨y, _, rfl⟩ := List.mem_map.mp hz
        have := Int.emod_nonneg y (show (9 : Int) ≠ 0 by decide)
        have := Int.emod_lt_of_pos y (show (0 : Int) < 9 by decide)
        show (y % 9).natAbs ≤ _
        omega
      have yl : (xs.map (· % 9)).length = xs.length := List.length_map ..
      generalize upd H3 a' (.tup ((xs.map (· % 9)).map V.int)) = H4 at *
      generalize xs.map (· % 9) = ys at *
      refine ⟨_, rfl, a', rfl, ⟨_, .of hB⟩, ?_⟩
      refine comp_map (seq_tup (.of hB)) [some (.int (1 + r2))] rfl (fMul (1 + r2)) (by rw [List.length_map]; omega) (fun i x H' hx' s' R g => ?_) (fun D2 H5 nD2 s5 hD2 => ?_)
      · obtain ⟨_, rfl⟩ := map_get hx'
        exact ⟨_, rfl, _, rfl, _, _, rfl, rfl, .inr ⟨by omega, by omega⟩, g H' (Same.refl _)⟩
      rw [fMul_map] at hD2
      refine ⟨D2, _, rfl, .inl ⟨.of hD2, fun b hb => ?_⟩⟩
      have s6 := s5.trans (Same.upd (o := .tup ((ys.map (· * (1 + r2))).map V.int)) hb)
      have hS : upd H5 b (.tup ((ys.map (· * (1 + r2))).map V.int)) b = some (.tup ((ys.map (· * (1 + r2))).map V.int)) := upd_same
      generalize upd H5 b (.tup ((ys.map (· * (1 + r2))).map V.int)) = H6 at *
      have hB6 := s6 _ _ hB
      have F6 := F4.mono s6
      have e6 := e4.same s6
      have sl2 : (ys.map (· * (1 + r2))).length = ys.length := List.length_map ..
      have fitY : FitD (.tuple (ys.map PyData.int)) := fit_ints (by omega) fun z hz => Nat.lt_of_le_of_lt (yb z hz) (by decide)
      refine ⟨_, rfl, _, rfl, b, _, 1 + r2, rfl, .of hS, by omega, by omega, by omega, fun d H7 s7 _ hd => ?_, fun H7 s7 nall => absurd (all_div ys) nall⟩
      rw [div_back o1] at hd
      refine ⟨_, _, rfl, .tup (.of hd) (RdDs.ints _), fitY, _, rfl, _, _, rfl, .tup (.of (s7 _ _ hB6)) (RdDs.ints _), fitY, rfl, _, rfl, iteN (by simp) ?_⟩
      have F7 := F6.mono s7
      have e7 := e6.same s7
      have hS7 := s7 _ _ hS
      have hB7 := s7 _ _ hB6
      refine ⟨_, rfl, _, rfl, b, _, rfl, .inr (.of hS7), p, _, rfl, F7, by rw [List.length_map, sl2]; omega, log_small (by rw [List.length_map, sl2]; omega) (by rw [List.length_map, sl2]; omega), fun at_ H8 a8 b8 d8 => ?_⟩
      rw [List.length_map, sl2] at b8
      obtain ⟨k, rfl⟩ := Int.eq_ofNat_of_zero_le a8
      have hk : k < ys.length := by omega
      have F8 := d8.feed F7
      have e8 := e7.trans d8
      have hS8 := d8.tup F7 hS7
      have hB8 := d8.tup F7 hB7
      have eK : co (ys.map (· * (1 + r2))) k = co ys k * (1 + r2) := by
        have h1 := co_get (show k < (ys.map (· * (1 + r2))).length by omega)
        rw [List.getElem?_map, co_get hk] at h1
        exact (Option.some.inj h1).symm
      refine ⟨_, rfl, _, rfl, b, _, _, _, rfl, rfl, .of hS8, get_map (show k < (ys.map (· * (1 + r2))).length by omega), _, rfl, _, rfl, p, _, rfl, F8, by omega, log_small (by omega) (by omega), fun dd H9 a9 b9 d9 => ⟨_, _, rfl, rfl, ?_⟩⟩
      have F9 := d9.feed F8
      have e9 := e8.trans d9
      have hS9 := d9.tup F8 hS8
      have hB9 := d9.tup F8 hB8
      have em : (co (ys.map (· * (1 + r2))) k + dd) % (1 + r2) = dd := by
        rw [eK, Int.add_comm, Int.add_mul_emod_self_right]
        exact Int.emod_eq_of_lt a9 b9
      refine ⟨_, rfl, _, rfl, _, _, rfl, rfl, (by show (0 : Int) < 1 + r2; omega), rfl, _, rfl, ?_⟩
      refine ite2 (fun h10 => ?_) (fun h10 => ?_)
      · have dne : dd ≠ 0 := fun z => by
          rw [dec_int, em, z] at h10
          simp at h10
        refine ⟨_, rfl, _, rfl, _, rfl, b, _, rfl, .of hS9, ?_, fun p1 h1 => ?_⟩
        · rw [List.length_map, sl2, HT.sIx_nat]; omega
        rw [cut_to (show k ≤ (ys.map (· * (1 + r2))).length by omega)]
        have s1 := Same.upd (H := H9) (o := .tup (((ys.map (· * (1 + r2))).take k).map V.int)) h1
        refine ⟨_, rfl, (by show 1 ≤ sizeLine; omega), fun p2 h2 => ?_⟩
        have s2 := Same.upd (o := .tup [.int (co (ys.map (· * (1 + r2))) k + dd)]) h2
        refine ⟨p1, p2, _, _, rfl, rfl, s2 _ _ upd_same, upd_same, ?_, fun p3 H3' s3' h3 => ?_⟩
        · rw [List.length_map, List.length_take]; simp; omega
        have sE : Same H9 H3' := (s1.trans s2).trans s3'
        refine ⟨_, rfl, _, rfl, _, _, rfl, rfl, _, rfl, b, _, rfl, .of (sE _ _ hS9), ?_, fun p4 h4 => ?_⟩
        · rw [List.length_map, sl2]
          have : HT.sIx ys.length 0 (some ((k : Int) + 1)) = min (k + 1) ys.length := HT.sIx_nat ys.length 0 (k + 1)
          rw [this]; omega
        have ec : cutV ((ys.map (· * (1 + r2))).map V.int) (some ((k : Int) + 1)) none = ((ys.map (· * (1 + r2))).drop (k + 1)).map V.int := cut_from _ (k + 1)
        rw [ec]
        have s4' := Same.upd (H := H3') (o := .tup (((ys.map (· * (1 + r2))).drop (k + 1)).map V.int)) h4
        refine ⟨p3, p4, _, _, rfl, rfl, s4' _ _ h3, upd_same, ?_, fun p5 H5' s5' h5 => ?_⟩
        · rw [List.length_append, List.length_map, List.length_map, List.length_take, List.length_drop]; simp; omega
        have sF : Same H9 H5' := (sE.trans s4').trans s5'
        have h5 : H5' p5 = some (.tup (((ys.map (· * (1 + r2))).take k ++ [co (ys.map (· * (1 + r2))) k + dd] ++ (ys.map (· * (1 + r2))).drop (k + 1)).map V.int)) := by
          rw [h5, List.map_append, List.map_append]
          rfl
        have ll : ((ys.map (· * (1 + r2))).take k ++ [co (ys.map (· * (1 + r2))) k + dd] ++ (ys.map (· * (1 + r2))).drop (k + 1)).length ≤ 1000 := by
          rw [List.length_append, List.length_append, List.length_take, List.length_drop]; simp; omega
        refine ⟨_, rfl, ?_⟩
        have nall : ¬ ∀ x ∈ (ys.map (· * (1 + r2))).take k ++ [co (ys.map (· * (1 + r2))) k + dd] ++ (ys.map (· * (1 + r2))).drop (k + 1), x % (1 + r2) = 0 := fun z => by
          have := z _ (List.mem_append_left _ (List.mem_append_right _ (List.mem_singleton.mpr rfl)))
          rw [em] at this
          exact dne this
        refine ⟨p5, _, 1 + r2, rfl, .of h5, by omega, by omega, ll, fun dq H15 s15 z _ => absurd z nall, fun H15 s15 _ => ?_⟩
        refine ⟨_, _, rfl, .non, fit_non, _, rfl, rfl, ?_⟩
        rw [shown_none]
        have e : decide (V.str "None" = V.str "None") = true := by decide
        rw [e]
        exact q H15 (e9.same (sF.trans s15))
      · have d0 : dd = 0 := by
          apply Classical.byContradiction
          intro z
          apply h10
          rw [dec_int, em]
          simp [z]
        refine ⟨_, rfl, _, _, rfl, .tup (.of hB9) (RdDs.ints _), fitY, ?_⟩
        refine ⟨_, rfl, _, rfl, _, rfl, b, _, rfl, .of hS9, ?_, fun p1 h1 => ?_⟩
        · rw [List.length_map, sl2, HT.sIx_nat]; omega
        rw [cut_to (show k ≤ (ys.map (· * (1 + r2))).length by omega)]
        have s1 := Same.upd (H := H9) (o := .tup (((ys.map (· * (1 + r2))).take k).map V.int)) h1
        refine ⟨_, rfl, (by show 1 ≤ sizeLine; omega), fun p2 h2 => ?_⟩
        have s2 := Same.upd (o := .tup [.int (co (ys.map (· * (1 + r2))) k + dd)]) h2
        refine ⟨p1, p2, _, _, rfl, rfl, s2 _ _ upd_same, upd_same, ?_, fun p3 H3' s3' h3 => ?_⟩
        · rw [List.length_map, List.length_take]; simp; omega
        have sE : Same H9 H3' := (s1.trans s2).trans s3'
        refine ⟨_, rfl, _, rfl, _, _, rfl, rfl, _, rfl, b, _, rfl, .of (sE _ _ hS9), ?_, fun p4 h4 => ?_⟩
        · rw [List.length_map, sl2]
          have : HT.sIx ys.length 0 (some ((k : Int) + 1)) = min (k + 1) ys.length := HT.sIx_nat ys.length 0 (k + 1)
          rw [this]; omega
        have ec : cutV ((ys.map (· * (1 + r2))).map V.int) (some ((k : Int) + 1)) none = ((ys.map (· * (1 + r2))).drop (k + 1)).map V.int := cut_from _ (k + 1)
        rw [ec]
        have s4' := Same.upd (H := H3') (o := .tup (((ys.map (· * (1 + r2))).drop (k + 1)).map V.int)) h4
        refine ⟨p3, p4, _, _, rfl, rfl, s4' _ _ h3, upd_same, ?_, fun p5 H5' s5' h5 => ?_⟩
        · rw [List.length_append, List.length_map, List.length_map, List.length_take, List.length_drop]; simp; omega
        have sF : Same H9 H5' := (sE.trans s4').trans s5'
        have h5 : H5' p5 = some (.tup (((ys.map (· * (1 + r2))).take k ++ [co (ys.map (· * (1 + r2))) k + dd] ++ (ys.map (· * (1 + r2))).drop (k + 1)).map V.int)) := by
          rw [h5, List.map_append, List.map_append]
          rfl
        have ll : ((ys.map (· * (1 + r2))).take k ++ [co (ys.map (· * (1 + r2))) k + dd] ++ (ys.map (· * (1 + r2))).drop (k + 1)).length ≤ 1000 := by
          rw [List.length_append, List.length_append, List.length_take, List.length_drop]; simp; omega
        refine ⟨_, rfl, ?_⟩
        have esm : (ys.map (· * (1 + r2))).take k ++ [co (ys.map (· * (1 + r2))) k + dd] ++ (ys.map (· * (1 + r2))).drop (k + 1) = ys.map (· * (1 + r2)) := by
          rw [d0, Int.add_zero, List.append_assoc, List.singleton_append, ← drop_co (by omega), List.take_append_drop]
        refine ⟨p5, _, 1 + r2, rfl, .of h5, by omega, by omega, ll, fun dq H15 s15 z hq => ?_, fun H15 s15 z => absurd (by rw [esm]; exact all_div ys) z⟩
        rw [esm, div_back o1] at hq
        refine ⟨_, _, rfl, .tup (.of hq) (RdDs.ints _), fitY, _, rfl, rfl, ?_⟩
        rw [decide_eq_true rfl]
        exact q H15 (e9.same (sF.trans s15))
    · have hB := hA2
      have F4 := F2
      have e4 := e2
      have yb := hxb
      have yl : xs.length = xs.length := rfl
      refine ⟨_, rfl, a, rfl, ⟨_, .of hB⟩, ?_⟩
      refine comp_map (seq_tup (.of hB)) [some (.int (1 + r2))] rfl (fMul (1 + r2)) (by rw [List.length_map]; omega) (fun i x H' hx' s' R g => ?_) (fun D2 H5 nD2 s5 hD2 => ?_)
      · obtain ⟨_, rfl⟩ := map_get hx'
        exact ⟨_, rfl, _, rfl, _, _, rfl, rfl, .inr ⟨by omega, by omega⟩, g H' (Same.refl _)⟩
      rw [fMul_map] at hD2
      refine ⟨D2, _, rfl, .inl ⟨.of hD2, fun b hb => ?_⟩⟩
      have s6 := s5.trans (Same.upd (o := .tup ((xs.map (· * (1 + r2))).map V.int)) hb)
      have hS : upd H5 b (.tup ((xs.map (· * (1 + r2))).map V.int)) b = some (.tup ((xs.map (· * (1 + r2))).map V.int)) := upd_same
      generalize upd H5 b (.tup ((xs.map (· * (1 + r2))).map V.int)) = H6 at *
      have hB6 := s6 _ _ hB
      have F6 := F4.mono s6
      have e6 := e4.same s6
      have sl2 : (xs.map (· * (1 + r2))).length = xs.length := List.length_map ..
      have fitY : FitD (.tuple (xs.map PyData.int)) := fit_ints (by omega) fun z hz => Nat.lt_of_le_of_lt (yb z hz) (by decide)
      refine ⟨_, rfl, _, rfl, b, _, 1 + r2, rfl, .of hS, by omega, by omega, by omega, fun d H7 s7 _ hd => ?_, fun H7 s7 nall => absurd (all_div xs) nall⟩
      rw [div_back o1] at hd
      refine ⟨_, _, rfl, .tup (.of hd) (RdDs.ints _), fitY, _, rfl, _, _, rfl, .tup (.of (s7 _ _ hB6)) (RdDs.ints _), fitY, rfl, _, rfl, iteN (by simp) ?_⟩
      have F7 := F6.mono s7
      have e7 := e6.same s7
      have hS7 := s7 _ _ hS
      have hB7 := s7 _ _ hB6
      refine ⟨_, rfl, _, rfl, b, _, rfl, .inr (.of hS7), p, _, rfl, F7, by rw [List.length_map, sl2]; omega, log_small (by rw [List.length_map, sl2]; omega) (by rw [List.length_map, sl2]; omega), fun at_ H8 a8 b8 d8 => ?_⟩
      rw [List.length_map, sl2] at b8
      obtain ⟨k, rfl⟩ := Int.eq_ofNat_of_zero_le a8
      have hk : k < xs.length := by omega
      have F8 := d8.feed F7
      have e8 := e7.trans d8
      have hS8 := d8.tup F7 hS7
      have hB8 := d8.tup F7 hB7
      have eK : co (xs.map (· * (1 + r2))) k = co xs k * (1 + r2) := by
        have h1 := co_get (show k < (xs.map (· * (1 + r2))).length by omega)
        rw [List.getElem?_map, co_get hk] at h1
        exact (Option.some.inj h1).symm
      refine ⟨_, rfl, _, rfl, b, _, _, _, rfl, rfl, .of hS8, get_map (show k < (xs.map (· * (1 + r2))).length by omega), _, rfl, _, rfl, p, _, rfl, F8, by omega, log_small (by omega) (by omega), fun dd H9 a9 b9 d9 => ⟨_, _, rfl, rfl, ?_⟩⟩
      have F9 := d9.feed F8
      have e9 := e8.trans d9
      have hS9 := d9.tup F8 hS8
      have hB9 := d9.tup F8 hB8
      have em : (co (xs.map (· * (1 + r2))) k + dd) % (1 + r2) = dd := by
        rw [eK, Int.add_comm, Int.add_mul_emod_self_right]
        exact Int.emod_eq_of_lt a9 b9
      refine ⟨_, rfl, _, rfl, _, _, rfl, rfl, (by show (0 : Int) < 1 + r2; omega), rfl, _, rfl, ?_⟩
      refine ite2 (fun h10 => ?_) (fun h10 => ?_)
      · have dne : dd ≠ 0 := fun z => by
          rw [dec_int, em, z] at h10
          simp at h10
        refine ⟨_, rfl, _, rfl, _, rfl, b, _, rfl, .of hS9, ?_, fun p1 h1 => ?_⟩
        · rw [List.length_map, sl2, HT.sIx_nat]; omega
        rw [cut_to (show k ≤ (xs.map (· * (1 + r2))).length by omega)]
        have s1 := Same.upd (H := H9) (o := .tup (((xs.map (· * (1 + r2))).take k).map V.int)) h1
        refine ⟨_, rfl, (by show 1 ≤ sizeLine; omega), fun p2 h2 => ?_⟩
        have s2 := Same.upd (o := .tup [.int (co (xs.map (· * (1 + r2))) k + dd)]) h2
        refine ⟨p1, p2, _, _, rfl, rfl, s2 _ _ upd_same, upd_same, ?_, fun p3 H3' s3' h3 => ?_⟩
        · rw [List.length_map, List.length_take]; simp; omega
        have sE : Same H9 H3' := (s1.trans s2).trans s3'
        refine ⟨_, rfl, _, rfl, _, _, rfl, rfl, _, rfl, b, _, rfl, .of (sE _ _ hS9), ?_, fun p4 h4 => ?_⟩
        · rw [List.length_map, sl2]
          have : HT.sIx xs.length 0 (some ((k : Int) + 1)) = min (k + 1) xs.length := HT.sIx_nat xs.length 0 (k + 1)
          rw [this]; omega
        have ec : cutV ((xs.map (· * (1 + r2))).map V.int) (some ((k : Int) + 1)) none = ((xs.map (· * (1 + r2))).drop (k + 1)).map V.int := cut_from _ (k + 1)
        rw [ec]
        have s4' := Same.upd (H := H3') (o := .tup (((xs.map (· * (1 + r2))).drop (k + 1)).map V.int)) h4
        refine ⟨p3, p4, _, _, rfl, rfl, s4' _ _ h3, upd_same, ?_, fun p5 H5' s5' h5 => ?_⟩
        · rw [List.length_append, List.length_map, List.length_map, List.length_take, List.length_drop]; simp; omega
        have sF : Same H9 H5' := (sE.trans s4').trans s5'
        have h5 : H5' p5 = some (.tup (((xs.map (· * (1 + r2))).take k ++ [co (xs.map (· * (1 + r2))) k + dd] ++ (xs.map (· * (1 + r2))).drop (k + 1)).map V.int)) := by
          rw [h5, List.map_append, List.map_append]
          rfl
        have ll : ((xs.map (· * (1 + r2))).take k ++ [co (xs.map (· * (1 + r2))) k + dd] ++ (xs.map (· * (1 + r2))).drop (k + 1)).length ≤ 1000 := by
          rw [List.length_append, List.length_append, List.length_take, List.length_drop]; simp; omega
        refine ⟨_, rfl, ?_⟩
        have nall : ¬ ∀ x ∈ (xs.map (· * (1 + r2))).take k ++ [co (xs.map (· * (1 + r2))) k + dd] ++ (xs.map (· * (1 + r2))).drop (k + 1), x % (1 + r2) = 0 := fun z => by
          have := z _ (List.mem_append_left _ (List.mem_append_right _ (List.mem_singleton.mpr rfl)))
          rw [em] at this
          exact dne this
        refine ⟨p5, _, 1 + r2, rfl, .of h5, by omega, by omega, ll, fun dq H15 s15 z _ => absurd z nall, fun H15 s15 _ => ?_⟩
        refine ⟨_, _, rfl, .non, fit_non, _, rfl, rfl, ?_⟩
        rw [shown_none]
        have e : decide (V.str "None" = V.str "None") = true := by decide
        rw [e]
        exact q H15 (e9.same (sF.trans s15))
      · have d0 : dd = 0 := by
          apply Classical.byContradiction
          intro z
          apply h10
          rw [dec_int, em]
          simp [z]
        refine ⟨_, rfl, _, _, rfl, .tup (.of hB9) (RdDs.ints _), fitY, ?_⟩
        refine ⟨_, rfl, _, rfl, _, rfl, b, _, rfl, .of hS9, ?_, fun p1 h1 => ?_⟩
        · rw [List.length_map, sl2, HT.sIx_nat]; omega
        rw [cut_to (show k ≤ (xs.map (· * (1 + r2))).length by omega)]
        have s1 := Same.upd (H := H9) (o := .tup (((xs.map (· * (1 + r2))).take k).map V.int)) h1
        refine ⟨_, rfl, (by show 1 ≤ sizeLine; omega), fun p2 h2 => ?_⟩
        have s2 := Same.upd (o := .tup [.int (co (xs.map (· * (1 + r2))) k + dd)]) h2
        refine ⟨p1, p2, _, _, rfl, rfl, s2 _ _ upd_same, upd_same, ?_, fun p3 H3' s3' h3 => ?_⟩
        · rw [List.length_map, List.length_take]; simp; omega
        have sE : Same H9 H3' := (s1.trans s2).trans s3'
        refine ⟨_, rfl, _, rfl, _, _, rfl, rfl, _, rfl, b, _, rfl, .of (sE _ _ hS9), ?_, fun p4 h4 => ?_⟩
        · rw [List.length_map, sl2]
          have : HT.sIx xs.length 0 (some ((k : Int) + 1)) = min (k + 1) xs.length := HT.sIx_nat xs.length 0 (k + 1)
          rw [this]; omega
        have ec : cutV ((xs.map (· * (1 + r2))).map V.int) (some ((k : Int) + 1)) none = ((xs.map (· * (1 + r2))).drop (k + 1)).map V.int := cut_from _ (k + 1)
        rw [ec]
        have s4' := Same.upd (H := H3') (o := .tup (((xs.map (· * (1 + r2))).drop (k + 1)).map V.int)) h4
        refine ⟨p3, p4, _, _, rfl, rfl, s4' _ _ h3, upd_same, ?_, fun p5 H5' s5' h5 => ?_⟩
        · rw [List.length_append, List.length_map, List.length_map, List.length_take, List.length_drop]; simp; omega
        have sF : Same H9 H5' := (sE.trans s4').trans s5'
        have h5 : H5' p5 = some (.tup (((xs.map (· * (1 + r2))).take k ++ [co (xs.map (· * (1 + r2))) k + dd] ++ (xs.map (· * (1 + r2))).drop (k + 1)).map V.int)) := by
          rw [h5, List.map_append, List.map_append]
          rfl
        have ll : ((xs.map (· * (1 + r2))).take k ++ [co (xs.map (· * (1 + r2))) k + dd] ++ (xs.map (· * (1 + r2))).drop (k + 1)).length ≤ 1000 := by
          rw [List.length_append, List.length_append, List.length_take, List.length_drop]; simp; omega
        refine ⟨_, rfl, ?_⟩
        have esm : (xs.map (· * (1 + r2))).take k ++ [co (xs.map (· * (1 + r2))) k + dd] ++ (xs.map (· * (1 + r2))).drop (k + 1) = xs.map (· * (1 + r2)) := by
          rw [d0, Int.add_zero, List.append_assoc, List.singleton_append, ← drop_co (by omega), List.take_append_drop]
        refine ⟨p5, _, 1 + r2, rfl, .of h5, by omega, by omega, ll, fun dq H15 s15 z hq => ?_, fun H15 s15 z => absurd (by rw [esm]; exact all_div xs) z⟩
        rw [esm, div_back o1] at hq
        refine ⟨_, _, rfl, .tup (.of hq) (RdDs.ints _), fitY, _, rfl, rfl, ?_⟩
        rw [decide_eq_true rfl]
        exact q H15 (e9.same (sF.trans s15))
end
end C4

set_option maxHeartbeats 4000000
namespace C4
open PySem L2 PySem.Spec PyProof.Rows
open Num
abbrev sLaw : Stmt := top 30
def spLaw (K : PySem.W.Frag) : Sp := fun vs H Q _ => ∃ (a : Addr) (ns : List Int), vs = [.ref a] ∧ SqL K H a (ns.map V.int) ∧ ns.length ≤ 63 ∧ ∀ H', Q (.bl true) H'
theorem wid_fix {m n k : Nat} (m1 : 1 ≤ m) (mn : m ≤ n) (n60 : n ≤ 60) (d : n % m = 0) (hk : k ∈ unN n) (e : k % m = 1 % m) {y : List Int} (hy : y.length = topN m) : trn n (topN n) (RN n) (k : Int) (wid m n y) = wid m n y := by
  obtain ⟨G, _⟩ := goodN m1 (show m ≤ 60 by omega)
  rw [wid_trn (k := 1) m1 n60 mn d hk e]
  congr 1
  refine ext_co (by rw [trn_len, hy]) fun j hj => ?_
  rw [trn_len] at hj
  rw [trn_coN m1 hj, hy]
  have := TP_one G
  have tn := G.tn
  rw [sumF_one _ j _ hj fun t ht hne => ?_, Nat.mul_one]
  · unfold rh
    rw [Nat.mod_eq_of_lt (by omega), G.un j hj, co_unit hj, if_pos rfl, Int.mul_one]
  · rw [Nat.mul_one]
    unfold rh
    rw [Nat.mod_eq_of_lt (by omega), G.un t ht, co_unit hj, if_neg (fun z => hne z.symm), Int.mul_zero]
section
variable {P : Program} {w : World} {K : PySem.W.Frag} {mg : Str → Option Value} {base : Heap}
theorem scLaw : FnScope ["_law_script", "_law_feed_here", "_law_k", "_law_m", "_law_n", "_law_one", "_law_wide"] ["_law_script"] (defScope sLaw) := ⟨rfl, rfl, rfl, by decide +kernel, rfl, by decide +kernel, by decide +kernel⟩
theorem ok_law {f : Addr} {fd : FuncData} (F : Fun K "law" "law" sLaw f fd) (T : Bl mg) (GFd : Fn P w K mg base CX0 1 "_law_feed" ["_law_script"] (spFeed K)) (GD : Fn P w K mg base CX0 1 "_law_draw" ["_law_feed_here", "_law_many"] spDraw)
    (GU : Fn P w K mg base CX0 3 "_law_number" ["_law_feed_here", "_law_n"] spNumber) (GW : Fn P w K mg base CX0 4 "widened" ["n", "one", "m"] (spWid K)) (GI : Fn P w K mg base CX0 4 "_law_is" ["_law_n", "_law_found", "_law_powers"] (spAli K)) (GSp : Fn P w K mg base CX0 1 "_law_spread" ["_law_n", "_law_one", "_law_m"] (spSpread K))
    (GNr : Fn P w K mg base CX0 7 "_law_narrow_right" ["_law_feed_here", "_law_n", "_law_m"] spNarR) (GNa : Fn P w K mg base CX0 6 "narrowed" ["n", "one", "m"] (spNarrowed K)) (GDr : Fn P w K mg base CX0 2 "_law_divided_right" ["_law_feed_here", "_law_one"] spDivR) :
    FnOk P w K mg base CX0 8 f fd ["_law_script"] (spLaw K) := by
  refine F.ok scLaw (fun vs H Q E h => ?_) (fun cdv A outer s H vs Q E hr h => ?_)
  · obtain ⟨a, ns, rfl, _⟩ := h; rfl
  · obtain ⟨a0, ns, rfl, hS, hlen, q⟩ := h
    refine ⟨_, pss_cons (sset 1 rfl (fnc GFd hr pass0 (pc (vn 0) pa_nil)))
      (pss_cons (ps_for PassesOwn.never rfl (rng1 T.range (pc pe_int pa_nil)) (gn 2)
        (pss_cons (sset 3 rfl (pe_op op_add pe_int (fnc GD hr pass0 (pc (vn 1) (pc pe_int pa_nil)))))
        (pss_cons (sset 4 rfl (pe_op op_mul (vn 3) (pe_op op_add pe_int (fnc GD hr pass0 (pc (vn 1) (pc (pe_op op_fdiv pe_int (vn 3)) pa_nil))))))
        (pss_cons (sset 5 rfl (fnc GU hr pass0 (pc (vn 1) (pc (vn 3) pa_nil))))
        (pss_cons (sset 6 rfl (fnc GW hr pass0 (pc (vn 3) (pc (vn 5) (pc (vn 4) pa_nil)))))
        (pss_cons (ps_if (pw_or (pt_not (pt_val (fnc GI hr pass0 (pc (vn 4) (pc (vn 6) (pc (fnc GSp hr pass0 (pc (vn 3) (pc (vn 5) (pc (vn 4) pa_nil)))) pa_nil)))))) (pw_or1 (pt_not (pt_val (fnc GNr hr pass0 (pc (vn 1) (pc (vn 4) (pc (vn 3) pa_nil)))))))).pt (pss_one (ps_ret pe_bl)) pss_nil)
        (pss_cons (ps_if (pt_cmpR op_ne (cb (reprK K hr) T.repr (pc (fnc GNa hr pass0 (pc (vn 4) (pc (vn 6) (pc (vn 3) pa_nil)))) pa_nil)) (cb (reprK K hr) T.repr (pc (vn 5) pa_nil)) (nomark _)) (pss_one (ps_ret pe_bl)) pss_nil)
        (pss_one (ps_if (pt_not (pt_val (fnc GDr hr pass0 (pc (vn 1) (pc (vn 5) pa_nil))))) (pss_one (ps_ret pe_bl)) pss_nil)))))))))
      (pss_one (ps_ret pe_bl))), ?_⟩
    refine ⟨_, rfl, a0, ns, rfl, hS, fun p H0 s0 hp F0 => ?_⟩
    refine ⟨8, rfl, by decide, by decide, ?_⟩
    refine for_range (fun i σ' H' => ∃ v2 v3 v4 v5 v6 : Option V, σ' = [some (.ref a0), some (.ref p), v2, v3, v4, v5, v6] ∧ Feed H' p) ⟨_, _, _, _, _, rfl, F0⟩ ?_ ?_
    · rintro i σ' H1 hi ⟨v2, v3, v4, v5, v6, rfl, F1⟩
      refine ⟨_, rfl, p, 20, rfl, F1, by decide, by decide +kernel, fun r1 H2 a1 b1 d1 => ⟨_, _, rfl, rfl, ?_⟩⟩
      have F2 := d1.feed F1
      obtain ⟨m, hm, m1, m20⟩ : ∃ m : Nat, 1 + r1 = (m : Int) ∧ 1 ≤ m ∧ m ≤ 20 := by
        obtain ⟨k, rfl⟩ := Int.eq_ofNat_of_zero_le a1
        exact ⟨1 + k, by push_cast; rfl, by omega, by omega⟩
      have eM : V.int (1 + r1) = V.int (m : Int) := congrArg V.int hm
      dsimp only
      rw [eM]
      have q60 : (0 : Int) < 60 / (m : Int) := by
        have : (1 : Int) ≤ 60 / (m : Int) := (Int.le_ediv_iff_mul_le (by omega)).mpr (by omega)
        omega
      have q61 : (60 : Int) / (m : Int) ≤ 60 := Int.ediv_le_self _ (by omega)
      refine ⟨_, rfl, _, rfl, _, rfl, _, _, rfl, rfl, ⟨(by show (0 : Int) < m; omega), (by show (m : Int) < 1073741824; omega)⟩, p, _, rfl, F2, q60, log_small q60 (by omega), fun r2 H3 a2 b2 d2 => ?_⟩
      refine ⟨_, _, rfl, rfl, _, _, rfl, rfl, .inl ⟨by omega, by omega⟩, ?_⟩
      have F3 := d2.feed F2
      obtain ⟨n, hn, mn, n60, dn⟩ : ∃ n : Nat, (m : Int) * (1 + r2) = (n : Int) ∧ m ≤ n ∧ n ≤ 60 ∧ n % m = 0 := by
        obtain ⟨k, rfl⟩ := Int.eq_ofNat_of_zero_le a2
        have hk : (k : Int) + 1 ≤ 60 / (m : Int) := b2
        have := (Int.le_ediv_iff_mul_le (show (0 : Int) < m by omega)).mp hk
        refine ⟨m * (1 + k), by push_cast; rfl, Nat.le_mul_of_pos_right _ (by omega), ?_, Nat.mul_mod_right ..⟩
        have e : ((m * (1 + k) : Nat) : Int) = ((k : Int) + 1) * m := by push_cast; rw [Int.mul_comm, Int.add_comm]
        omega
      have eN : V.int ((m : Int) * (1 + r2)) = V.int (n : Int) := congrArg V.int hn
      dsimp only
      rw [eN]
      obtain ⟨Gm, htm⟩ := goodN m1 (show m ≤ 60 by omega)
      obtain ⟨Gn, htn⟩ := goodN (show 1 ≤ n by omega) n60
      have tm := Gm.tn
      have tm1 := Gm.t1
      have tn := Gn.tn
      refine ⟨_, rfl, _, rfl, p, m, rfl, F3, m1, by omega, fun a x H4 hxl hxb d4 hA => ?_⟩
      have F4 := d4.feed F3
      have hx : x.length = topN m := by omega
      refine ⟨_, rfl, _, rfl, _, rfl, m, n, a, x, rfl, m1, mn, n60, .of hA, by omega, by omega, fun wa H5 s5 hW => ?_⟩
      refine ⟨_, rfl, _, rfl, _, rfl, _, rfl, _, rfl, m, n, a, x, rfl, m1, mn, n60, s5 _ _ hA, hx, fun l H6 s6 hl => ?_⟩
      have ew : wid m n x = numL n (topN n) (RN n) (sprL m n x) := (sprL_num (Nat.div_pos mn (by omega)) (.inr (spr_fit m1 mn (by omega) hx))).symm
      refine ⟨n, wa, l, sprL m n x, rfl, by omega, n60, by rw [← ew]; exact s6 _ _ hW, .inl (.of hl), by rw [sprL_len]; omega, fun H7 s7 => ⟨_, rfl, iteN (by decide) ?_⟩⟩
      have S7 := (s5.trans s6).trans s7
      have F7 := F4.mono S7
      have hW7 := (s6.trans s7) _ _ hW
      have hA7 := S7 _ _ hA
      refine ⟨_, rfl, _, rfl, _, rfl, p, n, m, rfl, F7, m1, mn, n60, dn, fun H8 d8 => ⟨_, rfl, iteN (by decide) ?_⟩⟩
      have F8 := d8.feed F7
      have hW8 := d8.tup F7 hW7
      have hA8 := d8.tup F7 hA7
      have fitX : FitD (.tuple (x.map PyData.int)) := fit_ints (by omega) fun z hz => Nat.lt_of_le_of_lt (hxb z hz) (by decide)
      refine ⟨_, rfl, _, rfl, _, rfl, n, m, wa, wid m n x, rfl, m1, mn, n60, dn, hW8, wid_len .., fun qa y H9 s9 hq hyl hw => ?_, fun k H9 s9 hk ek ne => absurd (wid_fix m1 mn n60 dn hk ek hx) ne⟩
      have ey : y = x := inj m1 n n (Nat.le_refl _) n60 mn dn y x hyl hx hw
      rw [ey] at hq
      refine ⟨_, _, rfl, .tup (.of hq) (RdDs.ints _), fitX, _, rfl, _, _, rfl, .tup (.of (s9 _ _ hA8)) (RdDs.ints _), fitX, rfl, _, rfl, iteN (by simp) ?_⟩
      have F9 := F8.mono s9
      exact ⟨_, rfl, _, rfl, p, a, x, rfl, F9, s9 _ _ hA8, by omega, by omega, hxb, fun H10 d10 => ⟨_, rfl, iteN (by decide) ⟨_, _, _, _, _, rfl, d10.feed F9⟩⟩⟩
    · rintro σ' H' ⟨v2, v3, v4, v5, v6, rfl, F1⟩
      exact q _
end
end C4

set_option maxHeartbeats 4000000
namespace C4
open PySem L2 PySem.Spec PyProof.Rows
theorem all_mk {l : PySem.W.OpenLaw} {w : World} {K : PySem.W.Frag} {h : Heap} {mg : Str → Option Value} {fa : Addr} (X : K.In h) (G : h.Ns mainGlobals mg) (hfa : mg "law" = some (.ref fa))
    (d1 : DefIn K "primes_of" sPrimes) (d2 : DefIn K "places" sPlaces) (d3 : DefIn K "stretched" sStr) (d4 : DefIn K "quotient" sQuo) (d5 : DefIn K "least_sum" sLeast) (d6 : DefIn K "number_of" sNumOf) (d7 : DefIn K "whole" sWhl) (d8 : DefIn K "less" sLess) (d9 : DefIn K "widened" sWid) (d10 : DefIn K "parted" sParted) (d11 : DefIn K "narrowed_once" sOnce) (d12 : DefIn K "narrowed" sNarrowed) (d13 : DefIn K "divided" sDivided) (d14 : DefIn K "_law_feed" sFeed) (d15 : DefIn K "_law_draw" sDraw) (d16 : DefIn K "_law_gcd" sGcd) (d17 : DefIn K "_law_primes" sPr) (d18 : DefIn K "_law_places" sLawPl) (d19 : DefIn K "_law_row" sRow) (d20 : DefIn K "_law_is_nought" sNou) (d21 : DefIn K "_law_is_alike" sAli) (d22 : DefIn K "_law_is_number" sLawNum) (d23 : DefIn K "_law_is" sIs) (d24 : DefIn K "_law_whole" sLW) (d25 : DefIn K "_law_number" sLNum) (d26 : DefIn K "_law_spread" sSpread) (d27 : DefIn K "_law_narrow_right" sNarR) (d28 : DefIn K "_law_divided_right" sDivR) (d29 : DefIn K "law" sLaw)
    (z1 : PySem.W.nsIn K mainGlobals "list" = some none) (z2 : PySem.W.nsIn K mainGlobals "len" = some none) (z3 : PySem.W.nsIn K mainGlobals "abs" = some none) (z4 : PySem.W.nsIn K mainGlobals "range" = some none) (z5 : PySem.W.nsIn K mainGlobals "tuple" = some none) (z6 : PySem.W.nsIn K mainGlobals "isinstance" = some none) (z7 : PySem.W.nsIn K mainGlobals "all" = some none) (z8 : PySem.W.nsIn K mainGlobals "set" = some none) (z9 : PySem.W.nsIn K mainGlobals "repr" = some none) (z10 : PySem.W.nsIn K mainGlobals "any" = some none) (z11 : PySem.W.nsIn K mainGlobals "int" = some none) (z12 : PySem.W.nsIn K mainGlobals "bool" = some none) (z13 : PySem.W.nsIn K mainGlobals "enumerate" = some none) (z14 : PySem.W.nsIn K mainGlobals "max" = some none) (z15 : PySem.W.nsIn K mainGlobals "zip" = some none) :
    ∃ fd : FuncData, (∀ (s : Shared) (v : Value), BindsTo s fd ⟨[v], []⟩ [("_law_script", v)]) ∧ ∀ base : Heap, K.In base → base.Ns mainGlobals mg → FnOk l.prog w K mg base CX0 8 fa fd ["_law_script"] (spLaw K) := by
  have T : Bl mg := ⟨PySem.W.mg_none_of X G z1, PySem.W.mg_none_of X G z2, PySem.W.mg_none_of X G z3, PySem.W.mg_none_of X G z4, PySem.W.mg_none_of X G z5, PySem.W.mg_none_of X G z6, PySem.W.mg_none_of X G z7, PySem.W.mg_none_of X G z8, PySem.W.mg_none_of X G z9, PySem.W.mg_none_of X G z10, PySem.W.mg_none_of X G z11, PySem.W.mg_none_of X G z12⟩
  have T2 : Bl2 mg := ⟨PySem.W.mg_none_of X G z13, PySem.W.mg_none_of X G z14⟩
  have T3 : Bl3 mg := ⟨PySem.W.mg_none_of X G z15⟩
  refine d29.law X G hfa (fun base f fd nb kb F => ?_) (fun _ _ _ _ _ _ _ _ => .of_eq rfl)
  have GPr : Fn l.prog w K mg base CX0 1 "primes_of" ["n"] (spPrimes) := d1.fn X G (fun f fd F => ok_primes F T) (fun _ _ _ _ _ _ us hl => match us, hl with | [_], _ => rfl)
  have GPl : Fn l.prog w K mg base CX0 2 "places" ["n"] (spPlaces) := d2.fn X G (fun f fd F => ok_places F T GPr) (fun _ _ _ _ _ _ us hl => match us, hl with | [_], _ => rfl)
  have GSt : Fn l.prog w K mg base CX0 1 "stretched" ["powers", "step"] (spStr K) := d3.fn X G (fun f fd F => ok_str F T T2) (fun _ _ _ _ _ _ us hl => match us, hl with | [_, _], _ => rfl)
  have GStT : Fn l.prog w K mg base CX0 1 "stretched" ["powers", "step"] (spStrT K) := d3.fn X G (fun f fd F => ok_strT F T T2) (fun _ _ _ _ _ _ us hl => match us, hl with | [_, _], _ => rfl)
  have GQ : Fn l.prog w K mg base CX0 1 "quotient" ["powers", "divisor"] (spQuo K) := d4.fn X G (fun f fd F => ok_quo F T T2) (fun _ _ _ _ _ _ us hl => match us, hl with | [_, _], _ => rfl)
  have GLe : Fn l.prog w K mg base CX0 2 "least_sum" ["n"] (spLeast) := d5.fn X G (fun f fd F => ok_least F GPr GSt GQ) (fun _ _ _ _ _ _ us hl => match us, hl with | [_], _ => rfl)
  have GN : Fn l.prog w K mg base CX0 3 "number_of" ["n", "powers"] (spNumOf K) := d6.fn X G (fun f fd F => ok_numOf F T T2 GLe) (fun _ _ _ _ _ _ us hl => match us, hl with | [_, _], _ => rfl)
  have GWh : Fn l.prog w K mg base CX0 3 "whole" ["n", "k"] (spWhl) := d7.fn X G (fun f fd F => ok_whl F GPl) (fun _ _ _ _ _ _ us hl => match us, hl with | [_, _], _ => rfl)
  have GLs : Fn l.prog w K mg base CX0 1 "less" ["one", "other"] (spTwo K (· - ·)) := d8.fn X G (fun f fd F => ok_less F T T3) (fun _ _ _ _ _ _ us hl => match us, hl with | [_, _], _ => rfl)
  have GWi : Fn l.prog w K mg base CX0 4 "widened" ["n", "one", "m"] (spWid K) := d9.fn X G (fun f fd F => ok_wid F GStT GN) (fun _ _ _ _ _ _ us hl => match us, hl with | [_, _, _], _ => rfl)
  have GPa : Fn l.prog w K mg base CX0 4 "parted" ["n", "one", "p"] (spParted K) := d10.fn X G (fun f fd F => ok_parted F T T2 GN) (fun _ _ _ _ _ _ us hl => match us, hl with | [_, _, _], _ => rfl)
  have GO : Fn l.prog w K mg base CX0 5 "narrowed_once" ["n", "one", "p"] (spOnce K) := d11.fn X G (fun f fd F => ok_once F T GPa GWh GLs) (fun _ _ _ _ _ _ us hl => match us, hl with | [_, _, _], _ => rfl)
  have GNa : Fn l.prog w K mg base CX0 6 "narrowed" ["n", "one", "m"] (spNarrowed K) := d12.fn X G (fun f fd F => ok_narrowed F GPr GO) (fun _ _ _ _ _ _ us hl => match us, hl with | [_, _, _], _ => rfl)
  have GDi : Fn l.prog w K mg base CX0 1 "divided" ["one", "k"] (spDivided K) := d13.fn X G (fun f fd F => ok_divided F T) (fun _ _ _ _ _ _ us hl => match us, hl with | [_, _], _ => rfl)
  have GFd : Fn l.prog w K mg base CX0 1 "_law_feed" ["_law_script"] (spFeed K) := d14.fn X G (fun f fd F => ok_feed F T) (fun _ _ _ _ _ _ us hl => match us, hl with | [_], _ => rfl)
  have GD : Fn l.prog w K mg base CX0 1 "_law_draw" ["_law_feed_here", "_law_many"] (spDraw) := d15.fn X G (fun f fd F => ok_draw F T) (fun _ _ _ _ _ _ us hl => match us, hl with | [_, _], _ => rfl)
  have GG : Fn l.prog w K mg base CX0 1 "_law_gcd" ["_law_one", "_law_other"] (spGcd) := d16.fn X G (fun f fd F => ok_gcd F) (fun _ _ _ _ _ _ us hl => match us, hl with | [_, _], _ => rfl)
  have GLp : Fn l.prog w K mg base CX0 1 "_law_primes" ["_law_n"] (spPrimes) := d17.fn X G (fun f fd F => ok_pr F T) (fun _ _ _ _ _ _ us hl => match us, hl with | [_], _ => rfl)
  have GLl : Fn l.prog w K mg base CX0 2 "_law_places" ["_law_n"] (spLawPl) := d18.fn X G (fun f fd F => ok_lawPl F T GG) (fun _ _ _ _ _ _ us hl => match us, hl with | [_], _ => rfl)
  have GRo : Fn l.prog w K mg base CX0 1 "_law_row" ["_law_n", "_law_powers"] (spRow K) := d19.fn X G (fun f fd F => ok_row F T) (fun _ _ _ _ _ _ us hl => match us, hl with | [_, _], _ => rfl)
  have GNo : Fn l.prog w K mg base CX0 2 "_law_is_nought" ["_law_n", "_law_row_here"] (spNou) := d20.fn X G (fun f fd F => ok_nou F T GLp) (fun _ _ _ _ _ _ us hl => match us, hl with | [_, _], _ => rfl)
  have GNoG : Fn l.prog w K mg base CX0 2 "_law_is_nought" ["_law_n", "_law_row_here"] (spNouG) := d20.fn X G (fun f fd F => ok_nouG F T GLp) (fun _ _ _ _ _ _ us hl => match us, hl with | [_, _], _ => rfl)
  have GAl : Fn l.prog w K mg base CX0 3 "_law_is_alike" ["_law_n", "_law_one", "_law_other"] (spAli K) := d21.fn X G (fun f fd F => ok_ali F T GRo GNo) (fun _ _ _ _ _ _ us hl => match us, hl with | [_, _, _], _ => rfl)
  have GAlG : Fn l.prog w K mg base CX0 3 "_law_is_alike" ["_law_n", "_law_one", "_law_other"] (spAliG K) := d21.fn X G (fun f fd F => ok_aliG F T GRo GNoG) (fun _ _ _ _ _ _ us hl => match us, hl with | [_, _, _], _ => rfl)
  have GNu : Fn l.prog w K mg base CX0 3 "_law_is_number" ["_law_n", "_law_thing"] (spNum K) := d22.fn X G (fun f fd F => ok_lawNum F T GLl) (fun _ _ _ _ _ _ us hl => match us, hl with | [_, _], _ => rfl)
  have GI : Fn l.prog w K mg base CX0 4 "_law_is" ["_law_n", "_law_found", "_law_powers"] (spAli K) := d23.fn X G (fun f fd F => ok_is F GNu GAl) (fun _ _ _ _ _ _ us hl => match us, hl with | [_, _, _], _ => rfl)
  have GLW : Fn l.prog w K mg base CX0 2 "_law_whole" ["_law_feed_here"] (spW) := d24.fn X G (fun f fd F => ok_w F GD) (fun _ _ _ _ _ _ us hl => match us, hl with | [_], _ => rfl)
  have GU : Fn l.prog w K mg base CX0 3 "_law_number" ["_law_feed_here", "_law_n"] (spNumber) := d25.fn X G (fun f fd F => ok_lnum F T GD GLW GLl) (fun _ _ _ _ _ _ us hl => match us, hl with | [_, _], _ => rfl)
  have GSp : Fn l.prog w K mg base CX0 1 "_law_spread" ["_law_n", "_law_one", "_law_m"] (spSpread K) := d26.fn X G (fun f fd F => ok_spread F T) (fun _ _ _ _ _ _ us hl => match us, hl with | [_, _, _], _ => rfl)
  have GNr : Fn l.prog w K mg base CX0 7 "_law_narrow_right" ["_law_feed_here", "_law_n", "_law_m"] (spNarR) := d27.fn X G (fun f fd F => ok_narR F T GG GU GNa GNu GAlG GSp) (fun _ _ _ _ _ _ us hl => match us, hl with | [_, _, _], _ => rfl)
  have GDr : Fn l.prog w K mg base CX0 2 "_law_divided_right" ["_law_feed_here", "_law_one"] (spDivR) := d28.fn X G (fun f fd F => ok_divR F T GD GDi) (fun _ _ _ _ _ _ us hl => match us, hl with | [_, _], _ => rfl)
  exact ok_law F T GFd GD GU GWi GI GSp GNr GNa GDr
theorem walk {l : PySem.W.OpenLaw} {q : Program} {loose : List Str} {XP : (Str → Option Value) → Heap → Prop} {YP : World → Heap → Prop} {d : DefRec} {K : Params → PySem.W.Frag} (hn : l.most = some 63) (hdf : d.params.defaults = [])
    (hY : ∀ (w : World) (h : Heap), YP w h → (K w.params).In h)
    (F : ∀ (w : World) (mg : Str → Option Value) (fa : Addr) (h : Heap), (K w.params).In h → h.Ns mainGlobals mg → mg d.name = some (.ref fa) →
      ∃ fd : FuncData, (∀ (s : Shared) (u : Value), BindsTo s fd ⟨[u], []⟩ [("_law_script", u)]) ∧ ∀ base : Heap, (K w.params).In base → base.Ns mainGlobals mg → FnOk l.prog w (K w.params) mg base CX0 8 fa fd ["_law_script"] (spLaw (K w.params))) :
    PySem.W.WalkO q loose XP YP l.row.toRowW d [] (fun f vs => PySem.call f vs) :=
  L2.walk_of (n := 63) (k := 8) (x := "_law_script") (CX := fun _ => CX0) (sp := fun w => spLaw (K w.params)) hn (by decide) hdf ⟨rfl, by decide, by decide, rfl⟩ hY F (fun _ _ a ns hl _ hS => ⟨a, ns, rfl, hS, hl, fun _ => rfl⟩) fun _ _ _ _ _ z => z
end C4

set_option maxHeartbeats 4000000
open PySem PySem.W PyProof.Rows
set_option maxRecDepth 100000 in
set_option maxHeartbeats 0 in
theorem PySem.Challenge.cw_classtab_k04_widened_narrowed_divided_holds : PySem.Challenge.rw_classtab_k04_widened_narrowed_divided.Holds := by
  w_on; o_law; k_head; (case hw => w_witness2)
  k_fill
  refine C4.walk (l := PySem.Challenge.rw_classtab_k04_widened_narrowed_divided) rfl rfl (fun w h Y => PySem.W.kIn_of Y) ?F
  case F =>
    intro w mg fa h KX G hmg
    refine' C4.all_mk KX G hmg (L2.DefIn.mk ?ia1 ?il1 ?ic1 ?ik1) (L2.DefIn.mk ?ia2 ?il2 ?ic2 ?ik2) (L2.DefIn.mk ?ia3 ?il3 ?ic3 ?ik3) (L2.DefIn.mk ?ia4 ?il4 ?ic4 ?ik4) (L2.DefIn.mk ?ia5 ?il5 ?ic5 ?ik5) (L2.DefIn.mk ?ia6 ?il6 ?ic6 ?ik6) (L2.DefIn.mk ?ia7 ?il7 ?ic7 ?ik7) (L2.DefIn.mk ?ia8 ?il8 ?ic8 ?ik8) (L2.DefIn.mk ?ia9 ?il9 ?ic9 ?ik9) (L2.DefIn.mk ?ia10 ?il10 ?ic10 ?ik10) (L2.DefIn.mk ?ia11 ?il11 ?ic11 ?ik11) (L2.DefIn.mk ?ia12 ?il12 ?ic12 ?ik12) (L2.DefIn.mk ?ia13 ?il13 ?ic13 ?ik13) (L2.DefIn.mk ?ia14 ?il14 ?ic14 ?ik14) (L2.DefIn.mk ?ia15 ?il15 ?ic15 ?ik15) (L2.DefIn.mk ?ia16 ?il16 ?ic16 ?ik16) (L2.DefIn.mk ?ia17 ?il17 ?ic17 ?ik17) (L2.DefIn.mk ?ia18 ?il18 ?ic18 ?ik18) (L2.DefIn.mk ?ia19 ?il19 ?ic19 ?ik19) (L2.DefIn.mk ?ia20 ?il20 ?ic20 ?ik20) (L2.DefIn.mk ?ia21 ?il21 ?ic21 ?ik21) (L2.DefIn.mk ?ia22 ?il22 ?ic22 ?ik22) (L2.DefIn.mk ?ia23 ?il23 ?ic23 ?ik23) (L2.DefIn.mk ?ia24 ?il24 ?ic24 ?ik24) (L2.DefIn.mk ?ia25 ?il25 ?ic25 ?ik25) (L2.DefIn.mk ?ia26 ?il26 ?ic26 ?ik26) (L2.DefIn.mk ?ia27 ?il27 ?ic27 ?ik27) (L2.DefIn.mk ?ia28 ?il28 ?ic28 ?ik28) (L2.DefIn.mk ?ia29 ?il29 ?ic29 ?ik29) ?iz1 ?iz2 ?iz3 ?iz4 ?iz5 ?iz6 ?iz7 ?iz8 ?iz9 ?iz10 ?iz11 ?iz12 ?iz13 ?iz14 ?iz15
    (case ia1 => k_is); (case il1 => k_is); (case ic1 => k_is); (case ik1 => k_is)
    (case ia2 => k_is); (case il2 => k_is); (case ic2 => k_is); (case ik2 => k_is)
    (case ia3 => k_is); (case il3 => k_is); (case ic3 => k_is); (case ik3 => k_is)
    (case ia4 => k_is); (case il4 => k_is); (case ic4 => k_is); (case ik4 => k_is)
    (case ia5 => k_is); (case il5 => k_is); (case ic5 => k_is); (case ik5 => k_is)
    (case ia6 => k_is); (case il6 => k_is); (case ic6 => k_is); (case ik6 => k_is)
    (case ia7 => k_is); (case il7 => k_is); (case ic7 => k_is); (case ik7 => k_is)
    (case ia8 => k_is); (case il8 => k_is); (case ic8 => k_is); (case ik8 => k_is)
    (case ia9 => k_is); (case il9 => k_is); (case ic9 => k_is); (case ik9 => k_is)
    (case ia10 => k_is); (case il10 => k_is); (case ic10 => k_is); (case ik10 => k_is)
    (case ia11 => k_is); (case il11 => k_is); (case ic11 => k_is); (case ik11 => k_is)
    (case ia12 => k_is); (case il12 => k_is); (case ic12 => k_is); (case ik12 => k_is)
    (case ia13 => k_is); (case il13 => k_is); (case ic13 => k_is); (case ik13 => k_is)
    (case ia14 => k_is); (case il14 => k_is); (case ic14 => k_is); (case ik14 => k_is)
    (case ia15 => k_is); (case il15 => k_is); (case ic15 => k_is); (case ik15 => k_is)
    (case ia16 => k_is); (case il16 => k_is); (case ic16 => k_is); (case ik16 => k_is)
    (case ia17 => k_is); (case il17 => k_is); (case ic17 => k_is); (case ik17 => k_is)
    (case ia18 => k_is); (case il18 => k_is); (case ic18 => k_is); (case ik18 => k_is)
    (case ia19 => k_is); (case il19 => k_is); (case ic19 => k_is); (case ik19 => k_is)
    (case ia20 => k_is); (case il20 => k_is); (case ic20 => k_is); (case ik20 => k_is)
    (case ia21 => k_is); (case il21 => k_is); (case ic21 => k_is); (case ik21 => k_is)
    (case ia22 => k_is); (case il22 => k_is); (case ic22 => k_is); (case ik22 => k_is)
    (case ia23 => k_is); (case il23 => k_is); (case ic23 => k_is); (case ik23 => k_is)
    (case ia24 => k_is); (case il24 => k_is); (case ic24 => k_is); (case ik24 => k_is)
    (case ia25 => k_is); (case il25 => k_is); (case ic25 => k_is); (case ik25 => k_is)
    (case ia26 => k_is); (case il26 => k_is); (case ic26 => k_is); (case ik26 => k_is)
    (case ia27 => k_is); (case il27 => k_is); (case ic27 => k_is); (case ik27 => k_is)
    (case ia28 => k_is); (case il28 => k_is); (case ic28 => k_is); (case ik28 => k_is)
    (case ia29 => k_is); (case il29 => k_is); (case ic29 => k_is); (case ik29 => k_is)
    (case iz1 => k_is); (case iz2 => k_is); (case iz3 => k_is); (case iz4 => k_is); (case iz5 => k_is); (case iz6 => k_is); (case iz7 => k_is); (case iz8 => k_is); (case iz9 => k_is); (case iz10 => k_is); (case iz11 => k_is); (case iz12 => k_is); (case iz13 => k_is); (case iz14 => k_is); (case iz15 => k_is)

