import PyProof.Rows.All
import Wide.All
import OpenK.AllK
import Wide.FinOn
import Lean
import PyProof.EqAt
import PyProof.EqKinds
import PyProof.TupleCall
import PyProof.DictWalks
import KE.KDictSum
import KE.KSortTup
import PyProof.EnumMake
import PyProof.EnumFor
import PyProof.TupleIter
import PyProof.Rows.Range3
import KE.KLam
import KE.KNestM
import PyProof.ZipIter
import PyProof.TupleKey
import PySem.Challenge.RW_classtab_k28_deeds_on_sides
set_option Elab.async false
set_option linter.all false
set_option maxRecDepth 100000
namespace L2
open PySem PySem.Spec PyProof.Rows
abbrev Key := Sum Int Str
def keyIs : Key → Value → Bool
 | .inl k, v => Value.isInt k v
 | .inr x, v => Value.isStrOf x v
def keyH (w : World) : Key → Int
 | .inl k => hashInt k
 | .inr x => hashStr w x
theorem keyIs_shape : ∀ {k : Key} {v : Value}, keyIs k v = true → (∃ i t, k = Sum.inl i ∧ v = Value.int i t) ∨ (∃ x t, k = Sum.inr x ∧ v = Value.str x t)
 | .inl i, v, h => by
  obtain ⟨t, e⟩ := Value.isInt_shape (k := i) (v := v) h
  exact .inl ⟨i, t, rfl, e⟩
 | .inr x, v, h => by
  obtain ⟨t, e⟩ := Value.isStrOf_shape (x := x) (v := v) h
  exact .inr ⟨x, t, rfl, e⟩
theorem keyIs_int (i : Int) (t : Tok) : keyIs (.inl i) (.int i t) = true := by simp [keyIs, Value.isInt]
theorem keyIs_str (x : Str) (t : Tok) : keyIs (.inr x) (.str x t) = true := by simp [keyIs, Value.isStrOf]
theorem key_ll (a b : Int) : decide ((Sum.inl a : Key) = Sum.inl b) = (a == b) := by
 by_cases e : a = b
 ·subst e; simp
 ·have h : ¬ (Sum.inl a : Key) = Sum.inl b := fun q => e (Sum.inl.inj q)
  rw [decide_eq_false h]
  exact (beq_eq_false_iff_ne.mpr e).symm
theorem key_rr (a b : Str) : decide ((Sum.inr a : Key) = Sum.inr b) = decide (a = b) := by
 by_cases e : a = b
 ·subst e; simp
 ·have h : ¬ (Sum.inr a : Key) = Sum.inr b := fun q => e (Sum.inr.inj q)
  rw [decide_eq_false h, decide_eq_false e]
theorem key_lr (a : Int) (b : Str) : decide ((Sum.inl a : Key) = Sum.inr b) = false := decide_eq_false (fun q => nomatch q)
theorem key_rl (a : Str) (b : Int) : decide ((Sum.inr a : Key) = Sum.inl b) = false := decide_eq_false (fun q => nomatch q)
def mixKind (prog : Program) (w : World) : PySem.KeyKind prog w Key where
 is := keyIs
 hash := keyH w
 inj := fun v a b ha hb => by
  rcases keyIs_shape ha with ⟨i, t, rfl, rfl⟩ | ⟨x, t, rfl, rfl⟩
  ·rcases keyIs_shape hb with ⟨j, u, rfl, e⟩ | ⟨y, u, rfl, e⟩
   ·injection e with e1 _; rw [e1]
   ·exact nomatch e
  ·rcases keyIs_shape hb with ⟨j, u, rfl, e⟩ | ⟨y, u, rfl, e⟩
   ·exact nomatch e
   ·injection e with e1 _; rw [e1]
 byValue := fun k v h => by
  rcases keyIs_shape h with ⟨i, t, rfl, rfl⟩ | ⟨x, t, rfl, rfl⟩ <;> rfl
 pyHash := fun hv h => by
  rcases keyIs_shape hv with ⟨i, t, rfl, rfl⟩ | ⟨x, t, rfl, rfl⟩
  ·exact wpAny_pyHash_int h
  ·exact wpAny_pyHash_str h
 eqBool := fun hu hv h => by
  rcases keyIs_shape hu with ⟨i, t, rfl, rfl⟩ | ⟨x, t, rfl, rfl⟩
  ·rcases keyIs_shape hv with ⟨j, u, rfl, rfl⟩ | ⟨y, u, rfl, rfl⟩
   ·rw [key_ll] at h; exact wpAny_eqBool_int h
   ·rw [key_lr] at h; exact SeqAt.EqAt.int_str i t y u _ _ _ _ h
  ·rcases keyIs_shape hv with ⟨j, u, rfl, rfl⟩ | ⟨y, u, rfl, rfl⟩
   ·rw [key_rl] at h; exact SeqAt.EqAt.str_int x t j u _ _ _ _ h
   ·rw [key_rr] at h; exact wpAny_eqBool_str h
 «strs» := fun k x t v h => by
  rcases keyIs_shape h with ⟨i, u, rfl, e⟩ | ⟨y, u, rfl, e⟩
  ·exact nomatch e
  ·injection e with e1 _
   subst e1
   cases v <;> rfl
theorem mixKind_int (prog : Program) (w : World) (i : Int) (t : Tok) : (mixKind prog w).is (.inl i) (.int i t) = true := keyIs_int i t
theorem mixKind_str (prog : Program) (w : World) (x : Str) (t : Tok) : (mixKind prog w).is (.inr x) (.str x t) = true := keyIs_str x t
inductive V where
 | non | bl (b : Bool) | int (i : Int) | str (x : Str) | byt (b : Array UInt8) | flt (b : UInt64) | ref (a : Addr) | ty (n : String)
 deriving DecidableEq
def RelV : V → Value → Prop
 | .non, u => u = Value.none
 | .bl b, u => u = Value.bool b
 | .int i, u => ∃ t, u = Value.int i t
 | .str x, u => ∃ t, u = Value.str x t
 | .byt b, u => ∃ t, u = Value.bytes b t
 | .flt b, u => ∃ t, u = Value.float b t
 | .ref a, u => u = Value.ref a
 | .ty n, u => u = Value.type n
abbrev Vals : List V → List Value → Prop := Paired RelV
theorem Vals.length {xs : List V} {us : List Value} (r : Vals xs us) : xs.length = us.length := Paired.length r
theorem Vals.get : ∀ {xs : List V} {us : List Value} {i : Nat} {x : V}, Vals xs us → xs[i]? = some x → ∃ u, us[i]? = some u ∧ RelV x u
 | _, _, _, _, .nil, e => by simp at e
 | _, _, 0, _, .cons r _, e => by simp at e; subst e; exact ⟨_, rfl, r⟩
 | _, _, i + 1, x, .cons _ t, e => by
  obtain ⟨u, h1, h2⟩ := Vals.get (i := i) (x := x) t (by simpa using e)
  exact ⟨u, by simpa using h1, h2⟩
theorem Vals.set {x : V} {u : Value} (r : RelV x u) : ∀ {xs : List V} {us : List Value} (i : Nat), Vals xs us → Vals (xs.set i x) (us.set i u)
 | _, _, _, .nil => .nil
 | _, _, 0, .cons _ t => .cons r t
 | _, _, i + 1, .cons q t => .cons q (Vals.set r i t)
theorem Vals.append : ∀ {xs ys : List V} {us ws : List Value}, Vals xs us → Vals ys ws → Vals (xs ++ ys) (us ++ ws)
 | _, _, _, _, .nil, s => s
 | _, _, _, _, .cons r t, s => .cons r (Vals.append t s)
theorem Vals.take : ∀ {xs : List V} {us : List Value} (n : Nat), Vals xs us → Vals (xs.take n) (us.take n)
 | _, _, 0, _ => .nil
 | _, _, _ + 1, .nil => .nil
 | _, _, n + 1, .cons r t => .cons r (Vals.take n t)
theorem Vals.drop : ∀ {xs : List V} {us : List Value} (n : Nat), Vals xs us → Vals (xs.drop n) (us.drop n)
 | _, _, 0, r => r
 | _, _, _ + 1, .nil => .nil
 | _, _, n + 1, .cons _ t => Vals.drop n t
def RelO : Option V → Option Value → Prop
 | some v, some u => RelV v u
 | none, none => True
 | _, _ => False
def KV {κ : Type} : List (κ × V) → List (κ × Value) → Prop := Paired fun (p : κ × V) (q : κ × Value) => p.1 = q.1 ∧ RelV p.2 q.2
def kV : Key → V
 | .inl i => .int i
 | .inr x => .str x
inductive HO where
 | lst (xs : List V)
 | tup (xs : List V)
 | dK (kvs : List (Key × V)) | dT (kvs : List (List Key × V))
 | set (S : Int → Bool) (n : Nat)
 | ins (C dx : Addr) (fs : List (Str × V))
 | own (x : Addr)
 | xd (fs : List (Str × V))
 | met (f x : Addr)
 | rng (lo hi : Int)
 | frz (o : Obj) (u : HO)
 | tbl (ps : Array Value)
 | ext (φ : Heap → Prop)
abbrev Hp := Addr → Option HO
def upd (H : Hp) (a : Addr) (o : HO) : Hp := fun b => if b = a then some o else H b
theorem upd_same {H : Hp} {a : Addr} {o : HO} : upd H a o a = some o := by unfold upd; rw [if_pos rfl]
theorem upd_ne {H : Hp} {a b : Addr} {o : HO} (h : b ≠ a) : upd H a o b = H b := by unfold upd; rw [if_neg h]
theorem ne_of {H : Hp} {a b : Addr} {o u : HO} (h : H a = some o) (h' : H b = some u) (d : o ≠ u) : a ≠ b := by
 intro e; subst e; rw [h] at h'; exact d (Option.some.inj h')
theorem ne_of_none {H : Hp} {a b : Addr} {o : HO} (h : H a = some o) (h' : H b = none) : a ≠ b := by
 intro e; subst e; rw [h] at h'; cases h'
section
variable (P : Program) (w : World)
def ObjOk (H : Hp) (h : Heap) (a : Addr) : HO → Prop
 | .lst xs => xs.length ≤ sizeLine ∧ ∃ (its : List Value) (n : Nat), Vals xs its ∧ h.get? a = some { cls := .type "list", data := .seq its.toArray n }
 | .tup xs => xs.length ≤ sizeLine ∧ ∃ its : List Value, Vals xs its ∧ IsTup h a its.toArray
 | .dK kvs => kvs.length ≤ sizeLine ∧ (a == sysModules) = false ∧ ∃ vs, KV kvs vs ∧ h.DictOf (mixKind P w) a vs
 | .dT kvs => kvs.length ≤ sizeLine ∧ (a == sysModules) = false ∧ ∃ xs : List (List Key × Addr × Value),
   Paired (fun (p : List Key × V) (q : List Key × Addr × Value) => p.1 = q.1 ∧ H q.2.1 = some (.tup (p.1.map kV)) ∧ RelV p.2 q.2.2) kvs xs ∧
   ∃ o es ep, h.get? a = some o ∧ o.ExactDict ∧ o.data = .dict es ep ∧ es.toList = xs.map (entryOfKey (tupleKind (mixKind P w))) ∧ (xs.map (·.1)).Nodup
 | .set S n => h.SetOf (intKind P w) a S n
 | .ins C dx fs => H dx = some (.own a) ∧ fs.length ≤ 1000 ∧ dx ≠ a ∧ h.get? a = some (PySem.W.instObj C dx) ∧
   ∃ mA, h.Ns1 dx mA ∧ (∀ f, RelO (fs.lookup f) (mA f)) ∧ PySem.Within mA (fs.map (·.1))
 | .own _ => ∃ o, h.get? a = some o
 | .xd fs => ∃ mA, h.Ns1 a mA ∧ ∀ f, RelO (fs.lookup f) (mA f)
 | .rng lo hi => ∃ t u v, h.get? a = some { cls := .type "range", data := .fields #[.int lo t, .int hi u, .int 1 v] }
 | .frz o u => h.get? a = some o ∧ ObjOk H h a u
 | .tbl ps => h.get? a = some { cls := .none, data := .fields ps }
 | .met f x => h.get? a = some (PySem.W.methodObj (.ref f) (.ref x))
 | .ext φ => φ h ∧ (∃ o, h.get? a = some o) ∧ ∀ h1 h2 : Heap, φ h1 → (∀ o, h1.get? a = some o → h2.get? a = some o) → φ h2
def HOk (H : Hp) (h : Heap) : Prop := ∀ a o, H a = some o → ObjOk P w H h a o
end
section
variable {P : Program} {w : World} {H H' : Hp} {h h' : Heap} {a : Addr} {o : HO}
theorem ObjOk.lt (x : ObjOk P w H h a o) : a < h.objs.size := by
 cases o with
 | lst xs => obtain ⟨_, _, _, _, e⟩ := x; exact Heap.lt_size e
 | tup xs => obtain ⟨_, _, _, p⟩ := x; exact p.lt
 | dK kvs => obtain ⟨_, _, _, _, o, _, _, e, _⟩ := x; exact Heap.lt_size e
 | dT kvs => obtain ⟨_, _, _, _, o, _, _, e, _⟩ := x; exact Heap.lt_size e
 | set S n => obtain ⟨o, _, _, _, e, _⟩ := x; exact Heap.lt_size e
 | ins C dx fs => obtain ⟨_, _, _, e, _⟩ := x; exact Heap.lt_size e
 | own y => obtain ⟨_, e⟩ := x; exact Heap.lt_size e
 | xd fs => obtain ⟨_, ⟨_, _, _, e, _⟩, _⟩ := x; exact Heap.lt_size e
 | rng lo hi => obtain ⟨_, _, _, e⟩ := x; exact Heap.lt_size e
 | frz ob u => obtain ⟨e, _⟩ := x; exact Heap.lt_size e
 | tbl ps => exact Heap.lt_size (show h.get? a = some _ from x)
 | met f y => exact Heap.lt_size (show h.get? a = some _ from x)
 | ext φ => obtain ⟨_, ⟨_, e⟩, _⟩ := x; exact Heap.lt_size e
theorem Paired.mapP {α β : Type} {F G : α → β → Prop} : ∀ {l₁ : List α} {l₂ : List β}, Paired F l₁ l₂ → (∀ a b, F a b → G a b) → Paired G l₁ l₂
 | _, _, .nil, _ => .nil
 | _, _, .cons r t, f => .cons (f _ _ r) (Paired.mapP t f)
theorem ObjOk.stay (x : ObjOk P w H h a o) (k : ∀ b u, (b = a ∨ H b = some (.own a)) → h.get? b = some u → h'.get? b = some u)
  (ho : ∀ b, H b = some (.own a) → H' b = some (.own a)) (ht : ∀ b xs, H b = some (.tup xs) → H' b = some (.tup xs)) : ObjOk P w H' h' a o := by
 induction o with
 | lst xs => obtain ⟨z, its, n, r, e⟩ := x; exact ⟨z, its, n, r, k _ _ (.inl rfl) e⟩
 | tup xs => obtain ⟨z, its, r, ob, e, c⟩ := x; exact ⟨z, its, r, ob, k _ _ (.inl rfl) e, c⟩
 | dK kvs => obtain ⟨z, y, vs, r, ob, es, ep, e, c⟩ := x; exact ⟨z, y, vs, r, ob, es, ep, k _ _ (.inl rfl) e, c⟩
 | dT kvs =>
  obtain ⟨z, y, xs, r, ob, es, ep, e, c⟩ := x
  exact ⟨z, y, xs, Paired.mapP r fun p q z => ⟨z.1, ht _ _ z.2.1, z.2.2⟩, ob, es, ep, k _ _ (.inl rfl) e, c⟩
 | set S n => obtain ⟨ob, es, ep, t, e, c⟩ := x; exact ⟨ob, es, ep, t, k _ _ (.inl rfl) e, c⟩
 | ins C dx fs =>
  obtain ⟨d, z, ne, e, mA, ⟨od, es, ep, e2, c⟩, r⟩ := x
  exact ⟨ho _ d, z, ne, k _ _ (.inl rfl) e, mA, ⟨od, es, ep, k _ _ (.inr d) e2, c⟩, r⟩
 | own y => obtain ⟨ob, e⟩ := x; exact ⟨ob, k _ _ (.inl rfl) e⟩
 | xd fs => obtain ⟨mA, ⟨od, es, ep, e, c⟩, r⟩ := x; exact ⟨mA, ⟨od, es, ep, k _ _ (.inl rfl) e, c⟩, r⟩
 | rng lo hi => obtain ⟨t, u, v, e⟩ := x; exact ⟨t, u, v, k _ _ (.inl rfl) e⟩
 | frz ob u ih => obtain ⟨e, q⟩ := x; exact ⟨k _ _ (.inl rfl) e, ih q⟩
 | tbl ps =>
  have e : h.get? a = some { cls := .none, data := .fields ps } := x
  show h'.get? a = some { cls := .none, data := .fields ps }
  exact k a _ (.inl rfl) e
 | met f y =>
  have e : h.get? a = some (PySem.W.methodObj (.ref f) (.ref y)) := x
  show h'.get? a = some (PySem.W.methodObj (.ref f) (.ref y))
  exact k a _ (.inl rfl) e
 | ext φ => obtain ⟨p, ⟨o, e⟩, st⟩ := x; exact ⟨st _ _ p fun o q => k _ _ (.inl rfl) q, ⟨o, k _ _ (.inl rfl) e⟩, st⟩
theorem HOk.lt (x : HOk P w H h) (e : H a = some o) : a < h.objs.size := (x a o e).lt
theorem HOk.fresh (x : HOk P w H h) (e : h.objs.size ≤ a) : H a = none := by
 cases q : H a with
 | none => rfl
 | some u => exact absurd (Nat.lt_of_lt_of_le (x.lt q) e) (Nat.lt_irrefl _)
theorem HOk.kept (x : HOk P w H h) (k : ∀ b u, h.get? b = some u → h'.get? b = some u) : HOk P w H h' := fun a o e =>
 (x a o e).stay (fun b u _ q => k b u q) (fun _ q => q) fun _ _ q => q
theorem HOk.laid (x : HOk P w H h) (k : ∀ b u, h.get? b = some u → h'.get? b = some u) (hp : h.objs.size ≤ a) (new : ObjOk P w (upd H a o) h' a o) : HOk P w (upd H a o) h' := fun b u e => by
 have hn := x.fresh hp
 by_cases hb : b = a
 ·subst hb; rw [upd_same] at e; cases e; exact new
 ·rw [upd_ne hb] at e
  exact (x b u e).stay (fun c v _ q => k c v q) (fun c q => by rw [upd_ne (ne_of_none q hn)]; exact q) fun c xs q => by rw [upd_ne (ne_of_none q hn)]; exact q
end
def Rd (H : Hp) (a : Addr) (u : HO) : Prop := H a = some u ∨ ∃ o, H a = some (.frz o u)
theorem Rd.ok {P : Program} {w : World} {H : Hp} {h : Heap} {a : Addr} {u : HO} (r : Rd H a u) (x : HOk P w H h) : ObjOk P w H h a u := by
 rcases r with r | ⟨o, r⟩
 ·exact x a u r
 ·obtain ⟨_, q⟩ := x a _ r
  exact q
def Mut : Option HO → Prop
 | some (.lst _) => True
 | some (.dK _) => True
 | some (.dT _) => True
 | some (.set _ _) => True
 | some (.ins _ _ _) => True
 | some (.ext _) => True
 | _ => False
section
variable {P : Program} {w : World} {H : Hp} {h h' : Heap} {x e : Addr} {o' : HO}
theorem HOk.write (ok : HOk P w H h) (mu : Mut (H x)) (he : e = x ∨ H e = some (.own x)) (k : ∀ b u, b ≠ e → h.get? b = some u → h'.get? b = some u) (heo : ∃ u, h'.get? e = some u)
  (new : ObjOk P w (upd H x o') h' x o') : HOk P w (upd H x o') h' := fun b u q => by
 have nown : ∀ c y, H c = some (.own y) → c ≠ x := fun c y r z => by subst z; rw [r] at mu; exact mu
 have ntup : ∀ c xs, H c = some (.tup xs) → c ≠ x := fun c xs r z => by subst z; rw [r] at mu; exact mu
 by_cases hb : b = x
 ·subst hb; rw [upd_same] at q; cases q; exact new
 ·rw [upd_ne hb] at q
  by_cases hbe : b = e
  ·have q' : H b = some (.own x) := by
    rcases he with z | z
    ·exact absurd (hbe.trans z) hb
    ·rw [hbe]; exact z
   rw [q] at q'; cases q'
   obtain ⟨v, hv⟩ := heo
   exact ⟨v, by rw [hbe]; exact hv⟩
  ·refine (ok b u q).stay (fun c v hc r => k c v ?_ r) (fun c r => by rw [upd_ne (nown c b r)]; exact r) fun c xs r => by rw [upd_ne (ntup c xs r)]; exact r
   rcases hc with rfl | hc
   ·exact hbe
   ·rintro rfl
    rcases he with z | z
    ·exact nown c b hc z
    ·rw [hc] at z; cases z; exact hb rfl
end
structure Un (fs ex : List Addr) (H H' : Hp) (h h' : Heap) : Prop where
 keep : ∀ b o, h.get? b = some o → H b = none → b ∉ fs → b ∉ ex → h'.get? b = some o
 slot : ∀ b o, h.get? b = some o → H b = none → b ∈ fs → b ∉ ex → ∃ sl, h'.get? b = some { o with slots := sl }
 free : ∀ b o, h.get? b = some o → H b = none → b ∉ ex → H' b = none
 there : ∀ b o, h.get? b = some o → b ∉ ex → ∃ o', h'.get? b = some o'
 tups : ∀ b xs, H b = some (.tup xs) → H' b = some (.tup xs)
 frzs : ∀ b o u, H b = some (.frz o u) → H' b = some (.frz o u)
 tbls : ∀ b ps, H b = some (.tbl ps) → ∃ more, H' b = some (.tbl (ps ++ more))
section
variable {fs fs' ex ex' : List Addr} {H H1 H2 : Hp} {h h1 h2 h' : Heap} {a x e : Addr} {o : HO}
theorem Un.any (u : Un fs ex H H1 h h1) {b : Addr} {ob : Obj} (q : h.get? b = some ob) (n : H b = none) (hx : b ∉ ex) : ∃ sl, h1.get? b = some { ob with slots := sl } := by
 by_cases hb : b ∈ fs
 ·exact u.slot b ob q n hb hx
 ·exact ⟨ob.slots, u.keep b ob q n hb hx⟩
theorem Un.kept (k : ∀ b u, h.get? b = some u → h'.get? b = some u) : Un fs ex H H h h' :=
 ⟨fun b ob q _ _ _ => k b ob q, fun b ob q _ _ _ => ⟨ob.slots, k b ob q⟩, fun _ _ _ n _ => n, fun b ob q _ => ⟨ob, k b ob q⟩, fun _ _ q => q, fun _ _ _ q => q, fun _ ps q => ⟨#[], by rw [q]; simp⟩⟩
theorem Un.refl : Un fs ex H H h h := Un.kept fun _ _ q => q
theorem Un.laid (k : ∀ b u, h.get? b = some u → h'.get? b = some u) (hp : h.objs.size ≤ a) (hn : H a = none) : Un fs ex H (upd H a o) h h' where
 keep := fun b u q _ _ _ => k b u q
 slot := fun b u q _ _ _ => ⟨u.slots, k b u q⟩
 free := fun b u q n _ => by rw [upd_ne (Nat.ne_of_lt (Nat.lt_of_lt_of_le (Heap.lt_size q) hp))]; exact n
 there := fun b u q _ => ⟨u, k b u q⟩
 tups := fun b xs q => by rw [upd_ne (ne_of_none q hn)]; exact q
 frzs := fun b u xs q => by rw [upd_ne (ne_of_none q hn)]; exact q
 tbls := fun b ps q => ⟨#[], by rw [upd_ne (ne_of_none q hn), q]; simp⟩
theorem Un.write (mu : Mut (H x)) (he : e = x ∨ H e = some (.own x)) (k : ∀ b u, b ≠ e → h.get? b = some u → h'.get? b = some u) (heo : ∃ u, h'.get? e = some u) : Un fs ex H (upd H x o) h h' := by
 have hx : ∀ b, H b = none → b ≠ x := fun b n z => by subst z; rw [n] at mu; exact mu
 have hb : ∀ b, H b = none → b ≠ e := fun b n z => by
  subst z
  rcases he with r | r
  ·exact hx b n r
  ·rw [n] at r; cases r
 have hm : ∀ b u, H b = some u → ¬ Mut (some u) → b ≠ x := fun b u q nm z => by subst z; rw [q] at mu; exact nm mu
 refine ⟨fun b u q n _ _ => k b u (hb b n) q, fun b u q n _ _ => ⟨u.slots, k b u (hb b n) q⟩, fun b u q n _ => by rw [upd_ne (hx b n)]; exact n, fun b u q _ => ?_,
  fun b xs q => by rw [upd_ne (hm b _ q fun z => z)]; exact q, fun b u xs q => by rw [upd_ne (hm b _ q fun z => z)]; exact q, fun b ps q => ⟨#[], by rw [upd_ne (hm b _ q fun z => z), q]; simp⟩⟩
 by_cases hbe : b = e
 ·subst hbe; exact heo
 ·exact ⟨u, k b u hbe q⟩
end
def trk (h : Heap) (H : Hp) : List Addr := (List.range h.objs.size).filter fun a => (H a).isSome
def hidT (h : Heap) (H : Hp) : Heap := PySem.W.hideAll h (trk h H)
theorem hidT_size (h : Heap) (H : Hp) : (hidT h H).objs.size = h.objs.size := PySem.W.hideAll_size _ _
theorem hidT_get {h : Heap} {H : Hp} {b : Addr} {o : Obj} (e : h.get? b = some o) (n : H b = none) : (hidT h H).get? b = some o :=
 PySem.W.hideAll_get _ e fun hm => by
  have q : (H b).isSome = true := (List.mem_filter.mp hm).2
  rw [n] at q; simp at q
theorem of_hidT {h : Heap} {H : Hp} {b : Addr} {o : Obj} (e : (hidT h H).get? b = some o) : h.get? b = some o ∧ H b = none := by
 have e' : h.get? b = some o := PySem.W.of_hideAll (trk h H) e
 refine ⟨e', ?_⟩
 cases q : H b with
 | none => rfl
 | some x =>
  have hm : b ∈ trk h H := List.mem_filter.mpr ⟨List.mem_range.mpr (Heap.lt_size e'), by simp [q]⟩
  have z : (hidT h H).get? b = none := PySem.W.hideAll_none (trk h H) hm
  rw [z] at e; cases e
structure Mod (K : PySem.W.Frag) (mg : Str → Option Value) (base : Heap) : Prop where
 kin : K.In base
 glob : base.Ns mainGlobals mg
 blt : ∃ mb, base.Ns builtinsNs mb ∧ ∀ x : Str, x ≠ "__name__" → mb x = bootBuiltins x
 nolimit : base.NoLimit
structure Cx where
 prog : Program
 w : World
 K : PySem.W.Frag
 mg : Str → Option Value
 base : Heap
 A : Around
 N : List Str
 s₀ : Shared
 H₀ : Hp
 env : Env
 outer : List Env
 stack : List Env
 ex : List Addr
 fn : Str → Bool
 calm : Bool
 pn : List (Addr × Obj)
 xe : Value → Shared → Prop
def frs (l : List Env) : List Addr := l.filterMap (·.frame)
abbrev Cx.fs (X : Cx) : List Addr := frs X.outer
def Vis (sc : Scope) (x : Str) : Prop := sc.names.lookup x = some .local ∨ sc.names.lookup x = some .cell ∨ sc.names.lookup x = some .free
def Loc (sc : Scope) (x : Str) : Prop := sc.names.lookup x = some .local ∨ sc.names.lookup x = some .cell
def Look (env : Env) (h : Heap) (m : Str → Option Value) (x : Str) (u : Value) : Prop :=
 (env.kindOf x = some .local ∧ m x = some u) ∨ ((env.kindOf x = some .cell ∨ env.kindOf x = some .free) ∧ ∃ c, env.cells.lookup x = some c ∧ h.IsCell c (some u))
structure Cx.Ok (X : Cx) : Prop where
 mod : Mod X.K X.mg X.base
 kind : X.env.scope.kind = .function
 glob : X.env.globals = mainGlobals
 blt : X.env.builtins = builtinsNs
 above : X.s₀.heap.objs.size ≤ X.env.locals
 inj : ∀ x y c, X.env.cells.lookup x = some c → X.env.cells.lookup y = some c → x = y
 has : ∀ x, (X.env.kindOf x = some .cell ∨ X.env.kindOf x = some .free) → ∃ c, X.env.cells.lookup x = some c
 cab : ∀ x c, X.fn x = true → X.env.cells.lookup x = some c → X.s₀.heap.objs.size ≤ c
 hd : X.calm = true → X.A.handled = none
 frames : X.A.frames = some X.stack
 stk : X.stack = X.outer ∨ (X.stack = X.env :: X.outer ∧ X.env.frame = some X.env.locals)
 exf : ∀ b ∈ X.ex, b ≠ X.env.locals ∧ ∀ x c, X.env.cells.lookup x = some c → c ≠ b
 bs : ∀ b o, X.base.get? b = some o → X.s₀.heap.get? b = some o ∧ X.H₀ b = none
 bsz : X.base.objs.size ≤ X.s₀.heap.objs.size
 noex : ∀ b o, X.base.get? b = some o → b ∉ X.ex
 exfs : ∀ b ∈ X.ex, b ∉ X.fs
 funs : X.s₀.heap.FunFrames X.base X.outer
 frf : ∀ b ∈ X.fs, X.H₀ b = none
structure Inv (X : Cx) (pins : List (Addr × Obj)) (σ : List (Option V)) (H : Hp) (s : Shared) : Prop where
 ok : X.Ok
 os : s.os = X.s₀.os
 bare : AllBare s.gens
 base : Un X.fs X.ex X.H₀ H X.s₀.heap s.heap
 loc : ∃ m, s.heap.Ns X.env.locals m ∧ ∀ (i : Nat) (x : Str) (v : V), X.N[i]? = some x → σ[i]? = some (some v) → Vis X.env.scope x → ∃ u, RelV v u ∧ Look X.env s.heap m x u
 cell : ∀ x c, X.env.cells.lookup x = some c → ∃ v, s.heap.IsCell c v
 free : H X.env.locals = none
 freeC : ∀ x c, X.env.cells.lookup x = some c → H c = none
 pin : ∀ p ∈ X.pn ++ pins, s.heap.get? p.1 = some p.2 ∧ H p.1 = none ∧ p.1 ≠ X.env.locals ∧ p.1 ∉ X.fs ∧ ∀ v, p.2.data ≠ .cell v
 hok : HOk X.prog X.w H s.heap
 len : σ.length = X.N.length
section
variable {X : Cx} {pins : List (Addr × Obj)} {σ : List (Option V)} {H H' : Hp} {s : Shared} {h' : Heap}
theorem Cx.Ok.nofr (ok : X.Ok) {b : Addr} {o : Obj} (e : X.base.get? b = some o) : b ∉ X.fs := fun hb => by
 have := (ok.funs.mem hb).1
 rw [e] at this; cases this
theorem Inv.bs (I : Inv X pins σ H s) : ∀ b o, X.base.get? b = some o → s.heap.get? b = some o ∧ H b = none := fun b o e =>
 ⟨I.base.keep b o (I.ok.bs b o e).1 (I.ok.bs b o e).2 (I.ok.nofr e) (I.ok.noex b o e), I.base.free b o (I.ok.bs b o e).1 (I.ok.bs b o e).2 (I.ok.noex b o e)⟩
theorem Inv.bk (I : Inv X pins σ H s) : ∀ b o, X.base.get? b = some o → s.heap.get? b = some o := fun b o e => (I.bs b o e).1
theorem Inv.mod (I : Inv X pins σ H s) : Mod X.K X.mg X.base := I.ok.mod
theorem Inv.kIn (I : Inv X pins σ H s) : X.K.In s.heap := I.ok.mod.kin.keeps I.bk
theorem Inv.lt (I : Inv X pins σ H s) : X.env.locals < s.heap.objs.size := let ⟨_, hn, _⟩ := I.loc; hn.lt
theorem Inv.sz (I : Inv X pins σ H s) : X.s₀.heap.objs.size ≤ s.heap.objs.size := Nat.le_trans I.ok.above (Nat.le_of_lt I.lt)
theorem Inv.nofs (I : Inv X pins σ H s) {a : Addr} (h : s.heap.objs.size ≤ a) : a ∉ X.fs := fun hb => by
 obtain ⟨_, o, ho, _⟩ := I.ok.funs.mem hb
 exact absurd (Nat.lt_of_lt_of_le (Heap.lt_size ho) (Nat.le_trans I.sz h)) (Nat.lt_irrefl _)
theorem Inv.cne (I : Inv X pins σ H s) : ∀ x c, X.env.cells.lookup x = some c → c ≠ X.env.locals := fun x c e z => by
 obtain ⟨v, o, ho, hd⟩ := I.cell x c e
 obtain ⟨m, ⟨o', es, ep, ho', hd', _⟩, _⟩ := I.loc
 rw [z, ho'] at ho; cases ho; rw [hd'] at hd; cases hd
theorem Inv.funs (I : Inv X pins σ H s) : s.heap.FunFrames X.base X.outer := by
 have all : ∀ (l : List Env), (∀ b ∈ frs l, b ∈ X.fs) → X.s₀.heap.FunFrames X.base l → s.heap.FunFrames X.base l := by
  intro l
  induction l with
  | nil => intro _ _; trivial
  | cons env r ih =>
   intro hs hl
   obtain ⟨hk, ⟨L, o, hf, hn, ho, hd⟩, hr⟩ := hl
   have hL : L ∈ X.fs := hs L (by unfold frs; rw [List.filterMap_cons, hf]; exact List.mem_cons_self)
   obtain ⟨sl, e⟩ := I.base.slot L o ho (I.ok.frf L hL) hL fun z => I.ok.exfs L z hL
   exact ⟨hk, ⟨L, _, hf, hn, e, hd⟩, ih (fun b hb => hs b (by unfold frs; rw [List.filterMap_cons, hf]; exact List.mem_cons_of_mem _ hb)) hr⟩
 exact all X.outer (fun _ hb => hb) I.ok.funs
theorem Inv.stack (I : Inv X pins σ H s) : s.heap.FunFrames X.base X.stack := by
 rcases I.ok.stk with e | ⟨e, hf⟩
 ·rw [e]; exact I.funs
 ·rw [e]
  obtain ⟨m, hn, _⟩ := I.loc
  refine .cons (by rw [I.ok.kind]; decide) hf hn ?_ I.funs
  exact Heap.get?_none_of_le (Nat.le_trans I.ok.bsz I.ok.above)
theorem Inv.stkSub (I : Inv X pins σ H s) : ∀ b ∈ frs X.stack, b ∈ X.env.locals :: X.fs := fun b hb => by
 rcases I.ok.stk with e | ⟨e, hf⟩
 ·rw [e] at hb; exact List.mem_cons_of_mem _ hb
 ·rw [e] at hb
  unfold frs at hb
  rw [List.filterMap_cons, hf] at hb
  exact hb
theorem Inv.stkFree (I : Inv X pins σ H s) : ∀ b ∈ frs X.stack, H b = none := fun b hb => by
 rcases List.mem_cons.mp (I.stkSub b hb) with e | hb
 ·rw [e]; exact I.free
 ·obtain ⟨_, o, ho, _⟩ := I.ok.funs.mem hb
  exact I.base.free b o ho (I.ok.frf b hb) fun z => I.ok.exfs b z hb
theorem Inv.step {g' : Array GenState} {t' : Nat} {d' : Drawn} {ch : List Addr} (I : Inv X pins σ H s)
  (hch : ∀ b ∈ ch, (b ∈ X.ex ∨ X.s₀.heap.objs.size ≤ b) ∧ b ≠ X.env.locals ∧ (∀ x c, X.env.cells.lookup x = some c → c ≠ b) ∧ ∀ p ∈ X.pn ++ pins, p.1 ≠ b)
  (keep : ∀ b o, b ≠ X.env.locals → b ∉ X.fs → b ∉ ch → s.heap.get? b = some o → H b = none → h'.get? b = some o)
  (slot : ∀ b o, b ≠ X.env.locals → b ∈ X.fs → b ∉ ch → s.heap.get? b = some o → H b = none → ∃ sl, h'.get? b = some { o with slots := sl }) (free : ∀ b o, b ∉ ch → s.heap.get? b = some o → H b = none → H' b = none)
  (there : ∀ b o, b ∉ ch → s.heap.get? b = some o → ∃ o', h'.get? b = some o')
  (tups : ∀ b xs, H b = some (.tup xs) → H' b = some (.tup xs)) (frzs : ∀ b o u, H b = some (.frz o u) → H' b = some (.frz o u)) (tbls : ∀ b ps, H b = some (.tbl ps) → ∃ more, H' b = some (.tbl (ps ++ more)))
  (ns : ∀ m, s.heap.Ns X.env.locals m → h'.Ns X.env.locals m) (hok : HOk X.prog X.w H' h') (hg : AllBare g') :
  Inv X pins σ H' { s with heap := h', gens := g', drawn := d', toks := t' } := by
 have neL : ∀ b o, X.s₀.heap.get? b = some o → b ≠ X.env.locals := fun b o e => Nat.ne_of_lt (Nat.lt_of_lt_of_le (Heap.lt_size e) I.ok.above)
 have neC : ∀ b o, X.s₀.heap.get? b = some o → b ∉ X.ex → b ∉ ch := fun b o e hx hb => by
  rcases (hch b hb).1 with z | z
  ·exact hx z
  ·exact absurd (Nat.lt_of_lt_of_le (Heap.lt_size e) z) (Nat.lt_irrefl _)
 have cellK : ∀ x c, X.env.cells.lookup x = some c → ∀ v, s.heap.IsCell c v → h'.IsCell c v := fun x c e v ⟨o, ho, hd⟩ => by
  have nch : c ∉ ch := fun z => (hch c z).2.2.1 x c e rfl
  by_cases hc : c ∈ X.fs
  ·obtain ⟨sl, q⟩ := slot c o (I.cne x c e) hc nch ho (I.freeC x c e)
   exact ⟨_, q, hd⟩
  ·exact ⟨o, keep c o (I.cne x c e) hc nch ho (I.freeC x c e), hd⟩
 refine ⟨I.ok, I.os, hg, ⟨fun b o e n hb hx => ?_, fun b o e n hb hx => ?_, fun b o e n hx => ?_, fun b o e hx => ?_, fun b xs e => tups b xs (I.base.tups b xs e), fun b o xs e => frzs b o xs (I.base.frzs b o xs e), fun b ps e => ?_⟩, ?_, fun x c e => ?_, ?_, fun x c e => ?_, fun p hp => ?_, hok, I.len⟩
 ·exact keep b o (neL b o e) hb (neC b o e hx) (I.base.keep b o e n hb hx) (I.base.free b o e n hx)
 ·obtain ⟨sl, e1⟩ := I.base.slot b o e n hb hx
  obtain ⟨sl', e2⟩ := slot b _ (neL b o e) hb (neC b o e hx) e1 (I.base.free b o e n hx)
  exact ⟨sl', e2⟩
 ·obtain ⟨o', e1⟩ := I.base.there b o e hx
  exact free b o' (neC b o e hx) e1 (I.base.free b o e n hx)
 ·obtain ⟨o', e1⟩ := I.base.there b o e hx
  exact there b o' (neC b o e hx) e1
 ·obtain ⟨m1, e1⟩ := I.base.tbls b ps e
  obtain ⟨m2, e2⟩ := tbls b _ e1
  exact ⟨m1 ++ m2, by rw [e2, Array.append_assoc]⟩
 ·obtain ⟨m, hn, hl⟩ := I.loc
  refine ⟨m, ns m hn, fun i x v e1 e2 e3 => ?_⟩
  obtain ⟨u, r, l⟩ := hl i x v e1 e2 e3
  refine ⟨u, r, ?_⟩
  rcases l with l | ⟨k, c, e, z⟩
  ·exact .inl l
  ·exact .inr ⟨k, c, e, cellK x c e _ z⟩
 ·obtain ⟨v, z⟩ := I.cell x c e
  exact ⟨v, cellK x c e v z⟩
 ·obtain ⟨m, ⟨o, _, _, ho, _⟩, _⟩ := I.loc
  exact free _ o (fun z => (hch _ z).2.1 rfl) ho I.free
 ·obtain ⟨v, o, ho, hd⟩ := I.cell x c e
  exact free c o (fun z => (hch c z).2.2.1 x c e rfl) ho (I.freeC x c e)
 ·obtain ⟨e, n, ne, nf, d⟩ := I.pin p hp
  have nch : p.1 ∉ ch := fun z => (hch p.1 z).2.2.2 p hp rfl
  exact ⟨keep p.1 p.2 ne nf nch e n, free p.1 p.2 nch e n, ne, nf, d⟩
theorem Inv.un {t' : Nat} (I : Inv X pins σ H s) (u : Un X.fs [] H H' s.heap h') (hok : HOk X.prog X.w H' h') : Inv X pins σ H' { s with heap := h', toks := t' } := by
 obtain ⟨m, ⟨o, es, ep, ho, r⟩, _⟩ := id I.loc
 obtain ⟨sl, hL⟩ := u.any ho I.free (by simp)
 exact I.step (g' := s.gens) (d' := s.drawn) (ch := []) (fun _ z => nomatch z) (fun b o _ hb _ e n => u.keep b o e n hb (by simp)) (fun b o _ hb _ e n => u.slot b o e n hb (by simp)) (fun b o _ e n => u.free b o e n (by simp)) (fun b o _ e => u.there b o e (by simp)) u.tups u.frzs u.tbls (fun m' hm => by
  obtain ⟨o', es', ep', ho', r'⟩ := hm
  rw [ho] at ho'; cases ho'
  exact ⟨_, es', ep', hL, r'⟩) hok I.bare
theorem Inv.call {g' : Array GenState} {t' : Nat} {d' : Drawn} {ch : List Addr} (I : Inv X pins σ H s) (u : Un (frs X.stack) ch H H' s.heap h') (hok : HOk X.prog X.w H' h') (hg : AllBare g')
  (hch : ∀ b ∈ ch, (b ∈ X.ex ∨ X.s₀.heap.objs.size ≤ b) ∧ b ≠ X.env.locals ∧ (∀ x c, X.env.cells.lookup x = some c → c ≠ b) ∧ ∀ p ∈ X.pn ++ pins, p.1 ≠ b) :
  Inv X pins σ H' { s with heap := h', gens := g', drawn := d', toks := t' } := by
 obtain ⟨m, ⟨o, es, ep, ho, r⟩, _⟩ := id I.loc
 obtain ⟨sl, hL⟩ := u.any ho I.free fun z => (hch _ z).2.1 rfl
 exact I.step (ch := ch) hch (fun b o hL hb hc e n => u.keep b o e n (fun z => (List.mem_cons.mp (I.stkSub b z)).elim hL hb) hc) (fun b o _ _ hc e n => u.any e n hc) (fun b o hc e n => u.free b o e n hc) (fun b o hc e => u.there b o e hc) u.tups u.frzs u.tbls (fun m' hm => by
  obtain ⟨o', es', ep', ho', r'⟩ := hm
  rw [ho] at ho'; cases ho'
  exact ⟨_, es', ep', hL, r'⟩) hok hg
theorem Inv.turned {t' : Nat} {it : Addr} (I : Inv X pins σ H s) (k : ∀ b o, b ≠ it → s.heap.get? b = some o → h'.get? b = some o) (hn : H it = none) (hL : it ≠ X.env.locals)
  (h1 : it ∈ X.ex ∨ X.s₀.heap.objs.size ≤ it) (h2 : ∀ x c, X.env.cells.lookup x = some c → c ≠ it) (h3 : ∀ p ∈ X.pn ++ pins, p.1 ≠ it) : Inv X pins σ H { s with heap := h', toks := t' } := by
 have nit : ∀ b u, H b = some u → b ≠ it := fun b u e z => by rw [z, hn] at e; cases e
 refine I.step (g' := s.gens) (d' := s.drawn) (ch := [it]) (fun b hb => ?_) (fun b o _ _ hc e _ => k b o (fun z => hc (by simp [z])) e) (fun b o _ _ hc e _ => ⟨o.slots, k b o (fun z => hc (by simp [z])) e⟩) (fun _ _ _ _ n => n)
  (fun b o hc e => ⟨o, k b o (fun z => hc (by simp [z])) e⟩) (fun _ _ e => e) (fun _ _ _ e => e) (fun b ps e => ⟨#[], by rw [e]; simp⟩) (fun m hm => ?_) (fun b u e => ?_) I.bare
 ·have e : b = it := by simpa using hb
  subst e
  exact ⟨h1, hL, h2, h3⟩
 ·obtain ⟨o, es, ep, ho, r⟩ := hm
  exact ⟨o, es, ep, k _ o (Ne.symm hL) ho, r⟩
 ·refine (I.hok b u e).stay (fun c v hc q => k c v ?_ q) (fun _ q => q) fun _ _ q => q
  rcases hc with z | z
  ·rw [z]; exact nit b u e
  ·exact nit c _ z
theorem Inv.tok (I : Inv X pins σ H s) (t : Nat) : Inv X pins σ H { s with toks := t } := I.un (h' := s.heap) (t' := t) Un.refl I.hok
theorem Inv.kept {t' : Nat} (I : Inv X pins σ H s) (k : ∀ b u, s.heap.get? b = some u → h'.get? b = some u) : Inv X pins σ H { s with heap := h', toks := t' } := I.un (Un.kept k) (I.hok.kept k)
theorem Inv.laid {a : Addr} {o : HO} {t' : Nat} (I : Inv X pins σ H s) (k : ∀ b u, s.heap.get? b = some u → h'.get? b = some u) (hp : s.heap.objs.size ≤ a) (new : ObjOk X.prog X.w (upd H a o) h' a o) :
  Inv X pins σ (upd H a o) { s with heap := h', toks := t' } := I.un (Un.laid k hp (I.hok.fresh hp)) (I.hok.laid k hp new)
theorem Inv.write {x e : Addr} {o : HO} {t' : Nat} (I : Inv X pins σ H s) (mu : Mut (H x)) (he : e = x ∨ H e = some (.own x)) (k : ∀ b u, b ≠ e → s.heap.get? b = some u → h'.get? b = some u) (heo : ∃ u, h'.get? e = some u)
  (new : ObjOk X.prog X.w (upd H x o) h' x o) : Inv X pins σ (upd H x o) { s with heap := h', toks := t' } := I.un (Un.write mu he k heo) (I.hok.write mu he k heo new)
theorem Inv.pins_of {pins' : List (Addr × Obj)} (I : Inv X pins σ H s) (h : ∀ p ∈ pins', s.heap.get? p.1 = some p.2 ∧ H p.1 = none ∧ p.1 ≠ X.env.locals ∧ p.1 ∉ X.fs ∧ ∀ v, p.2.data ≠ .cell v) : Inv X pins' σ H s :=
 ⟨I.ok, I.os, I.bare, I.base, I.loc, I.cell, I.free, I.freeC, fun p hp => (List.mem_append.mp hp).elim (fun z => I.pin p (List.mem_append_left _ z)) (h p), I.hok, I.len⟩
theorem nodup_ix {N : List Str} (hN : N.Nodup) {i j : Nat} {x : Str} (a : N[i]? = some x) (b : N[j]? = some x) : i = j := by
 obtain ⟨h1, e1⟩ := List.getElem?_eq_some_iff.mp a
 obtain ⟨h2, e2⟩ := List.getElem?_eq_some_iff.mp b
 exact (List.getElem_inj hN).mp (e1.trans e2.symm)
theorem store_ok2 {M : Model} {A : Around} {E : Value → Shared → Prop} {i : Nat} {x : Str} {v : V} {u : Value} {Q : Unit → Shared → Prop} (I : Inv X pins σ H s) (hN : X.N.Nodup) (hi : X.N[i]? = some x) (hx : Loc X.env.scope x) (r : RelV v u)
  (h : ∀ s', Inv X pins (σ.set i (some v)) H s' → (∃ a, Heap.SameBut a s.heap s'.heap ∧ (a = X.env.locals ∨ X.env.cells.lookup x = some a)) → Q () s') (hf : X.fn x = true ∨ X.env.scope.names.lookup x = some .local := by first | exact .inl rfl | exact .inr rfl | assumption) : wpAny M A (storeName X.env x u) Q E s := by
 obtain ⟨m, hn, hl⟩ := id I.loc
 have hcls : (X.env.scope.kind == .class || (X.env.scope.kind == .module && X.env.locals != X.env.globals)) = false := by rw [I.ok.kind]; rfl
 have hiσ : i < σ.length := by rw [I.len]; exact (List.getElem?_eq_some_iff.mp hi).1
 have cne := I.cne
 have tracked : ∀ {a : Addr} {h' : Heap}, (∃ o, s.heap.get? a = some o ∧ H a = none) → Heap.SameBut a s.heap h' → HOk X.prog X.w H h' := fun {a h'} ha hs b ob e => by
  obtain ⟨_, _, hfree⟩ := ha
  refine (I.hok b ob e).stay (fun c w' hc q => (hs.2 c ?_).trans q) (fun _ q => q) fun _ _ q => q
  rintro rfl
  rcases hc with rfl | hc
  ·rw [hfree] at e; cases e
  ·rw [hfree] at hc; cases hc
 rcases hx with hk | hk
 ·refine wpAny_storeName_local hk hn (fun h' hn' hs => ?_) hcls
  obtain ⟨oL, _, _, hoL, _⟩ := id hn
  refine h _ ⟨I.ok, I.os, I.bare, ⟨fun b o e n hb hx => ?_, fun b o e n hb hx => ?_, I.base.free, fun b o e hx => ?_, I.base.tups, I.base.frzs, I.base.tbls⟩, ⟨_, hn', fun j y v' e1 e2 e3 => ?_⟩, fun y c e => ?_, I.free, I.freeC, fun p hp => ?_, tracked ⟨oL, hoL, I.free⟩ hs, by simpa using I.len⟩ ⟨_, hs, .inl rfl⟩
  ·exact (hs.2 b (Nat.ne_of_lt (Nat.lt_of_lt_of_le (Heap.lt_size e) I.ok.above))).trans (I.base.keep b o e n hb hx)
  ·obtain ⟨sl, e1⟩ := I.base.slot b o e n hb hx
   exact ⟨sl, (hs.2 b (Nat.ne_of_lt (Nat.lt_of_lt_of_le (Heap.lt_size e) I.ok.above))).trans e1⟩
  ·obtain ⟨o', e1⟩ := I.base.there b o e hx
   exact ⟨o', (hs.2 b (Nat.ne_of_lt (Nat.lt_of_lt_of_le (Heap.lt_size e) I.ok.above))).trans e1⟩
  ·by_cases hj : j = i
   ·subst hj
    rw [hi] at e1; cases e1
    rw [List.getElem?_set_self hiσ] at e2
    cases e2
    exact ⟨u, r, .inl ⟨hk, by simp⟩⟩
   ·rw [List.getElem?_set_ne (Ne.symm hj)] at e2
    obtain ⟨u', r', q⟩ := hl j y v' e1 e2 e3
    refine ⟨u', r', ?_⟩
    rcases q with ⟨k, e⟩ | ⟨k, c, e, z⟩
    ·refine .inl ⟨k, ?_⟩
     have : y ≠ x := fun e => hj (nodup_ix hN e1 (e ▸ hi))
     simp [this, e]
    ·exact .inr ⟨k, c, e, z.sameBut hs (cne y c e)⟩
  ·obtain ⟨w', z⟩ := I.cell y c e
   exact ⟨w', z.sameBut hs (cne y c e)⟩
  ·obtain ⟨e, n, ne, nf, d⟩ := I.pin p hp
   exact ⟨(hs.2 p.1 ne).trans e, n, ne, nf, d⟩
 ·have hfn : X.fn x = true := by
   rcases hf with z | z
   ·exact z
   ·rw [z] at hk; cases hk
  obtain ⟨c, hc⟩ := I.ok.has x (.inl hk)
  obtain ⟨w', z⟩ := I.cell x c hc
  refine wpAny_storeName_cell I.ok.kind hk hc z (fun h' hc' hs => ?_)
  obtain ⟨oc, hoc, hocd⟩ := id z
  refine h { s with heap := h' } ⟨I.ok, I.os, I.bare, ⟨fun b o e n hb hx => ?_, fun b o e n hb hx => ?_, I.base.free, fun b o e hx => ?_, I.base.tups, I.base.frzs, I.base.tbls⟩, ⟨m, hn.sameBut hs (Ne.symm (cne x c hc)), fun j y v' e1 e2 e3 => ?_⟩, fun y c' e => ?_, I.free, I.freeC, fun p hp => ?_, tracked ⟨oc, hoc, I.freeC x c hc⟩ hs, by simpa using I.len⟩ ⟨c, hs, .inr hc⟩
  ·exact (hs.2 b (Nat.ne_of_lt (Nat.lt_of_lt_of_le (Heap.lt_size e) (I.ok.cab x c hfn hc)))).trans (I.base.keep b o e n hb hx)
  ·obtain ⟨sl, e1⟩ := I.base.slot b o e n hb hx
   exact ⟨sl, (hs.2 b (Nat.ne_of_lt (Nat.lt_of_lt_of_le (Heap.lt_size e) (I.ok.cab x c hfn hc)))).trans e1⟩
  ·obtain ⟨o', e1⟩ := I.base.there b o e hx
   exact ⟨o', (hs.2 b (Nat.ne_of_lt (Nat.lt_of_lt_of_le (Heap.lt_size e) (I.ok.cab x c hfn hc)))).trans e1⟩
  ·by_cases hj : j = i
   ·subst hj
    rw [hi] at e1; cases e1
    rw [List.getElem?_set_self hiσ] at e2
    cases e2
    exact ⟨u, r, .inr ⟨.inl hk, c, hc, hc'⟩⟩
   ·rw [List.getElem?_set_ne (Ne.symm hj)] at e2
    obtain ⟨u', r', q⟩ := hl j y v' e1 e2 e3
    refine ⟨u', r', ?_⟩
    rcases q with q | ⟨k, c', e, z'⟩
    ·exact .inl q
    ·refine .inr ⟨k, c', e, z'.sameBut hs ?_⟩
     rintro rfl
     exact hj (nodup_ix hN e1 (I.ok.inj _ _ _ e hc ▸ hi))
  ·by_cases hcc : c' = c
   ·subst hcc; exact ⟨_, hc'⟩
   ·obtain ⟨w2, z2⟩ := I.cell y c' e
    exact ⟨w2, z2.sameBut hs hcc⟩
  ·obtain ⟨e, n, ne, nf, d⟩ := I.pin p hp
   refine ⟨(hs.2 p.1 ?_).trans e, n, ne, nf, d⟩
   intro q
   rw [q, hoc] at e
   have q' : oc = p.2 := Option.some.inj e
   exact d w' (by rw [← q']; exact hocd)
theorem store_ok {M : Model} {A : Around} {E : Value → Shared → Prop} {i : Nat} {x : Str} {v : V} {u : Value} {Q : Unit → Shared → Prop} (I : Inv X pins σ H s) (hN : X.N.Nodup) (hi : X.N[i]? = some x) (hx : Loc X.env.scope x) (r : RelV v u)
  (h : ∀ s', Inv X pins (σ.set i (some v)) H s' → Q () s') (hf : X.fn x = true ∨ X.env.scope.names.lookup x = some .local := by first | exact .inl rfl | exact .inr rfl | assumption) : wpAny M A (storeName X.env x u) Q E s :=
 store_ok2 I hN hi hx r (fun s' I' _ => h s' I') hf
theorem Inv.call' {s' : Shared} {ch : List Addr} (I : Inv X pins σ H s) (ho : s'.os = s.os) (u : Un (frs X.stack) ch H H' s.heap s'.heap) (hok : HOk X.prog X.w H' s'.heap) (hg : AllBare s'.gens)
  (hch : ∀ b ∈ ch, (b ∈ X.ex ∨ X.s₀.heap.objs.size ≤ b) ∧ b ≠ X.env.locals ∧ (∀ x c, X.env.cells.lookup x = some c → c ≠ b) ∧ ∀ p ∈ X.pn ++ pins, p.1 ≠ b) : Inv X pins σ H' s' := by
 obtain ⟨h', g', d', t', o'⟩ := s'
 have e : o' = s.os := ho
 subst e
 exact I.call (g' := g') (t' := t') (d' := d') u hok hg hch
end
abbrev XK := Value → Option Addr → Hp → Prop
abbrev St := List (Option V)
abbrev VK := V → Hp → Prop
abbrev TE := St → Hp → VK → Prop
abbrev TT := St → Hp → (Bool → Hp → Prop) → Prop
abbrev TA := St → Hp → (List V → Hp → Prop) → Prop
structure Ends where
 nx : St → Hp → Prop
 rt : VK
 bk : St → Hp → Prop := fun _ _ => False
 ct : St → Hp → Prop := fun _ _ => False
abbrev TS := Ends → St → Hp → Prop
def EP (X : Cx) (pins : List (Addr × Obj)) (σ : St) (Q : VK) (u : Value) (s' : Shared) : Prop := ∃ v H', Inv X pins σ H' s' ∧ RelV v u ∧ Q v H'
def TP (X : Cx) (pins : List (Addr × Obj)) (σ : St) (Q : Bool → Hp → Prop) (b : Bool) (s' : Shared) : Prop := ∃ H', Inv X pins σ H' s' ∧ Q b H'
def AP (X : Cx) (pins : List (Addr × Obj)) (σ : St) (Q : List V → Hp → Prop) (us : List Value) (s' : Shared) : Prop := ∃ vs H', Inv X pins σ H' s' ∧ Vals vs us ∧ Q vs H'
def SP (X : Cx) (pins : List (Addr × Obj)) (D : Ends) (f : Flow) (s' : Shared) : Prop :=
 match f with
 | .next => ∃ σ' H', Inv X pins σ' H' s' ∧ D.nx σ' H'
 | .brk => ∃ σ' H', Inv X pins σ' H' s' ∧ D.bk σ' H'
 | .cont => ∃ σ' H', Inv X pins σ' H' s' ∧ D.ct σ' H'
 | .ret u => ∃ v σ' H', Inv X pins σ' H' s' ∧ RelV v u ∧ D.rt v H'
def PE (X : Cx) (e : Expr) (t : TE) : Prop :=
 ∀ (pins : List (Addr × Obj)) (s : Shared) (σ : St) (H : Hp) (Q : VK), Inv X pins σ H s → t σ H Q → wpAny (model X.prog X.w) X.A (eval e X.env) (EP X pins σ Q) X.xe s
def PT (X : Cx) (e : Expr) (t : TT) : Prop :=
 ∀ (pins : List (Addr × Obj)) (s : Shared) (σ : St) (H : Hp) (Q : Bool → Hp → Prop), Inv X pins σ H s → t σ H Q → wpAny (model X.prog X.w) X.A (isTrue e X.env (eval e X.env)) (TP X pins σ Q) X.xe s
def PW (X : Cx) (e : Expr) (t : TT) : Prop :=
 ∀ (whole : Sem Value) (pins : List (Addr × Obj)) (s : Shared) (σ : St) (H : Hp) (Q : Bool → Hp → Prop), Inv X pins σ H s → t σ H Q → wpAny (model X.prog X.w) X.A (isTrue e X.env whole) (TP X pins σ Q) X.xe s
theorem PW.pt {X : Cx} {e : Expr} {t : TT} (h : PW X e t) : PT X e t := h _
def PA (X : Cx) (es : List Expr) (t : TA) : Prop :=
 ∀ (pos : Pos) (pins : List (Addr × Obj)) (s : Shared) (σ : St) (H : Hp) (Q : List V → Hp → Prop), Inv X pins σ H s → t σ H Q → wpAny (model X.prog X.w) X.A (spliced (backTo pos (starEach es X.env))) (AP X pins σ Q) X.xe s
def PS (X : Cx) (st : Stmt) (t : TS) : Prop :=
 ∀ (pins : List (Addr × Obj)) (s : Shared) (σ : St) (H : Hp) (D : Ends), Inv X pins σ H s → t D σ H → wpAny (model X.prog X.w) X.A (exec st X.env) (SP X pins D) X.xe s
def PSs (X : Cx) (st : List Stmt) (t : TS) : Prop :=
 ∀ (pins : List (Addr × Obj)) (s : Shared) (σ : St) (H : Hp) (D : Ends), Inv X pins σ H s → t D σ H → wpAny (model X.prog X.w) X.A (execs st X.env) (SP X pins D) X.xe s
theorem thn {α : Type} {t : Sem α} {Q Q' : α → Shared → Prop} {M : Model} {A : Around} {E : Value → Shared → Prop} {s : Shared} (h : wpAny M A t Q E s) (hQ : ∀ a s, Q a s → Q' a s) : wpAny M A t Q' E s := wpAny_mono h hQ fun _ _ x => x
section
variable {X : Cx}
def tVar (i : Nat) : TE := fun σ H Q => ∃ v, σ[i]? = some (some v) ∧ Q v H
def tC (v : V) : TE := fun _ H Q => Q v H
theorem pe_var {i : Nat} {x : Str} {pos : Pos} (hN : X.N[i]? = some x) (hv : Vis X.env.scope x) (hd : (x == ("__debug__" : Str)) = false := by decide) (hcd : (x == ("__classdict__" : Str)) = false := by decide) : PE X (.Name x pos) (tVar i) := by
 intro pins s σ H Q I h
 obtain ⟨v, e, h⟩ := h
 obtain ⟨m, hn, hl⟩ := I.loc
 obtain ⟨u, r, l⟩ := hl i x v hN e hv
 have fin : EP X pins σ Q u s := ⟨v, H, I, r, h⟩
 rcases l with ⟨hk, hm⟩ | ⟨hk, c, hc, hcell⟩
 ·exact wpAny_Name (wpAny_loadName_local I.ok.kind hk hn hm fin) hd
 ·rcases hk with hk | hk
  ·exact wpAny_Name (wpAny_loadName_cell I.ok.kind hk hc hcell fin) hd
  ·exact wpAny_Name (wpAny_loadName_free I.ok.kind hk hc hcell fin hcd) hd
theorem pe_int {i j pos} : PE X (.Constant (.int i) j pos) (tC (.int i)) := fun _ _ _ H _ I h => wpAny_Constant_int ⟨.int i, H, I.tok _, ⟨_, rfl⟩, h⟩
theorem pe_bl {b j pos} : PE X (.Constant (.bool b) j pos) (tC (.bl b)) := fun _ _ _ H _ I h => Constant_bool ⟨.bl b, H, I, rfl, h⟩
theorem pe_str {x j pos} : PE X (.Constant (.str x) j pos) (tC (.str x)) := fun _ _ _ H _ I h => Calls.Constant_str ⟨.str x, H, I.tok _, ⟨_, rfl⟩, h⟩
def Gl (X : Cx) (x : Str) : Prop := X.env.kindOf x = some .globalImplicit
theorem ld_glob {E : Value → Shared → Prop} {pins : List (Addr × Obj)} {s : Shared} {σ : St} {H : Hp} {x : Str} {u : Value} {pos : Pos} {Q : Value → Shared → Prop} (I : Inv X pins σ H s) (hg : Gl X x) (hm : X.mg x = some u) (h : Q u s)
  (hd : (x == ("__debug__" : Str)) = false := by decide) : wpAny (model X.prog X.w) X.A (eval (.Name x pos) X.env) Q E s :=
 Calls.Name_function_global I.ok.kind hg (Calls.loadGlobal_global (by rw [I.ok.glob]; exact I.mod.glob.keeps I.bk) hm h) hd
theorem ld_blt {E : Value → Shared → Prop} {pins : List (Addr × Obj)} {s : Shared} {σ : St} {H : Hp} {x : Str} {u : Value} {pos : Pos} {Q : Value → Shared → Prop} (I : Inv X pins σ H s) (hg : Gl X x) (hm : X.mg x = none) (hv : bootBuiltins x = some u) (h : Q u s)
  (hn : x ≠ "__name__" := by decide) (hd : (x == ("__debug__" : Str)) = false := by decide) : wpAny (model X.prog X.w) X.A (eval (.Name x pos) X.env) Q E s := by
 obtain ⟨mb, h1, h2⟩ := I.mod.blt
 exact Calls.Name_function_global I.ok.kind hg (Calls.loadGlobal_builtin (by rw [I.ok.glob]; exact I.mod.glob.keeps I.bk) hm (by rw [I.ok.blt]; exact h1.keeps I.bk) ((h2 x hn).trans hv) h) hd
theorem pe_glob {x : Str} {v : V} {u : Value} {pos : Pos} (hg : Gl X x) (hm : X.mg x = some u) (r : RelV v u) (hd : (x == ("__debug__" : Str)) = false := by decide) : PE X (.Name x pos) (tC v) :=
 fun _ _ _ H _ I h => ld_glob I hg hm ⟨v, H, I, r, h⟩ hd
theorem pe_bltn {x : Str} {v : V} {u : Value} {pos : Pos} (hg : Gl X x) (hm : X.mg x = none) (hv : bootBuiltins x = some u) (r : RelV v u) (hn : x ≠ "__name__" := by decide) (hd : (x == ("__debug__" : Str)) = false := by decide) : PE X (.Name x pos) (tC v) :=
 fun _ _ _ H _ I h => ld_blt I hg hm hv ⟨v, H, I, r, h⟩ hn hd
variable {a b : Expr} {ta tb : TE} {pos : Pos}
def PC (X : Cx) (op : CmpOp) (a b : Expr) (t : TE) : Prop :=
 ∀ (pins : List (Addr × Obj)) (s : Shared) (σ : St) (H : Hp) (Q : VK), Inv X pins σ H s → t σ H Q →
  wpAny (model X.prog X.w) X.A (eval a X.env) (fun v s₁ => wpAny (model X.prog X.w) X.A (eval b X.env) (fun u s₂ => wpAny (model X.prog X.w) X.A (compareOp op v u) (EP X pins σ Q) X.xe s₂) X.xe s₁) X.xe s
def tB (t : TE) : TT := fun σ H Q => t σ H fun x H1 => ∃ c, x = .bl c ∧ Q c H1
theorem pt_cmp {op : CmpOp} {t : TE} (h : PC X op a b t) (h1 : behindInMarks op b = false := by first | exact nobehind _ (by decide) (by decide) | rfl) : PT X (.Compare a [op] [b] pos) (tB t) := by
 intro pins s σ H Q I hw
 refine wpAny_isTrue_Compare1 (thn (h pins s σ H _ I hw) fun v s1 h1 => thn h1 fun u s2 h2 => thn h2 fun c s3 ⟨x, H1, I1, r1, q1⟩ => ?_) h1
 obtain ⟨d, rfl, q⟩ := q1
 cases r1
 exact wpAny_truthy_bool ⟨H1, I1, q⟩
theorem pt_val {e : Expr} {t : TE} (h : PE X e t) (he : ∀ whole, isTrue e X.env whole = (do let v ← whole; standAt e.pos; holding [v] (truthy v)) := by intro _; rfl) : PT X e (tB t) := by
 intro pins s σ H Q I hw
 refine isTrue_plain (thn (h pins s σ H _ I hw) fun v s1 ⟨x, H1, I1, r1, q1⟩ => ?_) (he _)
 obtain ⟨d, rfl, q⟩ := q1
 cases r1
 exact wpAny_truthy_bool ⟨H1, I1, q⟩
variable {tA tB' : TT} {rest : List Expr}
def tOr (t u : TT) : TT := fun σ H Q => t σ H fun c H1 => if c = true then Q true H1 else u σ H1 Q
def tNot (t : TT) : TT := fun σ H Q => t σ H fun c H1 => Q (!c) H1
theorem pw_or1 (ha : PT X a tA) : PW X (.BoolOp .Or [a] pos) tA := by
 intro wh pins s σ H Q I h
 refine isTrue_or (thn (ha pins s σ H Q I h) fun c s1 e => ?_)
 cases c with
 | false => exact isTrue_or_nil e
 | true => exact e
theorem pw_or (ha : PT X a tA) (hb : PW X (.BoolOp .Or (b :: rest) pos) tB') : PW X (.BoolOp .Or (a :: b :: rest) pos) (tOr tA tB') := by
 intro wh pins s σ H Q I h
 refine isTrue_or (thn (ha pins s σ H _ I h) fun c s1 ⟨H1, I1, q1⟩ => ?_)
 cases c with
 | true => exact ⟨H1, I1, q1⟩
 | false => exact hb wh pins s1 σ H1 Q I1 q1
theorem pt_not (ha : PT X a tA) : PT X (.UnaryOp .Not a pos) (tNot tA) := by
 intro pins s σ H Q I h
 exact isTrue_not (ha pins s σ H (fun c H1 => Q (!c) H1) I h)
def tAndV (ta tb : TE) : TE := fun σ H Q => ta σ H fun x H1 => ∃ c, x = .bl c ∧ if c = true then tb σ H1 Q else Q (.bl false) H1
def tNotV (ta : TE) : TE := fun σ H Q => ta σ H fun x H1 => ∃ c, x = .bl c ∧ Q (.bl (!c)) H1
theorem pe_one {op} {t : TE} (h : PE X a t) : PE X (.BoolOp op [a] pos) t := fun pins s σ H Q I hw => BoolOp_one (h pins s σ H Q I hw)
theorem pe_and (ha : PE X a ta) (hb : PE X (.BoolOp .And (b :: rest) pos) tb) : PE X (.BoolOp .And (a :: b :: rest) pos) (tAndV ta tb) := by
 intro pins s σ H Q I h
 refine BoolOp_and (thn (ha pins s σ H _ I h) fun v s1 ⟨x, H1, I1, r1, q1⟩ => ?_)
 obtain ⟨c, rfl, q1⟩ := q1
 cases r1
 refine wpAny_truthy_bool ?_
 cases c with
 | true => exact hb pins s1 σ H1 Q I1 q1
 | false => exact ⟨.bl false, H1, I1, rfl, q1⟩
theorem pe_not (ha : PE X a ta) : PE X (.UnaryOp .Not a pos) (tNotV ta) := by
 intro pins s σ H Q I h
 refine UnaryOp_ (thn (ha pins s σ H _ I h) fun v s1 ⟨x, H1, I1, r1, q1⟩ => ?_)
 obtain ⟨c, rfl, q1⟩ := q1
 cases r1
 exact not_of (wpAny_truthy_bool ⟨.bl (!c), H1, I1, rfl, q1⟩)
end
def SqL (K : PySem.W.Frag) (H : Hp) (a : Addr) (xs : List V) : Prop :=
 Rd H a (.lst xs) ∨
  ∃ (o : Obj) (its : Array Value) (n : Nat), K.lookup a = some o ∧ o.cls = .type "list" ∧ o.dict = none ∧ o.data = .seq its n ∧ its.size ≤ sizeLine ∧ Vals xs its.toList
def SqT (K : PySem.W.Frag) (H : Hp) (a : Addr) (xs : List V) : Prop :=
 Rd H a (.tup xs) ∨
  ∃ (o : Obj) (its : Array Value) (n : Nat), K.lookup a = some o ∧ o.cls = .type "tuple" ∧ o.data = .seq its n ∧ its.size ≤ sizeLine ∧ Vals xs its.toList
def absV : Value → Option V
 | .none => some .non
 | .bool b => some (.bl b)
 | .int i _ => some (.int i)
 | .str x _ => some (.str x)
 | .bytes b _ => some (.byt b)
 | .float b _ => some (.flt b)
 | .ref a => some (.ref a)
 | .type n => some (.ty n)
 | _ => none
theorem RelV.abs {x : V} {u : Value} (r : RelV x u) : absV u = some x := by
 cases x with
 | non => cases r; rfl
 | bl _ => cases r; rfl
 | int _ => obtain ⟨t, rfl⟩ := r; rfl
 | str _ => obtain ⟨t, rfl⟩ := r; rfl
 | byt _ => obtain ⟨t, rfl⟩ := r; rfl
 | flt _ => obtain ⟨t, rfl⟩ := r; rfl
 | ref _ => cases r; rfl
 | ty _ => cases r; rfl
theorem RelV.inj {x y : V} {u : Value} (r : RelV x u) (q : RelV y u) : x = y := Option.some.inj (r.abs.symm.trans q.abs)
theorem Vals.inj : ∀ {xs ys : List V} {us : List Value}, Vals xs us → Vals ys us → xs = ys
 | _, _, _, .nil, .nil => rfl
 | _, _, _, .cons r t, .cons r' t' => by rw [r.inj r', Vals.inj t t']
section
variable {X : Cx} {pins : List (Addr × Obj)} {σ : St} {H : Hp} {s : Shared} {a : Addr} {xs ys : List V}
theorem SqL.of {K : PySem.W.Frag} (h : H a = some (.lst xs)) : SqL K H a xs := .inl (.inl h)
theorem SqT.of {K : PySem.W.Frag} (h : H a = some (.tup xs)) : SqT K H a xs := .inl (.inl h)
theorem Inv.list (I : Inv X pins σ H s) (h : SqL X.K H a xs) : ∃ its : List Value, Vals xs its ∧ PlainL s.heap a its.toArray ∧ xs.length ≤ sizeLine := by
 rcases h with h | ⟨o, its, n, hk, hc, hd, hs, hz, r⟩
 ·obtain ⟨z, its, n, r, e⟩ := h.ok I.hok
  exact ⟨its, r, ⟨_, n, e, rfl, rfl, rfl⟩, z⟩
 ·refine ⟨its.toList, r, ⟨o, n, I.kIn a o hk, hc, hd, by simpa using hs⟩, ?_⟩
  have e := r.length
  simp only [Array.length_toList] at e
  omega
theorem Inv.tuple (I : Inv X pins σ H s) (h : SqT X.K H a xs) : ∃ its : List Value, Vals xs its ∧ IsTup s.heap a its.toArray ∧ xs.length ≤ sizeLine := by
 rcases h with h | ⟨o, its, n, hk, hc, hs, hz, r⟩
 ·obtain ⟨z, its, r, p⟩ := h.ok I.hok
  exact ⟨its, r, p, z⟩
 ·refine ⟨its.toList, r, ⟨o, I.kIn a o hk, hc, n, by simpa using hs⟩, ?_⟩
  have e := r.length
  simp only [Array.length_toList] at e
  omega
theorem Inv.list_inj (I : Inv X pins σ H s) (h : SqL X.K H a xs) (h' : SqL X.K H a ys) : xs = ys := by
 obtain ⟨its, r, ⟨o, n, e, _, _, d⟩, _⟩ := I.list h
 obtain ⟨its', r', ⟨o', n', e', _, _, d'⟩, _⟩ := I.list h'
 rw [e] at e'; cases e'
 rw [d] at d'
 injection d' with d1 _
 have : its = its' := by simpa using congrArg Array.toList d1
 subst this
 exact r.inj r'
theorem Inv.tuple_inj (I : Inv X pins σ H s) (h : SqT X.K H a xs) (h' : SqT X.K H a ys) : xs = ys := by
 obtain ⟨its, r, ⟨o, e, _, n, d⟩, _⟩ := I.tuple h
 obtain ⟨its', r', ⟨o', e', _, n', d'⟩, _⟩ := I.tuple h'
 rw [e] at e'; cases e'
 rw [d] at d'
 injection d' with d1 _
 have : its = its' := by simpa using congrArg Array.toList d1
 subst this
 exact r.inj r'
end
abbrev Cx.wish (X : Cx) (E : Value → Shared → Prop) : Cx := { X with xe := E }
abbrev Cx.nox (X : Cx) : Cx := X.wish fun _ _ => False
theorem Cx.Ok.wish {X : Cx} (ok : X.Ok) (E : Value → Shared → Prop) : (X.wish E).Ok :=
 ⟨ok.mod, ok.kind, ok.glob, ok.blt, ok.above, ok.inj, ok.has, ok.cab, ok.hd, ok.frames, ok.stk, ok.exf, ok.bs, ok.bsz, ok.noex, ok.exfs, ok.funs, ok.frf⟩
theorem Cx.Ok.unwish {X : Cx} {E : Value → Shared → Prop} (ok : (X.wish E).Ok) : X.Ok :=
 ⟨ok.mod, ok.kind, ok.glob, ok.blt, ok.above, ok.inj, ok.has, ok.cab, ok.hd, ok.frames, ok.stk, ok.exf, ok.bs, ok.bsz, ok.noex, ok.exfs, ok.funs, ok.frf⟩
section
variable {X : Cx} {pins : List (Addr × Obj)} {σ : St} {H : Hp} {s : Shared} {E : Value → Shared → Prop}
theorem Inv.wish (I : Inv X pins σ H s) (E : Value → Shared → Prop) : Inv (X.wish E) pins σ H s := ⟨I.ok.wish E, I.os, I.bare, I.base, I.loc, I.cell, I.free, I.freeC, I.pin, I.hok, I.len⟩
theorem Inv.unwish (I : Inv (X.wish E) pins σ H s) : Inv X pins σ H s := ⟨I.ok.unwish, I.os, I.bare, I.base, I.loc, I.cell, I.free, I.freeC, I.pin, I.hok, I.len⟩
theorem SP.unwish {D : Ends} {f : Flow} {s' : Shared} (h : SP (X.wish E) pins D f s') : SP X pins D f s' := by
 cases f with
 | next => obtain ⟨σ', H', I, q⟩ := h; exact ⟨σ', H', I.unwish, q⟩
 | brk => obtain ⟨σ', H', I, q⟩ := h; exact ⟨σ', H', I.unwish, q⟩
 | cont => obtain ⟨σ', H', I, q⟩ := h; exact ⟨σ', H', I.unwish, q⟩
 | ret u => obtain ⟨v, σ', H', I, r, q⟩ := h; exact ⟨v, σ', H', I.unwish, r, q⟩
theorem PSs.nox {st : List Stmt} {t : TS} (h : PSs X.nox st t) : PSs X st t := fun pins s σ H D I hw =>
 wpAny_mono (h pins s σ H D (I.wish _) hw) (fun _ _ q => q.unwish) fun _ _ z => False.elim z
end
section
variable {X : Cx} {st : Stmt} {rest : List Stmt} {t u : TS} {e : Expr} {te : TE} {pos : Pos}
def tNext : TS := fun D σ H => D.nx σ H
def tSeq (t u : TS) : TS := fun D σ H => t { D with nx := u D } σ H
theorem pss_nil : PSs X [] tNext := fun _ _ σ H _ I h => wpAny_execs_nil ⟨σ, H, I, h⟩
theorem pss_cons (h1 : PS X st t) (h2 : PSs X rest u) : PSs X (st :: rest) (tSeq t u) := by
 intro pins s σ H D I h
 refine wpAny_execs_cons (thn (h1 pins s σ H { D with nx := u D } I h) fun f s1 q => ?_)
 cases f with
 | next =>
  obtain ⟨σ', H', I', q⟩ := q
  exact h2 pins s1 σ' H' D I' q
 | ret v => exact q
 | brk => exact q
 | cont => exact q
theorem pss_one (h1 : PS X st t) : PSs X [st] t := by
 intro pins s σ H D I h
 refine wpAny_execs_cons (thn (h1 pins s σ H D I h) fun f s1 q => ?_)
 cases f with
 | next => exact wpAny_execs_nil q
 | ret v => exact q
 | brk => exact q
 | cont => exact q
theorem Inv.quiet {pins : List (Addr × Obj)} {σ : St} {H : Hp} {s : Shared} (I : Inv X pins σ H s) : interactive X.env = false := by simp [interactive, I.ok.kind]
def tDrop (te : TE) : TS := fun D σ H => te σ H fun _ H1 => D.nx σ H1
theorem ps_expr (he : PE X e te) (hs : swapsWith e none pos.line X.env = pure false := by rfl) : PS X (.Expr e pos) (tDrop te) := by
 intro pins s σ H D I h
 exact wpAny_Expr_any (thn (he pins s σ H _ I h) fun v s1 ⟨x, H1, I1, r1, q1⟩ => ⟨σ, H1, I1, q1⟩) I.quiet hs
def tRet (te : TE) : TS := fun D σ H => te σ H D.rt
theorem ps_ret (he : PE X e te) : PS X (.Return (some e) pos) (tRet te) := by
 intro pins s σ H D I h
 exact wpAny_Return_some (thn (he pins s σ H _ I h) fun v s1 ⟨x, H1, I1, r1, q1⟩ => ⟨x, σ, H1, I1, r1, q1⟩)
def tIfS (c : TT) (t u : TS) : TS := fun D σ H => c σ H fun b H1 => if b = true then t D σ H1 else u D σ H1
theorem ps_if {c : Expr} {a b : List Stmt} {tc : TT} (hc : PT X c tc) (ha : PSs X a t) (hb : PSs X b u) : PS X (.If c a b pos) (tIfS tc t u) := by
 intro pins s σ H D I h
 refine wpAny_If (thn (hc pins s σ H _ I h) fun d s1 ⟨H1, I1, q1⟩ => ?_)
 cases d with
 | true => exact ha pins s1 σ H1 D I1 q1
 | false => exact hb pins s1 σ H1 D I1 q1
def tNever : TS := fun _ _ _ => False
theorem pss_never {sts : List Stmt} : PSs X sts tNever := fun _ _ _ _ _ _ h => h.elim
end
abbrev TG := V → St → Hp → (St → Hp → Prop) → Prop
abbrev TGs := List V → St → Hp → (St → Hp → Prop) → Prop
def PG (X : Cx) (target : Expr) (t : TG) : Prop :=
 ∀ (pins : List (Addr × Obj)) (s : Shared) (σ : St) (H : Hp) (v : V) (u : Value) (Q : St → Hp → Prop), Inv X pins σ H s → RelV v u → t v σ H Q →
  wpAny (model X.prog X.w) X.A (assign target X.env u) (fun _ s' => ∃ σ' H', Inv X pins σ' H' s' ∧ Q σ' H') X.xe s
def PGs (X : Cx) (ts : List Expr) (t : TGs) : Prop :=
 ∀ (pins : List (Addr × Obj)) (s : Shared) (σ : St) (H : Hp) (vs : List V) (us : List Value) (Q : St → Hp → Prop), Inv X pins σ H s → Vals vs us → t vs σ H Q →
  wpAny (model X.prog X.w) X.A (assignInOrder ((assignEach ts X.env).map (·.2)) us) (fun _ s' => ∃ σ' H', Inv X pins σ' H' s' ∧ Q σ' H') X.xe s
abbrev TSet := V → V → V → Hp → (Hp → Prop) → Prop
def PSet (X : Cx) (t : TSet) : Prop :=
 ∀ (pins : List (Addr × Obj)) (s : Shared) (σ : St) (H : Hp) (o i v : V) (ov iv u : Value) (Q : Hp → Prop), Inv X pins σ H s → RelV o ov → RelV i iv → RelV v u → t o i v H Q →
  wpAny (model X.prog X.w) X.A (setItem ov iv u) (fun _ s' => ∃ H', Inv X pins σ H' s' ∧ Q H') X.xe s
section
variable {X : Cx} {pos : Pos}
def gName (i : Nat) : TG := fun v σ H Q => Q (σ.set i (some v)) H
theorem pg_name {i : Nat} {x : Str} (hN : X.N.Nodup) (hi : X.N[i]? = some x) (hx : Loc X.env.scope x) (hf : X.fn x = true ∨ X.env.scope.names.lookup x = some .local := by first | exact .inl rfl | exact .inr rfl | assumption) : PG X (.Name x pos) (gName i) := by
 intro pins s σ H v u Q I r h
 exact wpAny_assign_Name (store_ok I hN hi hx r (fun s' I' => ⟨_, H, I', h⟩) hf)
def gNil : TGs := fun vs σ H Q => vs = [] ∧ Q σ H
def gCons (t : TG) (u : TGs) : TGs := fun vs σ H Q => ∃ v r, vs = v :: r ∧ t v σ H fun σ' H' => u r σ' H' Q
theorem pgs_nil : PGs X [] gNil := by
 intro pins s σ H vs us Q I r h
 obtain ⟨e, h⟩ := h
 subst e
 cases r
 exact assignInOrder_nil ⟨σ, H, I, h⟩
theorem pgs_cons {e : Expr} {es : List Expr} {t : TG} {u : TGs} (h1 : PG X e t) (h2 : PGs X es u)
  (hs : (assignEach (e :: es) X.env).map (·.2) = assign e X.env :: (assignEach es X.env).map (·.2) := by rfl) : PGs X (e :: es) (gCons t u) := by
 intro pins s σ H vs us Q I r h
 obtain ⟨v, vr, e1, h⟩ := h
 subst e1
 cases r with
 | cons r rr =>
  rw [hs]
  refine assignInOrder_cons (thn (h1 pins s σ H _ _ _ I r h) fun _ s1 ⟨σ1, H1, I1, q1⟩ => ?_)
  exact h2 pins s1 σ1 H1 _ _ Q I1 rr q1
def gTup (K : PySem.W.Frag) (n : Nat) (t : TGs) : TG := fun v σ H Q => ∃ a xs, v = .ref a ∧ SqT K H a xs ∧ xs.length = n ∧ t xs σ H Q
theorem pg_tup {es : List Expr} {k : Nat} {t : TGs} {n : Nat} (hc : X.calm = true) (h : PGs X es t)
  (hn : (assignEach es X.env).length = n := by rfl) (hst : (assignEach es X.env).findIdx? (·.1) = none := by rfl) : PG X (.Tuple es k pos) (gTup X.K n t) := by
 intro pins s σ H v u Q I r hw
 obtain ⟨a, xs, e1, hq, hl, hw⟩ := hw
 subst e1
 cases r
 obtain ⟨its, rv, ht, hz⟩ := I.tuple hq
 refine assign_Tuple_tuple (I.ok.hd hc) ht (by simp [hn, ← hl, rv.length]) hst fun h' hx => ?_
 have I1 : Inv X pins σ H { s with heap := h' } := I.kept (t' := s.toks) fun b o e => hx b o (Nat.ne_of_lt (Heap.lt_size e)) e
 exact h pins _ σ H xs _ Q I1 (by simpa using rv) hw
def gSub (to ti : TE) (t : TSet) : TG := fun v σ H Q => to σ H fun o H1 => ti σ H1 fun i H2 => t o i v H2 fun H3 => Q σ H3
theorem pg_sub {o i : Expr} {to ti : TE} {t : TSet} (ho : PE X o to) (hi : PE X i ti) (hs : PSet X t)
  (ha : ∀ v, assign (.Subscript o i pos) X.env v = (do
   let ov ← holding [v] (eval o X.env)
   let iv ← holding [v, ov] (eval i X.env)
   standAt pos
   holding [v, ov, iv] (setItem ov iv v)
   release [v, ov, iv] []) := by intro _; rfl) : PG X (.Subscript o i pos) (gSub to ti t) := by
 intro pins s σ H v u Q I r h
 rw [ha]
 refine wpAny_bind (wpAny_holding (thn (ho pins s σ H _ I h) fun ov s1 ⟨x, H1, I1, r1, q1⟩ => ?_))
 refine wpAny_bind (wpAny_holding (thn (hi pins s1 σ H1 _ I1 q1) fun iv s2 ⟨y, H2, I2, r2, q2⟩ => ?_))
 refine wpAny_bind (wpAny_standAt (wpAny_bind (wpAny_holding (thn (hs pins s2 σ H2 x y v ov iv u _ I2 r1 r2 r q2) fun _ s3 ⟨H3, I3, q3⟩ => ?_))))
 exact wpAny_release ⟨σ, H3, I3, q3⟩
def tAsg (te : TE) (g : TG) : TS := fun D σ H => te σ H fun x H1 => g x σ H1 D.nx
theorem ps_asg {tg e : Expr} {te : TE} {g : TG} (he : PE X e te) (hg : PG X tg g) (hs : swapsWithSole [tg] e pos.line X.env = pure false := by rfl) (hw : swappedStores [tg] e X.env = pure none := by rfl)
  (h1 : (assignEach [tg] X.env).map (·.2) = [assign tg X.env] := by rfl) : PS X (.Assign [tg] e pos) (tAsg te g) := by
 intro pins s σ H D I h
 refine wpAny_Assign_stores (thn (he pins s σ H _ I h) fun v s1 ⟨x, H1, I1, r1, q1⟩ => ?_) hs hw
 rw [h1]
 exact thn (hg pins s1 σ H1 x v _ I1 r1 q1) fun _ s2 q => q
theorem ps_set {i : Nat} {x : Str} {e : Expr} {te : TE} {pos' : Pos} (hN : X.N.Nodup) (hi : X.N[i]? = some x) (hx : Loc X.env.scope x) (he : PE X e te) (hs : swapsWith e (some (.Name x pos')) pos.line X.env = pure false := by rfl) (hf : X.fn x = true ∨ X.env.scope.names.lookup x = some .local := by first | exact .inl rfl | exact .inr rfl | assumption) :
  PS X (.Assign [.Name x pos'] e pos) (tAsg te (gName i)) := by
 intro pins s σ H D I h
 refine wpAny_Assign_Name (thn (he pins s σ H _ I h) fun v s1 ⟨y, H1, I1, r1, q1⟩ => ?_) hs
 exact store_ok I1 hN hi hx r1 (fun s2 I2 => ⟨_, H1, I2, q1⟩) hf
end
section
variable {X : Cx} {pos : Pos}
def tWhile (c : TT) (tb : TS) : TS := fun D σ H => ∃ W : Nat → St → Hp → Prop, (∃ m, W m σ H) ∧ ∀ m σ H, W m σ H →
 c σ H fun b H1 => if b = true then ∃ N : St → Hp → Prop, (∀ σ' H', N σ' H' → ∃ m', m' < m ∧ W m' σ' H') ∧ tb { D with nx := N, ct := N, bk := D.nx } σ H1 else D.nx σ H1
theorem ps_while {c : Expr} {body : List Stmt} {tc : TT} {tb : TS} (hp : PassesOwn (model X.prog X.w) X.A X.env X.xe) (hc : PT X c tc) (hb : PSs X body tb) : PS X (.While c body [] pos) (tWhile tc tb) := by
 intro pins s σ H D I h
 obtain ⟨W, ⟨m0, w0⟩, turn⟩ := h
 refine wpAny_While (codeAny_whileLoop (fun n s' => ∃ σ' H', Inv X pins σ' H' s' ∧ W n σ' H') ?_ m0 ⟨σ, H, I, w0⟩)
 rintro n s1 ⟨σ1, H1, I1, w1⟩
 refine wpAny_passesOwn hp (thn (hc pins s1 σ1 H1 _ I1 (turn n σ1 H1 w1)) fun b s2 ⟨H2, I2, q2⟩ => ?_)
 cases b with
 | true =>
  obtain ⟨N, hN, q2⟩ := q2
  rw [if_pos rfl]
  refine wpAny_passesOwn hp (thn (hb pins s2 σ1 H2 _ I2 q2) fun f s3 q3 => ?_)
  cases f with
  | next =>
   obtain ⟨σ3, H3, I3, n3⟩ := q3
   obtain ⟨m', hm, w3⟩ := hN σ3 H3 n3
   exact ⟨m', hm, σ3, H3, I3, w3⟩
  | cont =>
   obtain ⟨σ3, H3, I3, n3⟩ := q3
   obtain ⟨m', hm, w3⟩ := hN σ3 H3 n3
   exact ⟨m', hm, σ3, H3, I3, w3⟩
  | brk => exact q3
  | ret v => exact q3
 | false =>
  rw [if_neg Bool.false_ne_true]
  exact wpAny_execs_nil ⟨σ1, H2, I2, q2⟩
end
structure It where
 go : Nat → Hp → Prop
 yld : Nat → Hp → V → Hp → Prop
 stop : Nat → Hp → Prop
def FpOk (X : Cx) (pins : List (Addr × Obj)) (H : Hp) (b : Addr) : Prop :=
 H b = none ∧ b ≠ X.env.locals ∧ b ∉ X.fs ∧ (b ∈ X.ex ∨ X.s₀.heap.objs.size ≤ b) ∧ (∀ x c, X.env.cells.lookup x = some c → c ≠ b) ∧ ∀ p ∈ X.pn ++ pins, p.1 ≠ b
theorem Inv.fpOk {X : Cx} {pins : List (Addr × Obj)} {σ : St} {H H' : Hp} {s : Shared} {b : Addr} (I : Inv X pins σ H s) (hb : s.heap.objs.size ≤ b) (hn : H' b = none) : FpOk X pins H' b := by
 refine ⟨hn, Nat.ne_of_gt (Nat.lt_of_lt_of_le I.lt hb), I.nofs hb, .inr (Nat.le_trans I.sz hb), fun x c e z => ?_, fun p hp z => ?_⟩
 ·obtain ⟨v, q⟩ := I.cell x c e
  exact absurd (Nat.lt_of_lt_of_le q.lt (by rw [z]; exact hb)) (Nat.lt_irrefl _)
 ·exact absurd (Nat.lt_of_lt_of_le (Heap.lt_size (I.pin p hp).1) (by rw [z]; exact hb)) (Nat.lt_irrefl _)
structure Turn (P : Program) (w : World) (K : PySem.W.Frag) (tg : Expr) (J : It) (fp : List Addr) (it : Addr) (tn : Nat → Heap → Prop) : Prop where
 mem : it ∈ fp
 obj : ∀ i h, tn i h → ∀ b ∈ fp, ∃ o, h.get? b = some o ∧ ∀ v, o.data ≠ .cell v
 keep : ∀ i h h', tn i h → (∀ b ∈ fp, ∀ o, h.get? b = some o → h'.get? b = some o) → tn i h'
 item : ∀ (X : Cx), X.prog = P → X.w = w → X.K = K → X.calm = true → ∀ (i : Nat) (pins : List (Addr × Obj)) (s : Shared) (σ : St) (H : Hp) (E : Value → Shared → Prop), Inv X pins σ H s → (∀ b ∈ fp, FpOk X pins H b) → tn i s.heap → J.go i H →
  wpAny (model P w) X.A (pyNext (.ref it)) (fun r s1 => ∃ u, r = some u ∧
   wpAny (model P w) X.A (letOwnedTupleGo tg (.ref it) u) (fun _ s2 => ∃ x H', Inv X pins σ H' s2 ∧ RelV x u ∧ J.yld i H x H' ∧ tn (i + 1) s2.heap ∧ ∀ b ∈ fp, H' b = none) E s1) E s
 done : ∀ (X : Cx), X.prog = P → X.w = w → X.K = K → X.calm = true → ∀ (i : Nat) (pins : List (Addr × Obj)) (s : Shared) (σ : St) (H : Hp) (E : Value → Shared → Prop), Inv X pins σ H s → (∀ b ∈ fp, FpOk X pins H b) → tn i s.heap → J.stop i H →
  wpAny (model P w) X.A (pyNext (.ref it)) (fun r s1 => r = none ∧ Inv X pins σ H s1) E s
 self : ∀ (A : Around) (i : Nat) (s : Shared) (Q : Value → Shared → Prop) (E : Value → Shared → Prop), tn i s.heap → Q (.ref it) s → wpAny (model P w) A (pyIter (.ref it)) Q E s
abbrev TI := St → Hp → (It → Hp → Prop) → Prop
def PIE (X : Cx) (pins : List (Addr × Obj)) (σ : St) (tg : Expr) (R : It → Hp → Prop) (itv : Value) (s2 : Shared) : Prop :=
 ∃ (it : Addr) (fp : List Addr) (tn : Nat → Heap → Prop) (J : It) (H' : Hp), itv = .ref it ∧ Inv X pins σ H' s2 ∧ Turn X.prog X.w X.K tg J fp it tn ∧ tn 0 s2.heap ∧ (∀ b ∈ fp, FpOk X pins H' b) ∧ R J H'
def PI (X : Cx) (tg iter : Expr) (wi : TI) : Prop :=
 ∀ (pins : List (Addr × Obj)) (s : Shared) (σ : St) (H : Hp) (R : It → Hp → Prop), Inv X pins σ H s → wi σ H R →
  wpAny (model X.prog X.w) X.A (eval iter X.env) (fun v s1 => wpAny (model X.prog X.w) X.A (pyIter v) (PIE X pins σ tg R) X.xe s1) X.xe s
theorem go_of {M : Model} {A : Around} {E : Value → Shared → Prop} {s : Shared} {tg : Expr} {it : Addr} {u : Value} {o : Obj} {n : String} {vs : Array Value} {Q : Unit → Shared → Prop} (ho : s.heap.get? it = some o) (hc : o.cls = .type n) (hd : o.data = .fields vs)
    (hn : ["enumerate", "zip", "dict_itemiterator", "dict_reverseitemiterator", "odict_iterator", "itertools.zip_longest", "itertools.pairwise"].contains n = false) (hQ : Q () s) : wpAny M A (letOwnedTupleGo tg (.ref it) u) Q E s := by
  unfold letOwnedTupleGo
  cases tg <;> first
    | exact wpAny_pure hQ
    | (cases u <;> first
        | exact wpAny_pure hQ
        | (refine wpAny_bind (wpAny_load ho ?_)
           rw [hc, hd]
           show wpAny M A (if (["enumerate", "zip", "dict_itemiterator", "dict_reverseitemiterator", "odict_iterator", "itertools.zip_longest", "itertools.pairwise"].contains n && vs[0]? == some (rawInt _)) = true then _ else _) Q E s
           rw [if_neg (by intro h; rw [hn, Bool.false_and] at h; cases h)]
           exact wpAny_pure hQ))
def Itl (K : PySem.W.Frag) (a : Addr) : It :=
 ⟨fun i H => ∃ xs x, SqL K H a xs ∧ xs[i]? = some x, fun i H x H' => H' = H ∧ ∀ xs, SqL K H a xs → xs[i]? = some x, fun i H => ∃ xs, SqL K H a xs ∧ xs.length ≤ i⟩
def Itt (K : PySem.W.Frag) (a : Addr) : It :=
 ⟨fun i H => ∃ xs x, SqT K H a xs ∧ xs[i]? = some x, fun i H x H' => H' = H ∧ ∀ xs, SqT K H a xs → xs[i]? = some x, fun i H => ∃ xs, SqT K H a xs ∧ xs.length ≤ i⟩
def Itr (lo : Int) (n : Nat) : It := ⟨fun i _ => i < n, fun i H x H' => H' = H ∧ x = .int (lo + i), fun i _ => n ≤ i⟩
theorem turn_list {P : Program} {w : World} {K : PySem.W.Frag} {tg : Expr} (a it : Addr) : Turn P w K tg (Itl K a) [it] it (fun i h => h.IsListIter it a i) where
 mem := by simp
 obj := fun i h st b hb => by
  have e : b = it := by simpa using hb
  subst e
  obtain ⟨o, e, c, d⟩ := st
  exact ⟨o, e, fun v z => by rw [d] at z; cases z⟩
 keep := fun i h h' st k => st.at fun o e => k it (by simp) o e
 item := by
  intro X hP hw hK hc i pins s σ H E I hf st hg
  subst hP hw hK
  obtain ⟨xs, x, hq, hx⟩ := hg
  obtain ⟨its, rv, p, hz⟩ := I.list hq
  obtain ⟨u, hu, ru⟩ := rv.get hx
  obtain ⟨f0, f1, f2, f3, f4, f5⟩ := hf it (by simp)
  refine wpAny_pyNext_list_item st p.isList (x := u) (by simpa using hu) fun h' st' sb => ?_
  have I1 : Inv X pins σ H { s with heap := h' } := I.turned (t' := s.toks) (fun b o hb e => (sb.2 b hb).trans e) f0 f1 f3 f4 f5
  obtain ⟨o, e, c, d⟩ := id st'
  exact ⟨u, rfl, go_of (s := { s with heap := h' }) e c d (by decide) ⟨x, H, I1, ru, ⟨rfl, fun ys hy => by rw [I.list_inj hy hq]; exact hx⟩, st', fun b hb => (hf b hb).1⟩⟩
 done := by
  intro X hP hw hK hc i pins s σ H E I hf st hg
  subst hP hw hK
  obtain ⟨xs, hq, hx⟩ := hg
  obtain ⟨its, rv, p, hz⟩ := I.list hq
  obtain ⟨f0, f1, f2, f3, f4, f5⟩ := hf it (by simp)
  have hl := rv.length
  exact wpAny_pyNext_list_end (I.ok.hd hc) st p.isList (by simp; omega) fun h' eb => ⟨rfl, I.turned (t' := s.toks) (fun b o hb e => eb b o hb e) f0 f1 f3 f4 f5⟩
 self := fun _ _ _ _ _ st h => wpAny_pyIter_listiter st h
theorem turn_tuple {P : Program} {w : World} {K : PySem.W.Frag} {tg : Expr} (a it : Addr) : Turn P w K tg (Itt K a) [it] it (fun i h => h.IsTupleIter it a i) where
 mem := by simp
 obj := fun i h st b hb => by
  have e : b = it := by simpa using hb
  subst e
  obtain ⟨o, e, c, d⟩ := st
  exact ⟨o, e, fun v z => by rw [d] at z; cases z⟩
 keep := fun i h h' st k => st.at fun o e => k it (by simp) o e
 item := by
  intro X hP hw hK hc i pins s σ H E I hf st hg
  subst hP hw hK
  obtain ⟨xs, x, hq, hx⟩ := hg
  obtain ⟨its, rv, p, hz⟩ := I.tuple hq
  obtain ⟨u, hu, ru⟩ := rv.get hx
  obtain ⟨f0, f1, f2, f3, f4, f5⟩ := hf it (by simp)
  refine wpAny_pyNext_tuple_item st (show s.heap.IsTuple a its.toArray from p) (x := u) (by simpa using hu) fun h' st' sb => ?_
  have I1 : Inv X pins σ H { s with heap := h' } := I.turned (t' := s.toks) (fun b o hb e => (sb.2 b hb).trans e) f0 f1 f3 f4 f5
  obtain ⟨o, e, c, d⟩ := id st'
  exact ⟨u, rfl, go_of (s := { s with heap := h' }) e c d (by decide) ⟨x, H, I1, ru, ⟨rfl, fun ys hy => by rw [I.tuple_inj hy hq]; exact hx⟩, st', fun b hb => (hf b hb).1⟩⟩
 done := by
  intro X hP hw hK hc i pins s σ H E I hf st hg
  subst hP hw hK
  obtain ⟨xs, hq, hx⟩ := hg
  obtain ⟨its, rv, p, hz⟩ := I.tuple hq
  obtain ⟨f0, f1, f2, f3, f4, f5⟩ := hf it (by simp)
  have hl := rv.length
  exact wpAny_pyNext_tuple_end (I.ok.hd hc) st (show s.heap.IsTuple a its.toArray from p) (by simp; omega) fun h' eb => ⟨rfl, I.turned (t' := s.toks) (fun b o hb e => eb b o hb e) f0 f1 f3 f4 f5⟩
 self := fun _ _ _ _ _ st h => wpAny_pyIter_tupleiter st h
theorem turn_range {P : Program} {w : World} {K : PySem.W.Frag} {tg : Expr} (it : Addr) (lo : Int) (n : Nat) : Turn P w K tg (Itr lo n) [it] it (fun i h => IsRangeIter h it (lo + (i : Nat) * 1) ((n : Int) - (i : Nat)) 1) where
 mem := by simp
 obj := fun i h st b hb => by
  have e : b = it := by simpa using hb
  subst e
  exact ⟨_, st, fun v z => by
   have z' : Data.fields _ = Data.cell v := z
   cases z'⟩
 keep := fun i h h' st k => k it (by simp) _ st
 item := by
  intro X hP hw hK hc i pins s σ H E I hf st hg
  subst hP hw hK
  obtain ⟨f0, f1, f2, f3, f4, f5⟩ := hf it (by simp)
  have W := Walks.range (prog := X.prog) (w := X.w) (I.ok.hd hc) it lo 1 n
  refine W.item i s _ _ hg st fun v h' tk hv st' kk => ?_
  obtain ⟨t, rfl⟩ := hv
  have I1 : Inv X pins σ H { s with heap := h', toks := tk } := I.turned (fun b o hb e => kk b o (by simpa using hb) e) f0 f1 f3 f4 f5
  refine ⟨_, rfl, go_of (s := { s with heap := h', toks := tk }) (n := "range_iterator") st' rfl rfl (by decide) ⟨.int (lo + i), H, I1, ⟨t, ?_⟩, ⟨rfl, rfl⟩, st', fun b hb => (hf b hb).1⟩⟩
  rw [Int.mul_one]
 done := by
  intro X hP hw hK hc i pins s σ H E I hf st hg
  subst hP hw hK
  obtain ⟨f0, f1, f2, f3, f4, f5⟩ := hf it (by simp)
  exact wpAny_pyNext_range_end (I.ok.hd hc) st (by have : n ≤ i := hg; omega) fun h' eb => ⟨rfl, I.turned (t' := s.toks) (fun b o hb e => eb b o hb e) f0 f1 f3 f4 f5⟩
 self := fun _ _ _ _ _ st h => wpAny_pyIter_rangeiter st h
section
variable {X : Cx} {tg : Expr}
def iList (K : PySem.W.Frag) (tl : TE) : TI := fun σ H R => tl σ H fun x H1 => ∃ a, x = .ref a ∧ (∃ xs, SqL K H1 a xs) ∧ R (Itl K a) H1
def iTup (K : PySem.W.Frag) (tl : TE) : TI := fun σ H R => tl σ H fun x H1 => ∃ a, x = .ref a ∧ (∃ xs, SqT K H1 a xs) ∧ R (Itt K a) H1
theorem pi_list {l : Expr} {tl : TE} (hl : PE X l tl) : PI X tg l (iList X.K tl) := by
 intro pins s σ H R I h
 refine thn (hl pins s σ H _ I h) fun v s1 ⟨x, H1, I1, r1, q1⟩ => ?_
 obtain ⟨a, e, ⟨xs, hq⟩, q⟩ := q1
 subst e
 cases r1
 obtain ⟨its, rv, p, hz⟩ := I1.list hq
 refine wpAny_pyIter_list p.isList ?_
 refine ⟨s1.heap.objs.size, [s1.heap.objs.size], _, _, H1, rfl, I1.kept (t' := s1.toks) fun b o e => Heap.get?_push_of_some _ e, turn_list a _, ⟨_, Heap.get?_push_size _ rfl, rfl, rfl⟩, fun b hb => ?_, q⟩
 have e : b = s1.heap.objs.size := by simpa using hb
 subst e
 exact I1.fpOk (Nat.le_refl _) (I1.hok.fresh (Nat.le_refl _))
theorem pi_tup {l : Expr} {tl : TE} (hl : PE X l tl) : PI X tg l (iTup X.K tl) := by
 intro pins s σ H R I h
 refine thn (hl pins s σ H _ I h) fun v s1 ⟨x, H1, I1, r1, q1⟩ => ?_
 obtain ⟨a, e, ⟨xs, hq⟩, q⟩ := q1
 subst e
 cases r1
 obtain ⟨its, rv, p, hz⟩ := I1.tuple hq
 refine wpAny_pyIter_tuple (show s1.heap.IsTuple a its.toArray from p) ?_
 refine ⟨s1.heap.objs.size, [s1.heap.objs.size], _, _, H1, rfl, I1.kept (t' := s1.toks) fun b o e => Heap.get?_push_of_some _ e, turn_tuple a _, ⟨_, Heap.get?_push_size _ rfl, rfl, rfl⟩, fun b hb => ?_, q⟩
 have e : b = s1.heap.objs.size := by simpa using hb
 subst e
 exact I1.fpOk (Nat.le_refl _) (I1.hok.fresh (Nat.le_refl _))
theorem range_it {pins : List (Addr × Obj)} {σ : St} {H : Hp} {s : Shared} {R : It → Hp → Prop} {E : Value → Shared → Prop} {lo hi : Int} {t u v : Tok} {tk : Nat} (I : Inv X pins σ H s) (h1 : -(2 ^ 62) ≤ lo) (h2 : lo < 2 ^ 62) (h3 : -(2 ^ 62) ≤ hi) (h4 : hi < 2 ^ 62)
  (q : R (Itr lo (hi - lo).toNat) H) : wpAny (model X.prog X.w) X.A (pyIter (.ref s.heap.objs.size)) (PIE X pins σ tg R) E { s with heap := s.heap.push { cls := .type "range", data := .fields #[.int lo t, .int hi u, .int 1 v] }, toks := tk } := by
 refine wpAny_pyIter_range (IsRange.new ..) (small_one h1 h2 h3 h4) ?_
 have I1 : Inv X pins σ H { s with heap := s.heap.push { cls := .type "range", data := .fields #[.int lo t, .int hi u, .int 1 v] }, toks := tk } := I.kept fun b o e => Heap.get?_push_of_some _ e
 refine ⟨(s.heap.push { cls := .type "range", data := .fields #[.int lo t, .int hi u, .int 1 v] }).objs.size, [(s.heap.push { cls := .type "range", data := .fields #[.int lo t, .int hi u, .int 1 v] }).objs.size], _, _, H, rfl,
  I1.kept (t' := tk) fun b o e => Heap.get?_push_of_some _ e, turn_range _ lo (hi - lo).toNat, ?_, fun b hb => ?_, q⟩
 ·have e1 : lo + ((0 : Nat) : Int) * 1 = lo := by simp
  have e2 : (((hi - lo).toNat : Nat) : Int) - ((0 : Nat) : Int) = Builtin.Range.rangeSize lo hi 1 := by rw [rangeSize_one]; split <;> omega
  show IsRangeIter _ _ (lo + ((0 : Nat) : Int) * 1) ((((hi - lo).toNat : Nat) : Int) - ((0 : Nat) : Int)) 1
  rw [e1, e2]
  exact Heap.get?_push_size _ rfl
 ·have e : b = (s.heap.push { cls := .type "range", data := .fields #[.int lo t, .int hi u, .int 1 v] }).objs.size := by simpa using hb
  subst e
  exact I1.fpOk (Nat.le_refl _) (I1.hok.fresh (Nat.le_refl _))
def iRng1 (ta : TA) : TI := fun σ H R => ta σ H fun vs H1 => ∃ j : Int, vs = [.int j] ∧ -(2 ^ 62) ≤ j ∧ j < 2 ^ 62 ∧ R (Itr 0 j.toNat) H1
theorem pi_range1 {a : Expr} {ta : TA} {p pos : Pos} (hg : Gl X "range") (hm : X.mg "range" = none) (ha : PA X [a] ta) (hs : starEach [a] X.env = [(false, eval a X.env)] := by rfl) : PI X tg (.Call (.Name "range" p) [a] [] pos) (iRng1 ta) := by
 intro pins s σ H R I h
 refine Call_ (ld_blt I hg hm boot_range (PyProof.Rows.callWith_type1 (thn (ha pos pins s σ H _ I h) fun us s1 ⟨vs, H1, I1, r1, q1⟩ => ?_) hs rfl))
 obtain ⟨j, e, q1, q2, q⟩ := q1
 subst e
 cases r1 with
 | cons r rr =>
  cases rr
  obtain ⟨t, rfl⟩ := r
  exact call_range_1 (range_it I1 (by omega) (by omega) q1 q2 (by simpa using q))
def tFor (wi : TI) (g : TG) (tb : TS) : TS := fun D σ H => wi σ H fun J H1 => ∃ W : Nat → Nat → St → Hp → Prop, (∃ m, W 0 m σ H1) ∧ ∀ i m σ H, W i m σ H →
 (J.stop i H ∧ D.nx σ H) ∨ (J.go i H ∧ ∃ N : St → Hp → Prop, (∀ σ' H', N σ' H' → ∃ m', m' < m ∧ W (i + 1) m' σ' H') ∧ ∀ x H', J.yld i H x H' → g x σ H' fun σ2 H2 => tb { D with nx := N, ct := N, bk := D.nx } σ2 H2)
def pinsAt (fp : List Addr) (h : Heap) : List (Addr × Obj) := fp.filterMap fun b => (h.get? b).map fun o => (b, o)
theorem mem_pinsAt {fp : List Addr} {h : Heap} {b : Addr} {o : Obj} (hb : b ∈ fp) (e : h.get? b = some o) : (b, o) ∈ pinsAt fp h := List.mem_filterMap.mpr ⟨b, hb, by rw [e]; rfl⟩
theorem of_pinsAt {fp : List Addr} {h : Heap} {p : Addr × Obj} (hp : p ∈ pinsAt fp h) : p.1 ∈ fp ∧ h.get? p.1 = some p.2 := by
 obtain ⟨b, hb, e⟩ := List.mem_filterMap.mp hp
 cases q : h.get? b with
 | none => rw [q] at e; cases e
 | some o =>
  rw [q] at e
  have e' : (b, o) = p := Option.some.inj e
  subst e'
  exact ⟨hb, q⟩
theorem Inv.pinned {pins : List (Addr × Obj)} {σ : St} {H : Hp} {s : Shared} {fp : List Addr} (I : Inv X pins σ H s) (hf : ∀ b ∈ fp, FpOk X pins H b) (ho : ∀ b ∈ fp, ∃ o, s.heap.get? b = some o ∧ ∀ v, o.data ≠ .cell v) : Inv X (pins ++ pinsAt fp s.heap) σ H s :=
 I.pins_of fun p hp => (List.mem_append.mp hp).elim (fun z => I.pin p (List.mem_append_right _ z)) fun z => by
  obtain ⟨hb, e⟩ := of_pinsAt z
  obtain ⟨f0, f1, f2, _⟩ := hf p.1 hb
  obtain ⟨o, e', d⟩ := ho p.1 hb
  rw [e] at e'; cases e'
  exact ⟨e, f0, f1, f2, d⟩
theorem Inv.unpinned {pins pl : List (Addr × Obj)} {σ : St} {H : Hp} {s : Shared} (I : Inv X (pins ++ pl) σ H s) : Inv X pins σ H s := I.pins_of fun p hp => I.pin p (List.mem_append_right _ (List.mem_append_left _ hp))
theorem ps_for {iter : Expr} {body : List Stmt} {wi : TI} {g : TG} {tb : TS} {pos : Pos} (hp : PassesOwn (model X.prog X.w) X.A X.env X.xe) (hc : X.calm = true) (hi : PI X tg iter wi) (hg : PG X tg g) (hb : PSs X body tb)
  (hs : ∀ x, foldedSetIterable iter X.env x = pure x := by intro _; rfl) : PS X (.For tg iter body [] pos) (tFor wi g tb) := by
 intro pins s σ H D I h
 refine wpAny_For (thn (hi pins s σ H _ I h) fun v s1 h1 => thn h1 fun itv s2 h2 => ?_) hs
 obtain ⟨it, fp, tn, J, H2, e, I2, T, st2, f2, W, ⟨m0, w0⟩, turn⟩ := h2
 subst e
 have stat : ∀ {H' : Hp}, (∀ b ∈ fp, H' b = none) → ∀ b ∈ fp, FpOk X pins H' b := fun hn b hb => ⟨hn b hb, (f2 b hb).2⟩
 refine codeAny_forLoop_any (fun n s' => ∃ i σ' H', Inv X pins σ' H' s' ∧ tn i s'.heap ∧ (∀ b ∈ fp, H' b = none) ∧ W i n σ' H') ?_ m0 ⟨0, σ, H2, I2, st2, fun b hb => (f2 b hb).1, w0⟩
 rintro n s3 ⟨i, σ3, H3, I3, st3, fr3, w3⟩
 rcases turn i n σ3 H3 w3 with ⟨stop, qn⟩ | ⟨go, N, hN, step⟩
 ·refine wpAny_passesOwn hp (thn (T.done X rfl rfl rfl hc i pins s3 σ3 H3 X.xe I3 (stat fr3) st3 stop) fun r s4 ⟨hr, I4⟩ => ?_)
  subst hr
  exact wpAny_execs_nil ⟨σ3, H3, I4, qn⟩
 ·refine wpAny_passesOwn hp (thn (T.item X rfl rfl rfl hc i pins s3 σ3 H3 X.xe I3 (stat fr3) st3 go) fun r s4 ⟨u, hr, h4⟩ => ?_)
  subst hr
  refine wpAny_passesOwn hp (thn h4 fun _ s5 ⟨x, H5, I5, r5, y5, st5, fr5⟩ => ?_)
  have I5' := I5.pinned (stat fr5) (T.obj _ _ st5)
  refine wpAny_passesOwn hp (thn (hg _ s5 σ3 H5 x u _ I5' r5 (step x H5 y5)) fun _ s6 ⟨σ6, H6, I6, q6⟩ => ?_)
  refine wpAny_passesOwn hp (thn (hb _ s6 σ6 H6 _ I6 q6) fun f s7 q7 => ?_)
  have again : ∀ {σ7 : St} {H7 : Hp}, Inv X (pins ++ pinsAt fp s5.heap) σ7 H7 s7 → N σ7 H7 → ∃ m, m < n ∧ ∃ i σ' H', Inv X pins σ' H' s7 ∧ tn i s7.heap ∧ (∀ b ∈ fp, H' b = none) ∧ W i m σ' H' := fun {σ7 H7} I7 n7 => by
   obtain ⟨m', hm, w7⟩ := hN σ7 H7 n7
   refine ⟨m', hm, i + 1, σ7, H7, I7.unpinned, T.keep _ _ _ st5 fun b hb o e => (I7.pin (b, o) (List.mem_append_right _ (List.mem_append_right _ (mem_pinsAt hb e)))).1, fun b hb => ?_, w7⟩
   obtain ⟨o, e, d⟩ := T.obj _ _ st5 b hb
   exact (I7.pin (b, o) (List.mem_append_right _ (List.mem_append_right _ (mem_pinsAt hb e)))).2.1
  cases f with
  | next => obtain ⟨σ7, H7, I7, n7⟩ := q7; exact again I7 n7
  | cont => obtain ⟨σ7, H7, I7, n7⟩ := q7; exact again I7 n7
  | brk => obtain ⟨σ7, H7, I7, q7⟩ := q7; exact ⟨σ7, H7, I7.unpinned, q7⟩
  | ret v => obtain ⟨x7, σ7, H7, I7, r7, q7⟩ := q7; exact ⟨x7, σ7, H7, I7.unpinned, r7, q7⟩
end
theorem for_tup {K : PySem.W.Frag} {a : Addr} {xs : List V} {g : TG} {tb : TS} {D : Ends} {σ : St} {H : Hp} (Pv : Nat → St → Hp → Prop) (h0 : Pv 0 σ H) (hl : ∀ i σ H, i ≤ xs.length → Pv i σ H → SqT K H a xs)
  (hs : ∀ i x σ H, xs[i]? = some x → Pv i σ H → g x σ H fun σ2 H2 => tb { D with nx := Pv (i + 1), ct := Pv (i + 1), bk := D.nx } σ2 H2) (hd : ∀ σ H, Pv xs.length σ H → D.nx σ H) :
  ∃ W : Nat → Nat → St → Hp → Prop, (∃ m, W 0 m σ H) ∧ ∀ i m σ H, W i m σ H →
   ((Itt K a).stop i H ∧ D.nx σ H) ∨ ((Itt K a).go i H ∧ ∃ N : St → Hp → Prop, (∀ σ' H', N σ' H' → ∃ m', m' < m ∧ W (i + 1) m' σ' H') ∧ ∀ x H', (Itt K a).yld i H x H' → g x σ H' fun σ2 H2 => tb { D with nx := N, ct := N, bk := D.nx } σ2 H2) := by
 refine ⟨fun i m σ H => m = xs.length - i ∧ i ≤ xs.length ∧ Pv i σ H, ⟨xs.length, by simp, Nat.zero_le _, h0⟩, ?_⟩
 rintro i m σ H ⟨rfl, hi, p⟩
 have q := hl i σ H hi p
 by_cases hlt : i < xs.length
 ·refine .inr ⟨⟨xs, xs[i], q, by simp [hlt]⟩, Pv (i + 1), fun σ' H' p' => ⟨xs.length - (i + 1), by omega, rfl, hlt, p'⟩, fun x H' y => ?_⟩
  obtain ⟨e, y⟩ := y
  subst e
  exact hs i x σ _ (y xs q) p
 ·have e : i = xs.length := by omega
  subst e
  exact .inl ⟨⟨xs, q, Nat.le_refl _⟩, hd σ H p⟩
theorem for_range {lo : Int} {n : Nat} {g : TG} {tb : TS} {D : Ends} {σ : St} {H : Hp} (Pv : Nat → St → Hp → Prop) (h0 : Pv 0 σ H)
  (hs : ∀ i σ H, i < n → Pv i σ H → g (.int (lo + i)) σ H fun σ2 H2 => tb { D with nx := Pv (i + 1), ct := Pv (i + 1), bk := D.nx } σ2 H2) (hd : ∀ σ H, Pv n σ H → D.nx σ H) :
  ∃ W : Nat → Nat → St → Hp → Prop, (∃ m, W 0 m σ H) ∧ ∀ i m σ H, W i m σ H →
   ((Itr lo n).stop i H ∧ D.nx σ H) ∨ ((Itr lo n).go i H ∧ ∃ N : St → Hp → Prop, (∀ σ' H', N σ' H' → ∃ m', m' < m ∧ W (i + 1) m' σ' H') ∧ ∀ x H', (Itr lo n).yld i H x H' → g x σ H' fun σ2 H2 => tb { D with nx := N, ct := N, bk := D.nx } σ2 H2) := by
 refine ⟨fun i m σ H => m = n - i ∧ i ≤ n ∧ Pv i σ H, ⟨n, by simp, Nat.zero_le _, h0⟩, ?_⟩
 rintro i m σ H ⟨rfl, hi, p⟩
 by_cases hlt : i < n
 ·refine .inr ⟨hlt, Pv (i + 1), fun σ' H' p' => ⟨n - (i + 1), by omega, rfl, hlt, p'⟩, fun x H' y => ?_⟩
  obtain ⟨e, y⟩ := y
  subst e y
  exact hs i σ _ hlt p
 ·have e : i = n := by omega
  subst e
  exact .inl ⟨Nat.le_refl _, hd σ H p⟩
abbrev R2 := V → V → Hp → VK → Prop
def OpR (X : Cx) (f : Value → Value → Sem Value) (r : R2) : Prop :=
 ∀ (pins : List (Addr × Obj)) (s : Shared) (σ : St) (H : Hp) (x y : V) (v u : Value) (Q : VK), Inv X pins σ H s → RelV x v → RelV y u → r x y H Q →
  wpAny (model X.prog X.w) X.A (f v u) (EP X pins σ Q) X.xe s
def UnR (X : Cx) (f : Value → Sem Value) (r : V → Hp → VK → Prop) : Prop :=
 ∀ (pins : List (Addr × Obj)) (s : Shared) (σ : St) (H : Hp) (x : V) (v : Value) (Q : VK), Inv X pins σ H s → RelV x v → r x H Q →
  wpAny (model X.prog X.w) X.A (f v) (EP X pins σ Q) X.xe s
def CallR (X : Cx) (f : Value) (r : List V → Hp → VK → Prop) : Prop :=
 ∀ (pins : List (Addr × Obj)) (s : Shared) (σ : St) (H : Hp) (xs : List V) (us : List Value) (Q : VK), Inv X pins σ H s → Vals xs us → r xs H Q →
  wpAny (model X.prog X.w) X.A (call f us) (EP X pins σ Q) X.xe s
def tOp (r : R2) (ta tb : TE) : TE := fun σ H Q => ta σ H fun x H1 => tb σ H1 fun y H2 => r x y H2 Q
def tUn (r : V → Hp → VK → Prop) (ta : TE) : TE := fun σ H Q => ta σ H fun x H1 => r x H1 Q
def rI (C : Int → Int → Prop) (g : Int → Int → V) : R2 := fun x y H Q => ∃ i j, x = .int i ∧ y = .int j ∧ C i j ∧ Q (g i j) H
def rI0 (g : Int → Int → V) : R2 := fun x y H Q => ∃ i j, x = .int i ∧ y = .int j ∧ Q (g i j) H
def rU (g : Int → V) : V → Hp → VK → Prop := fun x H Q => ∃ i, x = .int i ∧ Q (g i) H
section
variable {X : Cx} {a b c : Expr} {ta tb tc : TE} {pos : Pos}
theorem binT (ha : PE X a ta) (hb : PE X b tb) {pins : List (Addr × Obj)} {s : Shared} {σ : St} {H : Hp} {R : V → V → Hp → Prop} (I : Inv X pins σ H s)
  (h : ta σ H fun x H1 => tb σ H1 fun y H2 => R x y H2) {Q : Value → Shared → Prop} {f : Value → Value → Sem Value}
  (hf : ∀ v u s2 x y H2, Inv X pins σ H2 s2 → RelV x v → RelV y u → R x y H2 → wpAny (model X.prog X.w) X.A (f v u) Q X.xe s2) :
  wpAny (model X.prog X.w) X.A (eval a X.env) (fun v s₁ => wpAny (model X.prog X.w) X.A (eval b X.env) (fun u s₂ => wpAny (model X.prog X.w) X.A (f v u) Q X.xe s₂) X.xe s₁) X.xe s := by
 refine thn (ha pins s σ H _ I h) fun v s1 ⟨x, H1, I1, r1, q1⟩ => ?_
 refine thn (hb pins s1 σ H1 _ I1 q1) fun u s2 ⟨y, H2, I2, r2, q2⟩ => ?_
 exact hf v u s2 x y H2 I2 r1 r2 q2
theorem pe_op {op : Operator} {r : R2} (ho : OpR X (binaryOp op) r) (ha : PE X a ta) (hb : PE X b tb) : PE X (.BinOp a op b pos) (tOp r ta tb) := by
 intro pins s σ H Q I h
 exact wpAny_BinOp (binT ha hb I h fun v u s2 x y H2 I2 rx ry q => ho pins s2 σ H2 x y v u Q I2 rx ry q)
theorem pe_un {op : UnaryOp} {r : V → Hp → VK → Prop} (ho : UnR X (unaryOp op) r) (ha : PE X a ta) : PE X (.UnaryOp op a pos) (tUn r ta) := by
 intro pins s σ H Q I h
 exact UnaryOp_ (thn (ha pins s σ H _ I h) fun v s1 ⟨x, H1, I1, r1, q1⟩ => ho pins s1 σ H1 x v Q I1 r1 q1)
theorem opI {f : Value → Value → Sem Value} {C : Int → Int → Prop} {g : Int → Int → Int}
  (rule : ∀ (i j : Int) (t u : Tok) (s : Shared) (Q : Value → Shared → Prop) (E : Value → Shared → Prop), C i j → Q (.int (g i j) s.toks) { s with toks := s.toks + 1 } → wpAny (model X.prog X.w) X.A (f (.int i t) (.int j u)) Q E s) :
  OpR X f (rI C fun i j => .int (g i j)) := by
 intro pins s σ H x y v u Q I rx ry h
 obtain ⟨i, j, rfl, rfl, hc, q⟩ := h
 obtain ⟨t, rfl⟩ := rx
 obtain ⟨t', rfl⟩ := ry
 exact rule i j t t' s _ _ hc ⟨.int (g i j), H, I.tok _, ⟨_, rfl⟩, q⟩
theorem opI0 {f : Value → Value → Sem Value} {g : Int → Int → Int}
  (rule : ∀ (i j : Int) (t u : Tok) (s : Shared) (Q : Value → Shared → Prop) (E : Value → Shared → Prop), Q (.int (g i j) s.toks) { s with toks := s.toks + 1 } → wpAny (model X.prog X.w) X.A (f (.int i t) (.int j u)) Q E s) :
  OpR X f (rI0 fun i j => .int (g i j)) := by
 intro pins s σ H x y v u Q I rx ry h
 obtain ⟨i, j, rfl, rfl, q⟩ := h
 obtain ⟨t, rfl⟩ := rx
 obtain ⟨t', rfl⟩ := ry
 exact rule i j t t' s _ _ ⟨.int (g i j), H, I.tok _, ⟨_, rfl⟩, q⟩
theorem opB0 {f : Value → Value → Sem Value} {g : Int → Int → Bool}
  (rule : ∀ (i j : Int) (t u : Tok) (s : Shared) (Q : Value → Shared → Prop) (E : Value → Shared → Prop), Q (.bool (g i j)) s → wpAny (model X.prog X.w) X.A (f (.int i t) (.int j u)) Q E s) :
  OpR X f (rI0 fun i j => .bl (g i j)) := by
 intro pins s σ H x y v u Q I rx ry h
 obtain ⟨i, j, rfl, rfl, q⟩ := h
 obtain ⟨t, rfl⟩ := rx
 obtain ⟨t', rfl⟩ := ry
 exact rule i j t t' s _ _ ⟨.bl (g i j), H, I, rfl, q⟩
def CDiv (i j : Int) : Prop := 0 < j ∧ j < 1073741824
def CPow (i j : Int) : Prop := 0 ≤ j ∧ j ≤ 1000000 ∧ i.natAbs < 2 ^ 64
def CMul (i j : Int) : Prop := (-(2 ^ 64) < i ∧ i < 2 ^ 64) ∨ (-(2 ^ 64) < j ∧ j < 2 ^ 64)
theorem CMul.ok {i j : Int} (h : CMul i j) : IntMulOk i j := by
 rcases h with ⟨h1, h2⟩ | ⟨h1, h2⟩
 ·exact .of_left (intBits_le_64 h1 h2)
 ·exact .of_right (intBits_le_64 h1 h2)
theorem op_add : OpR X (binaryOp .Add) (rI0 fun i j => .int (i + j)) := opI0 fun _ _ _ _ _ _ _ q => add_int q
theorem op_sub : OpR X (binaryOp .Sub) (rI0 fun i j => .int (i - j)) := opI0 fun _ _ _ _ _ _ _ q => sub_int q
theorem op_mul : OpR X (binaryOp .Mult) (rI CMul fun i j => .int (i * j)) := opI fun _ _ _ _ _ _ _ hc q => mul_int q hc.ok
theorem op_fdiv : OpR X (binaryOp .FloorDiv) (rI CDiv fun i j => .int (i / j)) := opI fun i j _ _ _ _ _ hc q => by
 have h1 : (0 : Int) < j := hc.1
 have h2 : j < 1073741824 := hc.2
 exact floordiv_int (by omega) (by rw [Int.fdiv_eq_ediv_of_nonneg i (by omega)]; exact q) (.inl (PyProof.noPylong_small (by omega)))
theorem op_mod : OpR X (binaryOp .Mod) (rI (fun _ j => 0 < j) fun i j => .int (i % j)) := opI fun i j _ _ _ _ _ hc q => by
 have h1 : (0 : Int) < j := hc
 exact mod_int' (by omega) (by rw [Int.fmod_eq_emod_of_nonneg i (by omega)]; exact q)
theorem op_pow : OpR X (binaryOp .Pow) (rI CPow fun i j => .int (i ^ j.toNat)) := opI fun _ _ _ _ _ _ _ hc q => pow_int_small hc.1 hc.2.1 hc.2.2 q
theorem unI {f : Value → Sem Value} {g : Int → Int}
  (rule : ∀ (i : Int) (t : Tok) (s : Shared) (Q : Value → Shared → Prop) (E : Value → Shared → Prop), Q (.int (g i) s.toks) { s with toks := s.toks + 1 } → wpAny (model X.prog X.w) X.A (f (.int i t)) Q E s) :
  UnR X f (rU fun i => .int (g i)) := by
 intro pins s σ H x v Q I rx h
 obtain ⟨i, rfl, q⟩ := h
 obtain ⟨t, rfl⟩ := rx
 exact rule i t s _ _ ⟨.int (g i), H, I.tok _, ⟨_, rfl⟩, q⟩
theorem un_neg : UnR X (unaryOp .USub) (rU fun i => .int (-i)) := unI fun _ _ _ _ _ q => neg_int q
end
def scal : V → V → Bool
 | .non, .non => true | .non, .int _ => true | .int _, .non => true | .non, .bl _ => true | .bl _, .non => true | .non, .str _ => true | .str _, .non => true
 | .int _, .int _ => true | .bl _, .bl _ => true | .str _, .str _ => true | .byt _, .byt _ => true
 | .int _, .str _ => true | .str _, .int _ => true | .bl _, .str _ => true | .str _, .bl _ => true
 | _, _ => false
def rEq : R2 := fun x y H Q => scal x y = true ∧ Q (.bl (decide (x = y))) H
def rNe : R2 := fun x y H Q => scal x y = true ∧ Q (.bl (!decide (x = y))) H
theorem dec_int {i j : Int} : decide (V.int i = V.int j) = (i == j) := by
 rw [Bool.eq_iff_iff]
 simp
theorem dec_bl {i j : Bool} : decide (V.bl i = V.bl j) = (i == j) := by
 rw [Bool.eq_iff_iff]
 simp
theorem dec_str {i j : Str} : decide (V.str i = V.str j) = (i == j) := by
 rw [Bool.eq_iff_iff]
 simp
theorem dec_byt {i j : Array UInt8} : decide (V.byt i = V.byt j) = (i.toList == j.toList) := by
 rw [Bool.eq_iff_iff]
 cases i
 cases j
 simp
section
variable {X : Cx} {a b c : Expr} {ta tb tc : TE} {pos : Pos}
theorem fin_bl {pins : List (Addr × Obj)} {σ : St} {H : Hp} {s : Shared} {Q : VK} {k k' : Bool} (I : Inv X pins σ H s) (q : Q (.bl k) H) (e : k = k') : EP X pins σ Q (.bool k') s := by
 subst e
 exact ⟨.bl k, H, I, rfl, q⟩
theorem op_eq : OpR X (compareOp .Eq) rEq := by
 intro pins s σ H x y v u Q I rx ry h
 obtain ⟨hs, q⟩ := h
 cases x with
 | non =>
  cases rx
  cases y with
  | non => cases ry; exact PySem.EqNone.eq_none_none (fin_bl I q (by simp))
  | bl j => cases ry; exact PySem.EqNone.eq_none_bool (fin_bl I q (by simp))
  | int j => obtain ⟨t', rfl⟩ := ry; exact PySem.EqNone.eq_none_int (fin_bl I q (by simp))
  | str j => obtain ⟨t', rfl⟩ := ry; exact PySem.EqNone.eq_none_str (fin_bl I q (by simp))
  | _ => exact absurd (show false = true from hs) Bool.false_ne_true
 | bl i =>
  cases rx
  cases y with
  | non => cases ry; exact PySem.EqNone.eq_bool_none (fin_bl I q (by simp))
  | bl j => cases ry; exact eq_bool (fin_bl I q dec_bl)
  | str j => obtain ⟨t', rfl⟩ := ry; exact PySem.EqMixed.eq_bool_str (fin_bl I q (by simp))
  | _ => exact absurd (show false = true from hs) Bool.false_ne_true
 | int i =>
  obtain ⟨t, rfl⟩ := rx
  cases y with
  | non => cases ry; exact PySem.EqNone.eq_int_none (fin_bl I q (by simp))
  | int j => obtain ⟨t', rfl⟩ := ry; exact eq_int (fin_bl I q dec_int)
  | str j => obtain ⟨t', rfl⟩ := ry; exact PySem.EqMixed.eq_int_str (fin_bl I q (by simp))
  | _ => exact absurd (show false = true from hs) Bool.false_ne_true
 | str i =>
  obtain ⟨t, rfl⟩ := rx
  cases y with
  | non => cases ry; exact PySem.EqNone.eq_str_none (fin_bl I q (by simp))
  | bl j => cases ry; exact PySem.EqMixed.eq_str_bool (fin_bl I q (by simp))
  | int j => obtain ⟨t', rfl⟩ := ry; exact PySem.EqMixed.eq_str_int (fin_bl I q (by simp))
  | str j => obtain ⟨t', rfl⟩ := ry; exact eq_str (fin_bl I q dec_str)
  | _ => exact absurd (show false = true from hs) Bool.false_ne_true
 | byt i =>
  obtain ⟨t, rfl⟩ := rx
  cases y with
  | byt j => obtain ⟨t', rfl⟩ := ry; exact PySem.W.eq_bytes (fin_bl I q dec_byt)
  | _ => exact absurd (show false = true from hs) Bool.false_ne_true
 | _ => cases y <;> exact absurd (show false = true from hs) Bool.false_ne_true
theorem op_ne : OpR X (compareOp .NotEq) rNe := by
 intro pins s σ H x y v u Q I rx ry h
 obtain ⟨hs, q⟩ := h
 cases x with
 | non =>
  cases rx
  cases y with
  | non => cases ry; exact PySem.EqNone.ne_none_none (fin_bl I q (by simp))
  | bl j => cases ry; exact PySem.EqNone.ne_none_bool (fin_bl I q (by simp))
  | int j => obtain ⟨t', rfl⟩ := ry; exact PySem.EqNone.ne_none_int (fin_bl I q (by simp))
  | str j => obtain ⟨t', rfl⟩ := ry; exact PySem.EqNone.ne_none_str (fin_bl I q (by simp))
  | _ => exact absurd (show false = true from hs) Bool.false_ne_true
 | bl i =>
  cases rx
  cases y with
  | non => cases ry; exact PySem.EqNone.ne_bool_none (fin_bl I q (by simp))
  | bl j => cases ry; exact ne_bool (fin_bl I q (congrArg not dec_bl))
  | str j => obtain ⟨t', rfl⟩ := ry; exact PySem.EqMixed.ne_bool_str (fin_bl I q (by simp))
  | _ => exact absurd (show false = true from hs) Bool.false_ne_true
 | int i =>
  obtain ⟨t, rfl⟩ := rx
  cases y with
  | non => cases ry; exact PySem.EqNone.ne_int_none (fin_bl I q (by simp))
  | int j => obtain ⟨t', rfl⟩ := ry; exact ne_int (fin_bl I q (congrArg not dec_int))
  | str j => obtain ⟨t', rfl⟩ := ry; exact PySem.EqMixed.ne_int_str (fin_bl I q (by simp))
  | _ => exact absurd (show false = true from hs) Bool.false_ne_true
 | str i =>
  obtain ⟨t, rfl⟩ := rx
  cases y with
  | non => cases ry; exact PySem.EqNone.ne_str_none (fin_bl I q (by simp))
  | bl j => cases ry; exact PySem.EqMixed.ne_str_bool (fin_bl I q (by simp))
  | int j => obtain ⟨t', rfl⟩ := ry; exact PySem.EqMixed.ne_str_int (fin_bl I q (by simp))
  | str j => obtain ⟨t', rfl⟩ := ry; exact ne_str (fin_bl I q (congrArg not dec_str))
  | _ => exact absurd (show false = true from hs) Bool.false_ne_true
 | byt i =>
  obtain ⟨t, rfl⟩ := rx
  cases y with
  | byt j => obtain ⟨t', rfl⟩ := ry; exact PySem.W.ne_bytes (fin_bl I q (congrArg not dec_byt))
  | _ => exact absurd (show false = true from hs) Bool.false_ne_true
 | _ => cases y <;> exact absurd (show false = true from hs) Bool.false_ne_true
theorem op_lt : OpR X (compareOp .Lt) (rI0 fun i j => .bl (decide (i < j))) := opB0 fun _ _ _ _ _ _ _ q => lt_int q
theorem op_le : OpR X (compareOp .LtE) (rI0 fun i j => .bl (decide (i ≤ j))) := opB0 fun _ _ _ _ _ _ _ q => le_int q
theorem op_gt : OpR X (compareOp .Gt) (rI0 fun i j => .bl (decide (j < i))) := opB0 fun _ _ _ _ _ _ _ q => gt_int q
theorem nomark (b : Expr) {op : CmpOp} (h : op ≠ .In := by decide) (h2 : op ≠ .NotIn := by decide) : behindInMarks op b = false := by
 have e1 : (op == CmpOp.In) = false := by cases op <;> first | rfl | exact absurd rfl h
 have e2 : (op == CmpOp.NotIn) = false := by cases op <;> first | rfl | exact absurd rfl h2
 cases b <;> simp [behindInMarks, e1, e2]
theorem pe_cmpR {op : CmpOp} {r : R2} (ho : OpR X (compareOp op) r) (ha : PE X a ta) (hb : PE X b tb) (hm : behindInMarks op b = false) : PE X (.Compare a [op] [b] pos) (tOp r ta tb) := by
 intro pins s σ H Q I h
 exact wpAny_Compare1 (binT ha hb I h fun v u s2 x y H2 I2 rx ry q => ho pins s2 σ H2 x y v u Q I2 rx ry q) hm
def tTest (t : TE) : TT := fun σ H Q => t σ H fun x H' => ∃ k, x = .bl k ∧ Q k H'
theorem pt_cmpR {op : CmpOp} {r : R2} (ho : OpR X (compareOp op) r) (ha : PE X a ta) (hb : PE X b tb) (hm : behindInMarks op b = false) : PT X (.Compare a [op] [b] pos) (tTest (tOp r ta tb)) := by
 intro pins s σ H Q I h
 refine wpAny_isTrue_Compare1 (thn (ha pins s σ H _ I h) fun v s1 ⟨x, H1, I1, r1, q1⟩ => thn (hb pins s1 σ H1 _ I1 q1) fun u s2 ⟨y, H2, I2, r2, q2⟩ =>
  thn (ho pins s2 σ H2 x y v u _ I2 r1 r2 q2) fun c s3 ⟨z, H3, I3, r3, k, e, q3⟩ => ?_) hm
 subst e
 cases r3
 exact wpAny_truthy_bool ⟨H3, I3, q3⟩
def tChain (r r' : R2) (ta tb tc : TE) : TE := fun σ H Q => ta σ H fun x H1 => tb σ H1 fun y H2 => r x y H2 fun z H3 => ∃ k, z = .bl k ∧
 (if k = true then tc σ H3 fun w' H4 => r' y w' H4 Q else Q (.bl false) H3)
theorem pe_chain {op op' : CmpOp} {r r' : R2} (ho : OpR X (compareOp op) r) (ho' : OpR X (compareOp op') r') (ha : PE X a ta) (hb : PE X b tb) (hc : PE X c tc)
  (hm : lastMarks [op, op'] [b, c] = false := by with_unfolding_all rfl) : PE X (.Compare a [op, op'] [b, c] pos) (tChain r r' ta tb tc) := by
 intro pins s σ H Q I h
 refine Compare_chain (thn (ha pins s σ H _ I h) fun v s1 ⟨x, H1, I1, r1, q1⟩ => chain_link (thn (hb pins s1 σ H1 _ I1 q1) fun u s2 ⟨y, H2, I2, r2, q2⟩ =>
  thn (ho pins s2 σ H2 x y v u _ I2 r1 r2 q2) fun d s3 ⟨z, H3, I3, r3, k, e, q3⟩ => ?_)) hm
 subst e
 cases r3
 refine wpAny_truthy_bool ?_
 cases k with
 | false => exact ite_ff ⟨.bl false, H3, I3, rfl, q3⟩
 | true => exact ite_tt (chain_last (thn (hc pins s3 σ H3 _ I3 q3) fun w' s4 ⟨z', H4, I4, r4, q4⟩ => ho' pins s4 σ H4 y z' u w' Q I4 r2 r4 q4))
theorem line63 : (sizeLine : Nat) < 2 ^ 63 := by rw [sizeLine_eq]; decide
theorem vals1 {x : V} {us : List Value} (r : Vals [x] us) : ∃ u, us = [u] ∧ RelV x u := by
 cases r with
 | cons r1 r2 => cases r2; exact ⟨_, rfl, r1⟩
theorem vals2 {x y : V} {us : List Value} (r : Vals [x, y] us) : ∃ u w', us = [u, w'] ∧ RelV x u ∧ RelV y w' := by
 cases r with
 | cons r1 r2 =>
  cases r2 with
  | cons r3 r4 => cases r4; exact ⟨_, _, rfl, r1, r3⟩
theorem call_max2 (hc : X.calm = true) : CallR X (.builtin "max") (fun xs H Q => ∃ i j, xs = [.int i, .int j] ∧ Q (.int (if j > i then j else i)) H) := by
 intro pins s σ H xs us Q I r h
 obtain ⟨i, j, rfl, q⟩ := h
 obtain ⟨u, w', rfl, ⟨t, rfl⟩, ⟨t', rfl⟩⟩ := vals2 r
 refine max_two_ints (I.ok.hd hc) fun h' tk k => ⟨_, H, I.kept k, ?_, q⟩
 by_cases hj : j > i
 ·rw [if_pos hj, if_pos hj]; exact ⟨_, rfl⟩
 ·rw [if_neg hj, if_neg hj]; exact ⟨_, rfl⟩
end
structure ObjM (h : Heap) (x dx C : Addr) (mA : Str → Option Value) : Prop where
 obj : h.get? x = some (PySem.W.instObj C dx)
 ns : h.Ns1 dx mA
 ne : dx ≠ x
theorem lookIn_ns {h : Heap} {dx : Addr} {mA : Str → Option Value} (n : h.Ns1 dx mA) : ∃ od, h.get? dx = some od ∧ ∀ name, PySem.W.lookIn name od = some (mA name) := by
 obtain ⟨o, es, ep, ho, hd, hk, _, hm⟩ := n
 refine ⟨o, ho, fun name => ?_⟩
 have e := hm name
 unfold nsFind findBy at e
 rw [← Array.find?_toList] at e
 unfold PySem.W.lookIn
 rw [hd]
 dsimp only
 split
 ·rename_i y q
  rw [q] at e
  exact congrArg some e
 ·rename_i q
  rw [q] at e
  have a : es.toList.any (·.refKey) = false := by
   rw [List.any_eq_false]
   intro y hy
   obtain ⟨z, t, hkey⟩ := hk y (Array.mem_toList_iff.mp hy)
   simp [DictEntry.refKey, hkey]
  have a' : ¬ es.toList.any (·.refKey) = true := by rw [a]; exact Bool.false_ne_true
  rw [if_neg a']
  exact congrArg some e
theorem ObjM.look {h : Heap} {x dx C : Addr} {mA : Str → Option Value} (I : ObjM h x dx C mA) : ∃ od, PySem.W.InstAt h x (PySem.W.instObj C dx) C (some od) ∧ ∀ name, PySem.W.lookIn name od = some (mA name) :=
 let ⟨od, ho, hl⟩ := lookIn_ns I.ns
 ⟨od, ⟨I.obj, rfl, rfl, ho⟩, hl⟩
section
variable {prog : Program} {w : World} {A : Around} {E : Value → Shared → Prop} {s : Shared} {K : PySem.W.Frag} {x dx C f : Addr} {mA : Str → Option Value} {name : Str} {v : Value}
end
theorem RelO.some_of {v : V} {o : Option Value} (r : RelO (some v) o) : ∃ u, o = some u ∧ RelV v u := by
 cases o with
 | none => exact (show False from r).elim
 | some u => exact ⟨u, rfl, r⟩
section
variable {P : Program} {w : World} {H H' : Hp} {h h' : Heap} {a C dx : Addr} {fs fs' : List (Str × V)}
theorem ins_get (hok : HOk P w H h) (e : H a = some (.ins C dx fs)) : ∃ mA, ObjM h a dx C mA ∧ (∀ f, RelO (fs.lookup f) (mA f)) ∧ PySem.Within mA (fs.map (·.1)) ∧ fs.length ≤ 1000 ∧ H dx = some (.own a) := by
 obtain ⟨d, z, ne, ob, mA, n, r, q⟩ := (show ObjOk P w H h a (.ins C dx fs) from hok a _ e)
 exact ⟨mA, ⟨ob, n, ne⟩, r, q, z, d⟩
end
structure Cls (K : PySem.W.Frag) (C : Addr) : Prop where
 pg : PySem.W.plainGet K C Str.empty = true
 hd : PySem.W.hasDictIn K C = true
 po : PySem.W.plainOver K C = true
 sa : PySem.W.findIn K (.ref C) "__setattr__" = some (some (.builtin "object.__setattr__"))
theorem Cls.get {K : PySem.W.Frag} {C : Addr} (c : Cls K C) (f : Str) : PySem.W.plainGet K C f = true := c.pg
section
variable {X : Cx} {pins : List (Addr × Obj)} {σ : St} {H : Hp} {s : Shared} {a C dx : Addr} {fs : List (Str × V)} {f : Str} {v : V} {A : Around} {E : Value → Shared → Prop}
end
section
variable {X : Cx} {o e value : Expr} {f : Str} {pos pos' tpos : Pos} {ta tv : TE}
end
section
variable {X : Cx} {pins : List (Addr × Obj)} {σ : St} {H : Hp} {s : Shared} {A : Around} {E : Value → Shared → Prop} {Q : Value → Shared → Prop} {c : Value} {b : Bool}
inductive TyOf (K : PySem.W.Frag) (H : Hp) : V → Value → Prop where
 | non : TyOf K H .non (.type "NoneType")
 | bl (x : Bool) : TyOf K H (.bl x) (.type "bool")
 | int (i : Int) : TyOf K H (.int i) (.type "int")
 | str (x : Str) : TyOf K H (.str x) (.type "str")
 | flt (x : UInt64) : TyOf K H (.flt x) (.type "float")
 | lst {a : Addr} {xs : List V} (e : H a = some (.lst xs)) : TyOf K H (.ref a) (.type "list")
 | frz {a : Addr} {o : Obj} {xs : List V} (e : H a = some (.frz o (.lst xs))) : TyOf K H (.ref a) (.type "list")
 | tup {a : Addr} {xs : List V} (e : H a = some (.tup xs)) : TyOf K H (.ref a) (.type "tuple")
 | dK {a : Addr} {kvs : List (Key × V)} (e : H a = some (.dK kvs)) : TyOf K H (.ref a) (.type "dict")
 | dT {a : Addr} {kvs : List (List Key × V)} (e : H a = some (.dT kvs)) : TyOf K H (.ref a) (.type "dict")
 | ins {a C dx : Addr} {fs : List (Str × V)} (e : H a = some (.ins C dx fs)) (cl : Cls K C) (ha : PySem.W.findIn K (.ref C) "__class__" = some (some (.builtin "object.__class__")))
   (hn : PySem.W.specialIn K (.builtin "object.__class__") "__get__" = some (some (.builtin "getset_descriptor.__get__"))) (htk : PySem.W.takesIn K (.builtin "object.__class__") = some true)
   (hm : PySem.W.mroIn K C (.type "object") = some true) : TyOf K H (.ref a) (.ref C)
theorem isinst_ok {x : V} {u t : Value} (I : Inv X pins σ H s) (rx : RelV x u) (ty : TyOf X.K H x t) (e : PySem.W.kitOne X.K t c = some b) (h : ∀ tk, Q (.bool b) { s with toks := tk }) :
  wpAny (model X.prog X.w) A (call (.builtin "isinstance") [u, c]) Q E s := by
 cases ty with
 | non => cases (show u = Value.none from rx); exact PySem.W.kia_one PySem.W.kitx_none I.kIn True.intro e (fun z => nomatch z) h
 | bl y => cases (show u = Value.bool y from rx); exact PySem.W.kia_one PySem.W.kitx_bool I.kIn True.intro e (fun z => nomatch z) h
 | int i => obtain ⟨t, q⟩ := (show ∃ t, u = Value.int i t from rx); cases q; exact PySem.W.kia_one PySem.W.kitx_int I.kIn True.intro e (fun z => nomatch z) h
 | str y => obtain ⟨t, q⟩ := (show ∃ t, u = Value.str y t from rx); cases q; exact PySem.W.kia_one PySem.W.kitx_str I.kIn True.intro e (fun z => nomatch z) h
 | flt y => obtain ⟨t, q⟩ := (show ∃ t, u = Value.float y t from rx); cases q; exact PySem.W.kia_one PySem.W.kitx_float I.kIn True.intro e (fun z => nomatch z) h
 | @lst a xs ea =>
  cases (show u = Value.ref a from rx)
  obtain ⟨_, _, n, _, h1⟩ := (show ObjOk X.prog X.w H s.heap a (.lst xs) from I.hok a _ ea)
  exact PySem.W.kia_one PySem.W.kitx_list I.kIn ⟨_, h1, rfl⟩ e (fun z => nomatch z) h
 | @frz a ob xs ea =>
  cases (show u = Value.ref a from rx)
  obtain ⟨_, _, _, n, _, h1⟩ := (show ObjOk X.prog X.w H s.heap a (.frz ob (.lst xs)) from I.hok a _ ea)
  exact PySem.W.kia_one PySem.W.kitx_list I.kIn ⟨_, h1, rfl⟩ e (fun z => nomatch z) h
 | @tup a xs ea =>
  cases (show u = Value.ref a from rx)
  obtain ⟨_, _, _, p⟩ := (show ObjOk X.prog X.w H s.heap a (.tup xs) from I.hok a _ ea)
  obtain ⟨o, h1, h2, _⟩ := p
  exact PySem.W.kia_one PySem.W.kitx_tuple I.kIn ⟨o, h1, h2⟩ e (fun z => nomatch z) h
 | @dK a kvs ea =>
  cases (show u = Value.ref a from rx)
  obtain ⟨_, _, vs, _, p⟩ := (show ObjOk X.prog X.w H s.heap a (.dK kvs) from I.hok a _ ea)
  obtain ⟨o, es, ep, h1, h2, _⟩ := p
  exact PySem.W.kia_one PySem.W.kitx_dict I.kIn ⟨o, h1, h2.1⟩ e (fun z => nomatch z) h
 | @dT a kvs ea =>
  cases (show u = Value.ref a from rx)
  obtain ⟨_, _, xs, _, o, es, ep, h1, h2, _⟩ := (show ObjOk X.prog X.w H s.heap a (.dT kvs) from I.hok a _ ea)
  exact PySem.W.kia_one PySem.W.kitx_dict I.kIn ⟨o, h1, h2.1⟩ e (fun z => nomatch z) h
 | @ins a C dx fs ea cl ha hn htk hm =>
  cases (show u = Value.ref a from rx)
  obtain ⟨mA, O, _⟩ := ins_get I.hok ea
  obtain ⟨od, J, _⟩ := O.look
  exact PySem.W.kia_one (PySem.W.kitx_own (cl.get _) cl.hd ha hn htk hm) I.kIn J e (fun z => nomatch z) h
end
structure Room (k : Nat) (A : Around) : Prop where
 hd : A.handled = none
 dp : A.depth + 3 * k + 5 < recursionLimit
 un : A.units + 16 * k + 200 < cLine
 gd : A.guards = some []
theorem Room.mono {j k : Nat} {A : Around} (r : Room k A) (h : j ≤ k) : Room j A := ⟨r.hd, by have := r.dp; omega, by have := r.un; omega, r.gd⟩
theorem Room.deeper {k : Nat} {A : Around} (r : Room (k + 1) A) (env : Env) : Room k (A.deeper env) :=
 ⟨r.hd, by have := r.dp; show A.depth + 1 + 3 * k + 5 < _; omega, by have := r.un; show A.units + 3 + 16 * k + 200 < _; omega, r.gd⟩
theorem Room.depth {k : Nat} {A : Around} (r : Room k A) : A.depth < recursionLimit := by have := r.dp; omega
theorem Room.units {k : Nat} {A : Around} (r : Room k A) : A.units + 64 < cLine := by have := r.un; omega
def tNil : TA := fun _ H Q => Q [] H
def tCons (ta : TE) (tr : TA) : TA := fun σ H Q => ta σ H fun x H1 => tr σ H1 fun xs H2 => Q (x :: xs) H2
section
variable {X : Cx} {e : Expr} {es : List Expr} {te : TE} {t : TA} {pos : Pos}
theorem pa_nil : PA X [] tNil := fun _ _ _ _ H Q I h => Calls.spliced_nil ⟨[], H, I, .nil, h⟩
theorem pa_cons (ha : PE X e te) (hr : PA X es t) (hs : starEach (e :: es) X.env = (false, eval e X.env) :: starEach es X.env := by rfl) : PA X (e :: es) (tCons te t) := by
 intro pos pins s σ H Q I h
 rw [hs]
 show wpAny _ _ (spliced ((false, eval e X.env) :: backTo pos (starEach es X.env))) _ _ s
 refine Calls.spliced_cons (thn (ha pins s σ H _ I h) fun u s1 ⟨x, H1, I1, r1, q1⟩ => ?_)
 exact thn (hr pos pins s1 σ H1 _ I1 q1) fun us s2 ⟨xs, H2, I2, r2, q2⟩ => ⟨x :: xs, H2, I2, .cons r1 r2, q2⟩
def tTup (t : TA) : TE := fun σ H Q => t σ H fun xs H1 => xs.length ≤ sizeLine ∧ ∀ p, H1 p = none → Q (.ref p) (upd H1 p (.tup xs))
def tLst (t : TA) : TE := fun σ H Q => t σ H fun xs H1 => xs.length ≤ sizeLine ∧ ∀ p, H1 p = none → Q (.ref p) (upd H1 p (.lst xs))
theorem pe_tup {x1} (h : PA X es t) : PE X (.Tuple es x1 pos) (tTup t) := by
 intro pins s σ H Q I hq
 refine wpAny_Tuple_spliced (thn (h pos pins s σ H _ I hq) fun us s1 ⟨xs, H1, I1, r, z, q⟩ => ⟨by rw [← r.length]; exact z, ?_⟩)
 have hf : H1 s1.heap.objs.size = none := I1.hok.fresh (Nat.le_refl _)
 refine ⟨.ref s1.heap.objs.size, upd H1 s1.heap.objs.size (.tup xs), I1.laid (t' := s1.toks) (fun b u e => Heap.get?_push_of_some _ e) (Nat.le_refl _) ?_, rfl, q _ hf⟩
 exact ⟨z, us, r, ⟨_, Heap.get?_push_size _ rfl, rfl, _, rfl⟩⟩
theorem pe_lst (h : PA X es t) : PE X (.List es pos) (tLst t) := by
 intro pins s σ H Q I hq
 refine wpAny_List_spliced (thn (h pos pins s σ H _ I hq) fun us s1 ⟨xs, H1, I1, r, z, q⟩ => ⟨by rw [← r.length]; exact z, ?_⟩)
 have hf : H1 s1.heap.objs.size = none := I1.hok.fresh (Nat.le_refl _)
 refine ⟨.ref s1.heap.objs.size, upd H1 s1.heap.objs.size (.lst xs), I1.laid (t' := s1.toks) (fun b u e => Heap.get?_push_of_some _ e) (Nat.le_refl _) ?_, rfl, q _ hf⟩
 exact ⟨z, us, 0, r, Heap.get?_push_size _ rfl⟩
end
abbrev Sp := List V → Hp → VK → XK → Prop
abbrev CXT := List Env → Hp → Shared → XK → Value → Shared → Prop
structure Env0 (P : Program) (w : World) (K : PySem.W.Frag) (mg : Str → Option Value) (base : Heap) (A : Around) (outer : List Env) (s : Shared) (H : Hp) : Prop where
 frames : A.frames = some outer
 mod : Mod K mg base
 bs : ∀ b o, base.get? b = some o → s.heap.get? b = some o ∧ H b = none
 bsz : base.objs.size ≤ s.heap.objs.size
 funs : s.heap.FunFrames base outer
 frf : ∀ b ∈ frs outer, H b = none
 hok : HOk P w H s.heap
 bare : AllBare s.gens
def CE (outer : List Env) (P : Program) (w : World) (H : Hp) (s : Shared) (Q : VK) (u : Value) (s' : Shared) : Prop :=
 ∃ v H', s'.os = s.os ∧ AllBare s'.gens ∧ Un (frs outer) [] H H' s.heap s'.heap ∧ HOk P w H' s'.heap ∧ RelV v u ∧ Q v H'
def CR (CX : CXT) (outer : List Env) (P : Program) (w : World) (H : Hp) (s : Shared) (Q : VK) (E : XK) (r : Result) (s' : Shared) : Prop :=
 match r with
 | .ok (.ret u) => CE outer P w H s Q u s'
 | .ok _ => False
 | .error e => CX outer H s E e s'
structure FnOk (P : Program) (w : World) (K : PySem.W.Frag) (mg : Str → Option Value) (base : Heap) (CX : CXT) (k : Nat) (f : Addr) (fd : FuncData) (ps : List Str) (sp : Sp) : Prop where
 len : ∀ vs H Q E, sp vs H Q E → vs.length = ps.length
 run : ∀ (A : Around) (outer : List Env) (s : Shared) (H : Hp) (args : Args) (us : List Value) (vs : List V) (Q : VK) (E : XK), Room k A → Env0 P w K mg base A outer s H → BindsTo s fd args (ps.zip us) → Vals vs us → sp vs H Q E →
  codeAny (model P w) A (.call (.ref f) args) (CR CX outer P w H s Q E) s
section
variable {X : Cx} {pins : List (Addr × Obj)} {σ : St} {H : Hp} {s s' : Shared}
theorem Inv.env0 (I : Inv X pins σ H s) : Env0 X.prog X.w X.K X.mg X.base X.A X.stack s H :=
 ⟨I.ok.frames, I.ok.mod, I.bs, Nat.le_trans I.ok.bsz I.sz, I.stack, I.stkFree, I.hok, I.bare⟩
theorem Inv.after {Q : VK} {u : Value} (I : Inv X pins σ H s) (h : CE X.stack X.prog X.w H s Q u s') : EP X pins σ Q u s' := by
 obtain ⟨v, H', os, bare, un, hok, r, q⟩ := h
 obtain ⟨hh, g, d, t, os'⟩ := s'
 obtain rfl : os' = s.os := os
 exact ⟨v, H', I.call (h' := hh) (g' := g) (d' := d) (t' := t) (ch := []) un hok bare (fun b z => absurd z (by simp)), r, q⟩
end
def tCall (sp : Sp) (dvs : List V) (E : XK) (t : TA) : TE := fun σ H Q => t σ H fun vs H1 => sp (vs ++ dvs) H1 Q E
def Binds (K : PySem.W.Frag) (fd : FuncData) (ps : List Str) (ds : List Value) : Prop :=
 ∀ (s : Shared) (us : List Value), K.In s.heap → (us ++ ds).length = ps.length → BindsTo s fd ⟨us, []⟩ (ps.zip (us ++ ds))
theorem Binds.all {K : PySem.W.Frag} {fd : FuncData} {ps : List Str} (h : ∀ us : List Value, us.length = ps.length → bindArgs fd ⟨us, []⟩ = pure (ps.zip us)) : Binds K fd ps [] := fun s us _ hl => by
 rw [List.append_nil] at hl ⊢
 exact .of_eq (h us hl)
def Passes (CX : CXT) (X : Cx) (E : XK) : Prop := ∀ (pins : List (Addr × Obj)) (σ : St) (H : Hp) (s : Shared) (e : Value) (s' : Shared), Inv X pins σ H s → CX X.stack H s E e s' → X.xe e s'
section
variable {X : Cx} {CX : CXT} {k : Nat} {f C : Addr} {fd : FuncData} {ps : List Str} {sp : Sp} {dvs : List V} {ds : List Value} {E : XK} {x m : Str} {p pos apos : Pos} {e o : Expr} {es : List Expr} {ta : TE} {t : TA}
theorem run_fn {pins : List (Addr × Obj)} {σ : St} {H : Hp} {s : Shared} {Q : VK} {us : List Value} {vs : List V} (F : FnOk X.prog X.w X.K X.mg X.base CX k f fd ps sp) (hr : Room k X.A) (hb : Binds X.K fd ps ds) (hd : Vals dvs ds) (hx : Passes CX X E)
  (I : Inv X pins σ H s) (r : Vals vs us) (h : sp (vs ++ dvs) H Q E) : wpAny (model X.prog X.w) X.A (call (.ref f) us) (EP X pins σ Q) X.xe s := by
 have r2 : Vals (vs ++ dvs) (us ++ ds) := r.append hd
 have hl : (us ++ ds).length = ps.length := by rw [← r2.length]; exact F.len _ _ _ _ h
 refine wpAny_call (codeAny_mono (F.run X.A X.stack s H ⟨us, []⟩ (us ++ ds) (vs ++ dvs) Q E hr I.env0 (hb s us I.kIn hl) r2 h) fun r s' hq => ?_)
 cases r with
 | error e => exact hx pins σ H s e s' I hq
 | ok fl =>
  cases fl with
  | ret u => exact I.after hq
  | next => exact False.elim hq
  | brk => exact False.elim hq
  | cont => exact False.elim hq
theorem pe_call (F : FnOk X.prog X.w X.K X.mg X.base CX k f fd ps sp) (hr : Room k X.A) (hg : Gl X x) (hm : X.mg x = some (.ref f)) (hk : PySem.W.keepIn X.K (.ref f) = true) (hb : Binds X.K fd ps ds) (hd : Vals dvs ds) (hx : Passes CX X E)
  (ha : PA X (e :: es) t) (hdb : (x == ("__debug__" : Str)) = false := by decide) (he : starEach (e :: es) X.env = (false, eval e X.env) :: starEach es X.env := by rfl) (hpl : (backTo pos (starEach es X.env)).any (·.1) = false := by rfl) :
  PE X (.Call (.Name x p) (e :: es) [] pos) (tCall sp dvs E t) := by
 intro pins s σ H Q I h
 refine wpAny_Call_Name_kw (ld_glob I hg hm ?_ hdb)
 refine PySem.W.callWith_K (h₀ := X.base) I.ok.mod.kin hk (thn (ha pos pins s σ H _ I h) fun us s1 ⟨vs, H1, I1, r, q⟩ => ⟨I1.kIn, ?_⟩) he hpl
 exact run_fn F hr hb hd hx I1 r q
end
section
variable {X : Cx} {CX : CXT} {k : Nat} {f C : Addr} {fd : FuncData} {ps ks : List Str} {sp : Sp} {E : XK} {x m : Str} {p pos apos kpos : Pos} {e o : Expr} {es : List Expr} {kws : List Keyword} {te ta : TE} {t tk : TA} {nm : Option Str}
variable {g : List Value → List Value → List Value} {gV : List V → List V → List V}
end
structure FnScope (N P : List Str) (sc : Scope) : Prop where
 kind : sc.kind = .function
 co : sc.isCoroutine = false
 gen : sc.isGenerator = false
 nd : N.Nodup
 pre : N.take P.length = P
 par : ∀ x ∈ P, sc.names.lookup x = some .local ∨ sc.names.lookup x = some .cell
 nofree : ∀ y ∈ sc.names, y.2 ≠ .free
theorem FS {N P : List Str} {sc : Scope} (a : sc.kind = .function := by rfl) (b : sc.isCoroutine = false := by rfl) (c : sc.isGenerator = false := by rfl) (d : N.Nodup := by decide +kernel) (e : N.take P.length = P := by rfl) (f : ∀ x ∈ P, sc.names.lookup x = some .local ∨ sc.names.lookup x = some .cell := by decide +kernel) (g : ∀ y ∈ sc.names, y.2 ≠ .free := by decide +kernel) : FnScope N P sc := ⟨a, b, c, d, e, f, g⟩
theorem bd1 {α : Type} {f g : List Value → α} (h : ∀ a, f [a] = g [a]) (us : List Value) (l : us.length = 1) : f us = g us := by
  cases us with
  | nil => cases l
  | cons a r => cases r with
    | nil => exact h a
    | cons b r => simp at l
theorem bd2 {α : Type} {f g : List Value → α} (h : ∀ a b, f [a, b] = g [a, b]) (us : List Value) (l : us.length = 2) : f us = g us := by
  cases us with
  | nil => cases l
  | cons a r => exact bd1 (f := fun r => f (a :: r)) (g := fun r => g (a :: r)) (h a) r (Nat.succ.inj l)
theorem bd3 {α : Type} {f g : List Value → α} (h : ∀ a b c, f [a, b, c] = g [a, b, c]) (us : List Value) (l : us.length = 3) : f us = g us := by
  cases us with
  | nil => cases l
  | cons a r => exact bd2 (f := fun r => f (a :: r)) (g := fun r => g (a :: r)) (h a) r (Nat.succ.inj l)
theorem bd4 {α : Type} {f g : List Value → α} (h : ∀ a b c d, f [a, b, c, d] = g [a, b, c, d]) (us : List Value) (l : us.length = 4) : f us = g us := by
  cases us with
  | nil => cases l
  | cons a r => exact bd3 (f := fun r => f (a :: r)) (g := fun r => g (a :: r)) (h a) r (Nat.succ.inj l)
theorem bindL_out {kindOf : Str → Option NameKind} {x : Str} : ∀ {binds : List (Str × Value)} {m : Str → Option Value}, (∀ v, (x, v) ∉ binds) → bindL kindOf binds m x = m x
 | [], _, _ => rfl
 | (n, v) :: r, m, h => by
  unfold bindL
  rw [bindL_out fun w hw => h w (List.mem_cons_of_mem _ hw)]
  split
  ·have : x ≠ n := by rintro rfl; exact h v List.mem_cons_self
   simp [this]
  ·rfl
theorem bindC_out {kindOf : Str → Option NameKind} {x : Str} : ∀ {binds : List (Str × Value)} {m : Str → Option Value}, (∀ v, (x, v) ∉ binds) → bindC kindOf binds m x = m x
 | [], _, _ => rfl
 | (n, v) :: r, m, h => by
  unfold bindC
  rw [bindC_out fun w hw => h w (List.mem_cons_of_mem _ hw)]
  split
  ·rfl
  ·have : x ≠ n := by rintro rfl; exact h v List.mem_cons_self
   simp [this]
theorem bindL_get {kindOf : Str → Option NameKind} {x : Str} {v : Value} : ∀ {P : List Str} {vs : List Value} {i : Nat} {m : Str → Option Value}, P.Nodup → P[i]? = some x → vs[i]? = some v → kindOf x = some .local →
  bindL kindOf (P.zip vs) m x = some v
 | [], _, _, _, _, h, _, _ => by simp at h
 | _ :: _, [], _, _, _, _, h, _ => by simp at h
 | p :: P, w :: vs, 0, m, nd, h1, h2, hk => by
  simp at h1 h2; subst h1; subst h2
  show bindL kindOf ((p, w) :: P.zip vs) m p = _
  unfold bindL
  rw [bindL_out fun v hv => (List.nodup_cons.mp nd).1 (List.of_mem_zip hv).1, if_pos hk]
  simp
 | p :: P, w :: vs, i + 1, m, nd, h1, h2, hk => by
  show bindL kindOf ((p, w) :: P.zip vs) m x = _
  unfold bindL
  exact bindL_get (i := i) (List.nodup_cons.mp nd).2 (by simpa using h1) (by simpa using h2) hk
theorem bindC_get {kindOf : Str → Option NameKind} {x : Str} {v : Value} : ∀ {P : List Str} {vs : List Value} {i : Nat} {m : Str → Option Value}, P.Nodup → P[i]? = some x → vs[i]? = some v → kindOf x ≠ some .local →
  bindC kindOf (P.zip vs) m x = some v
 | [], _, _, _, _, h, _, _ => by simp at h
 | _ :: _, [], _, _, _, _, h, _ => by simp at h
 | p :: P, w :: vs, 0, m, nd, h1, h2, hk => by
  simp at h1 h2; subst h1; subst h2
  show bindC kindOf ((p, w) :: P.zip vs) m p = _
  unfold bindC
  rw [bindC_out fun v hv => (List.nodup_cons.mp nd).1 (List.of_mem_zip hv).1, if_neg hk]
  simp
 | p :: P, w :: vs, i + 1, m, nd, h1, h2, hk => by
  show bindC kindOf ((p, w) :: P.zip vs) m x = _
  unfold bindC
  exact bindC_get (i := i) (List.nodup_cons.mp nd).2 (by simpa using h1) (by simpa using h2) hk
def start (N : List Str) (vs : List V) : St := vs.map some ++ List.replicate (N.length - vs.length) none
def cxOf (CX : CXT) (P : Program) (w : World) (K : PySem.W.Frag) (mg : Str → Option Value) (base : Heap) (N : List Str) (qual : Str) (scope : Scope) (f : Addr) (cd : Value) (A : Around) (outer : List Env) (s : Shared) (H : Hp) (E : XK) : Cx where
 prog := P
 w := w
 K := K
 mg := mg
 base := base
 A := A.deeper (envOfC qual scope s.heap.objs.size f cd)
 N := N
 s₀ := s
 H₀ := H
 env := envOfC qual scope s.heap.objs.size f cd
 outer := outer
 stack := envOfC qual scope s.heap.objs.size f cd :: outer
 ex := []
 calm := true
 fn := fun _ => true
 pn := []
 xe := fun e s' => wpAny (model P w) (A.deeper (envOfC qual scope s.heap.objs.size f cd)) (leaving (envOfC qual scope s.heap.objs.size f cd) e) (fun _ s'' => CX outer H s E e s'') (fun e' s'' => CX outer H s E e' s'') s'
theorem cell_has {sc : Scope} {n : Nat} {x : Str} (h : sc.names.lookup x = some .cell) : ∃ c, (cellsFrom n sc.names []).lookup x = some c := by
 have q := PySem.W.cellsFrom_some sc.names n [] (.inl h)
 exact Option.isSome_iff_exists.mp q
theorem inv_start {CX : CXT} {P : Program} {w : World} {K : PySem.W.Frag} {mg : Str → Option Value} {base : Heap} {N ps : List Str} {qual : Str} {scope : Scope} {f : Addr} {cd : Value} {A : Around} {outer : List Env} {s s1 : Shared} {H : Hp} {E : XK} {us : List Value} {vs : List V}
  (S : FnScope N ps scope) (hd : A.handled = none) (e0 : Env0 P w K mg base A outer s H) (hl : vs.length = ps.length) (r : Vals vs us)
  (x : InCallC s s.heap.objs.size (bindL (envOfC qual scope s.heap.objs.size f cd).kindOf (ps.zip us) fun _ => none) (cellsFrom (s.heap.objs.size + 1) scope.names []) (bindC (envOfC qual scope s.heap.objs.size f cd).kindOf (ps.zip us) fun _ => none) s1) :
  Inv (cxOf CX P w K mg base N qual scope f cd A outer s H E) [] (start N vs) H s1 := by
 have hpl : ps.length ≤ N.length := by have := congrArg List.length S.pre; rw [List.length_take] at this; omega
 obtain ⟨h1, tk, rfl, hk⟩ := x.done
 have noA : ∀ b : Addr, b ∉ (cxOf CX P w K mg base N qual scope f cd A outer s H E).ex := fun b z => absurd (show b ∈ ([] : List Addr) from z) (by simp)
 refine ⟨⟨e0.mod, S.kind, rfl, rfl, Nat.le_refl _, fun y z c h1 h2 => ?_, fun y hy => ?_, fun y c _ h => ?_, fun _ => hd, Around.frames_deeper e0.frames, .inr ⟨rfl, rfl⟩, fun b z => absurd z (noA b), e0.bs, e0.bsz, fun b _ _ => noA b, fun b z => absurd z (noA b), e0.funs, e0.frf⟩,
  rfl, e0.bare, Un.kept hk, ⟨_, x.toInCall.ns, fun i y v h1 h2 h3 => ?_⟩, fun y c h => ⟨_, x.cell y c h⟩, e0.hok.fresh (Nat.le_refl _), fun y c h => ?_, fun p hp => absurd (show p ∈ ([] : List (Addr × Obj)) from hp) (by simp), e0.hok.kept hk, ?_⟩
 ·exact name_of_addr x.apart (PySem.mem_of_lookup h1) (PySem.mem_of_lookup h2)
 ·have hy : scope.names.lookup y = some .cell ∨ scope.names.lookup y = some .free := hy
  rcases hy with hy | hy
  ·exact cell_has hy
  ·exact absurd rfl (S.nofree _ (PySem.mem_of_lookup hy))
 ·exact Nat.le_of_lt (x.above y c (PySem.mem_of_lookup h))
 ·have hi : i < vs.length := by
   unfold start at h2
   by_cases hi : i < vs.length
   ·exact hi
   ·rw [List.getElem?_append_right (by simpa using hi)] at h2
    rw [List.getElem?_replicate] at h2
    split at h2 <;> cases h2
  have ha : vs[i]? = some v := by
   unfold start at h2
   rw [List.getElem?_append_left (by simpa using hi), List.getElem?_map] at h2
   cases e : vs[i]? with
   | none => rw [e] at h2; cases h2
   | some a => rw [e] at h2; cases h2; rfl
  obtain ⟨u, hu, rv⟩ := r.get ha
  have hp : ps[i]? = some y := by
   rw [← S.pre, List.getElem?_take_of_lt (by omega)]; exact h1
  have ndP : ps.Nodup := by rw [← S.pre]; exact S.nd.sublist (List.take_sublist _ _)
  refine ⟨u, rv, ?_⟩
  rcases S.par y (List.mem_of_getElem? hp) with k | k
  ·exact .inl ⟨k, bindL_get ndP hp hu k⟩
  ·obtain ⟨c, e⟩ := cell_has (n := s.heap.objs.size + 1) k
   refine .inr ⟨.inl k, c, e, ?_⟩
   have q := x.cell y c e
   rw [bindC_get ndP hp hu (by show scope.names.lookup y ≠ _; rw [k]; decide)] at q
   exact q
 ·exact e0.hok.fresh (Nat.le_of_lt (x.above y c (PySem.mem_of_lookup h)))
 ·unfold start
  show _ = N.length
  rw [List.length_append, List.length_map, List.length_replicate]
  omega
theorem fn_of {CX : CXT} {P : Program} {w : World} {K : PySem.W.Frag} {mg : Str → Option Value} {base : Heap} {k : Nat} {f : Addr} {name qual : Str} {params : Arguments} {body : List Stmt} {scope : Scope} {dV kV doc pm cdv ct oc : Value} {an od : Option Addr}
  {osl : Array (Option Value)} {N ps : List Str} {sp : Sp} (lk : K.lookup f = some ⟨oc, od, .func (PySem.W.fnOf name qual params body scope dV kV doc pm an cdv ct), osl⟩) (hcd : PySem.W.codeIn K cdv qual = true) (S : FnScope N ps scope)
  (len : ∀ vs H Q E, sp vs H Q E → vs.length = ps.length)
  (hbody : ∀ (A : Around) (outer : List Env) (s : Shared) (H : Hp) (vs : List V) (Q : VK) (E : XK), Room k (A.deeper (envOfC qual scope s.heap.objs.size f cdv)) → sp vs H Q E →
   ∃ t, PSs (cxOf CX P w K mg base N qual scope f cdv A outer s H E) body t ∧ t { nx := fun _ H' => Q .non H', rt := Q } (start N vs) H) :
  FnOk P w K mg base CX (k + 1) f (PySem.W.fnOf name qual params body scope dV kV doc pm an cdv ct) ps sp := by
 refine ⟨len, fun A outer s H args us vs Q E hr e0 hb r hsp => ?_⟩
 have hl := len _ _ _ _ hsp
 have KX : K.In s.heap := e0.mod.kin.keeps fun b o e => (e0.bs b o e).1
 have lim : s.heap.NoLimit := e0.mod.nolimit.keeps fun b o e => (e0.bs b o e).1
 have hkind : ∀ y ∈ ps.zip us, scope.names.lookup y.1 = some .local ∨ (scope.names.lookup y.1 = some .cell ∧ ((cellsFrom (s.heap.objs.size + 1) scope.names []).lookup y.1).isSome = true) := fun ⟨n, v⟩ hy => by
  rcases S.par n (List.of_mem_zip hy).1 with q | q
  ·exact .inl q
  ·exact .inr ⟨q, PySem.W.cellsFrom_some _ _ _ (.inl q)⟩
 refine codeAny_call_function hr.depth (KX _ _ lk) rfl S.co S.gen rfl (PySem.W.codeRec_of KX hcd) (hb _ _ _ _ ?_)
 refine wpAny_newFunctionEnv_cells S.kind hkind fun env he s1 x => ?_
 subst he
 refine ⟨lim.keeps x.toInCall.keep, codeAny_func ?_⟩
 obtain ⟨t, ht, hq⟩ := hbody A outer s H vs Q E (hr.deeper _) hsp
 have I : Inv (cxOf CX P w K mg base N qual scope f cdv A outer s H E) [] (start N vs) H s1 := inv_start S hr.hd e0 hl r x
 refine wpAny_mono (ht [] s1 (start N vs) H _ I hq) (fun fl s' hs => ?_) fun e s' hs => hs
 have fin : ∀ {σ' : St} {H' : Hp} {v : V} {u : Value}, Inv (cxOf CX P w K mg base N qual scope f cdv A outer s H E) [] σ' H' s' → RelV v u → Q v H' → CE outer P w H s Q u s' :=
  fun {σ' H' v u} J rv q => ⟨v, H', J.os, J.bare, J.base, J.hok, rv, q⟩
 cases fl with
 | ret u =>
  obtain ⟨v, σ', H', J, rv, q⟩ := hs
  exact fin J rv q
 | next =>
  obtain ⟨σ', H', J, q⟩ := hs
  exact fin (v := V.non) (u := Value.none) J rfl q
 | brk =>
  obtain ⟨_, _, _, q⟩ := hs
  exact False.elim q
 | cont =>
  obtain ⟨_, _, _, q⟩ := hs
  exact False.elim q
section
variable {X : Cx} {x : Str} {p pos : Pos} {e : Expr} {es : List Expr} {t : TA} {id T : String} {r : List V → Hp → VK → Prop}
def tCB (r : List V → Hp → VK → Prop) (t : TA) : TE := fun σ H Q => t σ H fun vs H1 => r vs H1 Q
theorem pe_callB (hc : CallR X (.builtin id) r) (hg : Gl X x) (hm : X.mg x = none) (hv : bootBuiltins x = some (.builtin id)) (ha : PA X (e :: es) t) (hn : x ≠ "__name__" := by decide) (hdb : (x == ("__debug__" : Str)) = false := by decide)
  (he : starEach (e :: es) X.env = (false, eval e X.env) :: starEach es X.env := by rfl) (hpl : (backTo pos (starEach es X.env)).any (·.1) = false := by rfl) : PE X (.Call (.Name x p) (e :: es) [] pos) (tCB r t) := by
 intro pins s σ H Q I h
 refine wpAny_Call_Name_kw (ld_blt I hg hm hv ?_ hn hdb)
 exact PyProof.Rows.callWith_builtin1 (thn (ha pos pins s σ H _ I h) fun us s1 ⟨vs, H1, I1, r1, q1⟩ => hc pins s1 σ H1 vs us Q I1 r1 q1) he hpl
theorem pe_callTy (hc : CallR X (.type T) r) (hg : Gl X x) (hm : X.mg x = none) (hv : bootBuiltins x = some (.type T)) (ha : PA X (e :: es) t) (hn : x ≠ "__name__" := by decide) (hdb : (x == ("__debug__" : Str)) = false := by decide)
  (he : starEach (e :: es) X.env = (false, eval e X.env) :: starEach es X.env := by rfl) (hpl : (backTo pos (starEach es X.env)).any (·.1) = false := by rfl) : PE X (.Call (.Name x p) (e :: es) [] pos) (tCB r t) := by
 intro pins s σ H Q I h
 refine wpAny_Call_Name_kw (ld_blt I hg hm hv ?_ hn hdb)
 exact PyProof.Rows.callWith_type1 (thn (ha pos pins s σ H _ I h) fun us s1 ⟨vs, H1, I1, r1, q1⟩ => hc pins s1 σ H1 vs us Q I1 r1 q1) he hpl
end
end L2
namespace HT
open PySem PyProof.Rows
section
open PySem.SeqAt
open PySem.AutoSeq1 (wpAny_loadPart')
open PySem.MeetsSeq PySem.MeetsSeq2 PySem.MeetsSeq3
end
section
variable {prog : Program} {w : World} {A : Around} {E : Value → Shared → Prop} {s : Shared}
def sIx (n d : Nat) : Option Int → Nat
 | none => d
 | some v => if v < 0 then (v + (n : Int)).toNat else min v.toNat n
theorem sIx_none (n d : Nat) : sIx n d none = d := rfl
theorem sIx_nat (n d k : Nat) : sIx n d (some (k : Int)) = min k n := by
 show (if (k : Int) < 0 then ((k : Int) + (n : Int)).toNat else min (k : Int).toNat n) = min k n
 rw [if_neg (by omega), Int.toNat_natCast]
end
end HT
namespace L2
open PySem PySem.Spec PyProof.Rows
abbrev TO := St → Hp → (Option Int → Hp → Prop) → Prop
def PO (X : Cx) (e : Option Expr) (t : TO) : Prop :=
 ∀ (pins : List (Addr × Obj)) (s : Shared) (σ : St) (H : Hp) (Q : Option Int → Hp → Prop), Inv X pins σ H s → t σ H Q →
  wpAny (model X.prog X.w) X.A (evalPart e X.env) (fun u s' => ∃ o H', Inv X pins σ H' s' ∧ IsPart u o ∧ Q o H') X.xe s
def tNoPart : TO := fun _ H Q => Q none H
def tPart (t : TE) : TO := fun σ H Q => t σ H fun x H1 => ∃ i, x = .int i ∧ Q (some i) H1
section
variable {X : Cx} {e : Expr} {te : TE} {lo hi : Option Expr} {tl th : TO} {pos p2 : Pos}
theorem po_none : PO X none tNoPart := by
 intro pins s σ H Q I h
 rw [evalPart_none]
 exact wpAny_pure ⟨none, H, I, .none, h⟩
theorem po_some (h : PE X e te) : PO X (some e) (tPart te) := by
 intro pins s σ H Q I hw
 rw [evalPart_some]
 refine thn (h pins s σ H _ I hw) fun u s1 ⟨x, H1, I1, r1, q1⟩ => ?_
 obtain ⟨i, rfl, q⟩ := q1
 obtain ⟨t, rfl⟩ := r1
 exact ⟨some i, H1, I1, .int i t, q⟩
def SlR (X : Cx) (r : V → Option Int → Option Int → Hp → VK → Prop) : Prop :=
 ∀ (pins : List (Addr × Obj)) (s : Shared) (σ : St) (H : Hp) (x : V) (v vl vu : Value) (lo hi : Option Int) (sl : Addr) (Q : VK), Inv X pins σ H s → RelV x v → s.heap.IsSliceOf sl vl vu .none → IsPart vl lo → IsPart vu hi → r x lo hi H Q →
  ∃ T id, typeLookup (.type T) "__getitem__" = pure (some (.builtin id)) ∧ s.TypeIs v T ∧ wpAny (model X.prog X.w) X.A (getItem v (.ref sl)) (EP X pins σ Q) X.xe s
def tSl (r : V → Option Int → Option Int → Hp → VK → Prop) (te : TE) (tl th : TO) : TE := fun σ H Q => te σ H fun x H1 => tl σ H1 fun l H2 => th σ H2 fun u H3 => r x l u H3 Q
theorem pe_slice {r : V → Option Int → Option Int → Hp → VK → Prop} (hr : SlR X r) (he : PE X e te) (hl : PO X lo tl) (hu : PO X hi th) : PE X (.Subscript e (.Slice lo hi none p2) pos) (tSl r te tl th) := by
 intro pins s σ H Q I h
 refine Subscript_ (thn (he pins s σ H _ I h) fun v s1 ⟨x, H1, I1, r1, q1⟩ => ?_)
 refine wpAny_Slice (thn (hl pins s1 σ H1 _ I1 q1) fun vl s2 ⟨l, H2, I2, pl, q2⟩ => thn (hu pins s2 σ H2 _ I2 q2) fun vu s3 ⟨u, H3, I3, pu, q3⟩ => ?_)
 rw [evalPart_none]
 refine wpAny_pure ?_
 have I4 : Inv X pins σ H3 { s3 with heap := s3.heap.push { cls := .type "slice", data := .fields #[vl, vu, .none] } } := I3.kept (t' := s3.toks) fun b ob q => Heap.get?_push_of_some _ q
 obtain ⟨T, id, hT, ht, hg⟩ := hr pins { s3 with heap := s3.heap.push { cls := .type "slice", data := .fields #[vl, vu, .none] } } σ H3 x v vl vu l u s3.heap.objs.size Q I4 r1 (Heap.IsSliceOf.new ..) pl pu q3
 show wpAny (model X.prog X.w) X.A (subscriptTail e (.Slice lo hi none p2) v (.ref s3.heap.objs.size)) (EP X pins σ Q) X.xe { s3 with heap := s3.heap.push { cls := .type "slice", data := .fields #[vl, vu, .none] } }
 exact tail_any (ops := [.ref s3.heap.objs.size, v]) ht hT hg (by with_unfolding_all rfl)
def cutV (xs : List V) (lo hi : Option Int) : List V := (xs.drop (HT.sIx xs.length 0 lo)).take (HT.sIx xs.length xs.length hi - HT.sIx xs.length 0 lo)
theorem cutV_length (xs : List V) (lo hi : Option Int) : (cutV xs lo hi).length ≤ xs.length := by
 unfold cutV
 rw [List.length_take, List.length_drop]
 omega
end
def ixN (n : Nat) (i : Int) : Option Nat := if 0 ≤ i then (if i < n then some i.toNat else none) else if -(n : Int) ≤ i then some (i + n).toNat else none
def atI {α : Type} (xs : List α) (i : Int) : Option α := (ixN xs.length i).bind fun j => xs[j]?
theorem ixN_seq {n : Nat} {i : Int} {j : Nat} (h : ixN n i = some j) : seqIndex? i n = some j ∧ j < n ∧ -(n : Int) ≤ i ∧ i < n := by
 unfold ixN at h
 by_cases h0 : 0 ≤ i
 ·rw [if_pos h0] at h
  by_cases h1 : i < n
  ·rw [if_pos h1] at h
   have e : i.toNat = j := Option.some.inj h
   exact ⟨by rw [seqIndex_of h0 h1, e], by omega, by omega, h1⟩
  ·rw [if_neg h1] at h; cases h
 ·rw [if_neg h0] at h
  by_cases h1 : -(n : Int) ≤ i
  ·rw [if_pos h1] at h
   have e : (i + n).toNat = j := Option.some.inj h
   exact ⟨by rw [seqIndex_neg (by omega) h1, e], by omega, h1, by omega⟩
  ·rw [if_neg h1] at h; cases h
theorem atI_get {α : Type} {xs : List α} {i : Int} {v : α} (h : atI xs i = some v) : ∃ j, seqIndex? i xs.length = some j ∧ xs[j]? = some v ∧ j < xs.length ∧ -(xs.length : Int) ≤ i ∧ i < xs.length := by
 unfold atI at h
 cases e : ixN xs.length i with
 | none => rw [e] at h; cases h
 | some j =>
  rw [e] at h
  obtain ⟨h1, h2, h3, h4⟩ := ixN_seq e
  exact ⟨j, h1, h, h2, h3, h4⟩
theorem atI_nat {α : Type} {xs : List α} {j : Nat} {v : α} (h : xs[j]? = some v) : atI xs (j : Int) = some v := by
 have hj : j < xs.length := (List.getElem?_eq_some_iff.mp h).1
 have e : ixN xs.length (j : Int) = some j := by
  unfold ixN
  rw [if_pos (by omega), if_pos (by omega)]; simp
 unfold atI; rw [e]; exact h
def PlainIx (b : Expr) : Prop := ∀ o i, subscripted b false o i = operate [o, i] (getItem o i)
def IxR (X : Cx) (r : R2) : Prop :=
 ∀ (value slice : Expr) (pins : List (Addr × Obj)) (s : Shared) (σ : St) (H : Hp) (x y : V) (v u : Value) (Q : VK), Inv X pins σ H s → RelV x v → RelV y u → r x y H Q →
  subscripted slice false v u = operate [v, u] (getItem v u) → wpAny (model X.prog X.w) X.A (subscriptTail value slice v u) (EP X pins σ Q) X.xe s
def MtR (X : Cx) (id : String) (r : V → List V → Hp → VK → Prop) : Prop :=
 ∀ (pins : List (Addr × Obj)) (s : Shared) (σ : St) (H : Hp) (x : V) (xs : List V) (v : Value) (us : List Value) (Q : VK), Inv X pins σ H s → RelV x v → Vals xs us → r x xs H Q →
  wpAny (model X.prog X.w) X.A (call (.builtin id) (v :: us)) (EP X pins σ Q) X.xe s
section
variable {X : Cx} {a b : Expr} {ta tb : TE} {pos : Pos}
theorem pe_ix {r : R2} (hr : IxR X r) (ha : PE X a ta) (hb : PE X b tb) (hs : PlainIx b) : PE X (.Subscript a b pos) (tOp r ta tb) := by
 intro pins s σ H Q I h
 exact Subscript_ (binT ha hb I h fun v u s2 x y H2 I2 rx ry q => hr a b pins s2 σ H2 x y v u Q I2 rx ry q (hs _ _))
def rIxL (K : PySem.W.Frag) : R2 := fun x y H Q => ∃ p xs i v, x = .ref p ∧ y = .int i ∧ SqL K H p xs ∧ atI xs i = some v ∧ Q v H
def rIxT (K : PySem.W.Frag) : R2 := fun x y H Q => ∃ p xs i v, x = .ref p ∧ y = .int i ∧ SqT K H p xs ∧ atI xs i = some v ∧ Q v H
theorem ix_list : IxR X (rIxL X.K) := by
 intro value slice pins s σ H x y v u Q I rx ry h hs
 obtain ⟨p, xs, i, z, rfl, rfl, hq, he, q⟩ := h
 cases rx
 obtain ⟨t, rfl⟩ := ry
 obtain ⟨its, r, pl, hz⟩ := I.list hq
 obtain ⟨j, h1, h2, h3, h4, h5⟩ := atI_get he
 obtain ⟨w, ew, rw'⟩ := r.get h2
 have hl := r.length
 have hn := line63
 have fin : EP X pins σ Q w s := ⟨z, H, I, rw', q⟩
 by_cases h0 : 0 ≤ i
 ·have hj : i.toNat = j := by
   rw [seqIndex_of h0 h5] at h1
   exact Option.some.inj h1
  exact item_listR pl.isList h0 (by omega) (by rw [hj]; simpa using ew) fin hs
 ·have hj : (i + (its.toArray.size : Int)).toNat = j := by
   rw [seqIndex_neg (by omega) h4] at h1
   rw [List.size_toArray, ← hl]
   exact Option.some.inj h1
  exact subscriptTail_builtinR (x := w) pl.isList.typeIs slot_list_getitem.lookup
   (wpAny_getItem_list_neg (Q := fun r s' => r = w ∧ EP X pins σ Q r s') pl.isList (by omega) (by rw [List.size_toArray] <;> omega) (by omega) (by rw [hj]; simpa using ew) ⟨rfl, fin⟩) hs
theorem ix_tup : IxR X (rIxT X.K) := by
 intro value slice pins s σ H x y v u Q I rx ry h hs
 obtain ⟨p, xs, i, z, rfl, rfl, hq, he, q⟩ := h
 cases rx
 obtain ⟨t, rfl⟩ := ry
 obtain ⟨its, r, pl, hz⟩ := I.tuple hq
 obtain ⟨j, h1, h2, h3, h4, h5⟩ := atI_get he
 obtain ⟨w, ew, rw'⟩ := r.get h2
 have hl := r.length
 have hn := line63
 have fin : EP X pins σ Q w s := ⟨z, H, I, rw', q⟩
 exact subscriptTail_builtinR (x := w) pl.typeIs slot_tuple_getitem.lookup
  (getItem_tuple (j := j) (Q := fun r s' => r = w ∧ EP X pins σ Q r s') pl (by omega) (by omega) (by rw [List.size_toArray, ← hl]; exact h1) (by simpa using ew) ⟨rfl, fin⟩) hs
theorem mapSeq_set (its : List Value) (n j : Nat) (u : Value) : Obj.mapSeq (·.setIfInBounds j u) { cls := .type "list", data := .seq its.toArray n } = { cls := .type "list", data := .seq (its.set j u).toArray n } := by
 simp [Obj.mapSeq]
theorem Inv.lst {pins : List (Addr × Obj)} {σ : St} {H : Hp} {s : Shared} {p : Addr} {xs : List V} (I : Inv X pins σ H s) (h : H p = some (.lst xs)) :
  ∃ (its : List Value) (n : Nat), Vals xs its ∧ s.heap.get? p = some { cls := .type "list", data := .seq its.toArray n } ∧ xs.length ≤ sizeLine := by
 obtain ⟨z, its, n, r, e⟩ := I.hok p _ h
 exact ⟨its, n, r, e, z⟩
theorem Inv.lstUpd {pins : List (Addr × Obj)} {σ : St} {H : Hp} {s : Shared} {p : Addr} {xs ys : List V} {its its' : List Value} {n n' : Nat} {f : Obj → Obj} (I : Inv X pins σ H s) (h : H p = some (.lst xs))
  (ho : s.heap.get? p = some { cls := .type "list", data := .seq its.toArray n }) (hf : f { cls := .type "list", data := .seq its.toArray n } = { cls := .type "list", data := .seq its'.toArray n' }) (r : Vals ys its') (hz : ys.length ≤ sizeLine) (t : Nat) :
  Inv X pins σ (upd H p (.lst ys)) { s with heap := s.heap.update p f, toks := t } := by
 have e : (s.heap.update p f).get? p = some { cls := .type "list", data := .seq its'.toArray n' } := by
  rw [Heap.get?_update_self f ho (by rw [hf] <;> rfl), hf]
 refine I.write (x := p) (e := p) (by rw [h]; trivial) (.inl rfl) (fun b u hb q => (Heap.get?_update_other _ _ (Ne.symm hb)).trans q) ⟨_, e⟩ ?_
 exact ⟨hz, its', n', r, e⟩
def rSetL : V → V → V → Hp → (Hp → Prop) → Prop := fun o i v H Q => ∃ p xs k j, o = .ref p ∧ i = .int k ∧ H p = some (.lst xs) ∧ ixN xs.length k = some j ∧ Q (upd H p (.lst (xs.set j v)))
theorem set_list : PSet X rSetL := by
 intro pins s σ H o i v ov iv u Q I ro ri rv h
 obtain ⟨p, xs, k, j, rfl, rfl, hp, hj, q⟩ := h
 cases ro
 obtain ⟨t, rfl⟩ := ri
 obtain ⟨its, n, r, ho, hz⟩ := I.lst hp
 obtain ⟨h1, h2, h3, h4⟩ := ixN_seq hj
 have hl := r.length
 have hn := line63
 have I' : Inv X pins σ (upd H p (.lst (xs.set j v))) { s with heap := s.heap.update p (Obj.mapSeq (·.setIfInBounds j u)) } :=
  I.lstUpd hp ho (mapSeq_set its n j u) (r.set rv j) (by rw [List.length_set]; exact hz) s.toks
 by_cases h0 : 0 ≤ k
 ·have hk : k.toNat = j := by
   rw [seqIndex_of h0 h4] at h1
   exact Option.some.inj h1
  exact PySem.W.ki_setAt ho h0 (by omega) (by rw [List.size_toArray, ← hl]; exact h4) (by rw [hk]; exact ⟨_, I', q⟩)
 ·have hk : (k + (its.toArray.size : Int)).toNat = j := by
   rw [seqIndex_neg (by omega) h3] at h1
   rw [List.size_toArray, ← hl]
   exact Option.some.inj h1
  exact PySem.W.ki_setBack ho (by omega) (by rw [List.size_toArray, ← hl]; exact h3) (by omega) (by rw [hk]; exact ⟨_, I', q⟩)
theorem slice_bounds (lo hi : Option Int) (n : Nat) : (sliceBounds lo hi none n).1 = ((HT.sIx n 0 lo : Nat) : Int) ∧ (sliceBounds lo hi none n).2.1 = ((HT.sIx n n hi : Nat) : Int) ∧ (sliceBounds lo hi none n).2.2 = 1 := by
 refine ⟨?_, ?_, rfl⟩
 ·cases lo with
  | none => simp [sliceBounds, HT.sIx]
  | some i =>
   simp only [sliceBounds, HT.sIx, Option.getD_none, show (1 : Int) > 0 by decide, if_true]
   by_cases h : i < 0
   ·simp only [h, if_true] <;> omega
   ·simp only [h, if_false] <;> omega
 ·cases hi with
  | none => simp [sliceBounds, HT.sIx]
  | some i =>
   simp only [sliceBounds, HT.sIx, Option.getD_none, show (1 : Int) > 0 by decide, if_true]
   by_cases h : i < 0
   ·simp only [h, if_true] <;> omega
   ·simp only [h, if_false] <;> omega
theorem slicePick_cut (its : List Value) (lo hi : Option Int) : slicePick its.toArray lo hi none = ((its.drop (HT.sIx its.length 0 lo)).take (HT.sIx its.length its.length hi - HT.sIx its.length 0 lo)).toArray := by
 obtain ⟨h1, h2, h3⟩ := slice_bounds lo hi its.toArray.size
 unfold slicePick
 rw [h1, h2, h3]
 simp only [sliceRange_one, pick_run, List.size_toArray] <;> rfl
def rSlL (K : PySem.W.Frag) : V → Option Int → Option Int → Hp → VK → Prop := fun x lo hi H Q => ∃ a xs, x = .ref a ∧ SqL K H a xs ∧ ∀ p, H p = none → Q (.ref p) (upd H p (.lst (cutV xs lo hi)))
theorem sl_list : SlR X (rSlL X.K) := by
 intro pins s σ H x v vl vu lo hi sl Q I rx hs pl pu h
 obtain ⟨a, xs, rfl, hx, q⟩ := h
 cases rx
 obtain ⟨its, r, ht, hz⟩ := I.list hx
 have hlen := r.length
 refine ⟨"list", _, slot_list_getitem.lookup, ht.isList.typeIs, ?_⟩
 refine wpAny_getItem_list_slice ht.isList hs pl pu .none (by simp) ?_ (by rw [List.size_toArray] <;> omega)
 rw [slicePick_cut, ← hlen]
 refine ⟨.ref s.heap.objs.size, _, I.laid (t' := s.toks) (o := .lst (cutV xs lo hi)) (fun b ob q => Heap.get?_push_of_some _ q) (Nat.le_refl _) ?_, rfl, q _ (I.hok.fresh (Nat.le_refl _))⟩
 exact ⟨Nat.le_trans (cutV_length xs lo hi) hz, _, 0, (r.drop (HT.sIx xs.length 0 lo)).take (HT.sIx xs.length xs.length hi - HT.sIx xs.length 0 lo), Heap.get?_push_size _ rfl⟩
theorem call_len_seq : CallR X (.builtin "len") (fun xs H Q => ∃ p ys, xs = [.ref p] ∧ (SqL X.K H p ys ∨ SqT X.K H p ys) ∧ Q (.int ys.length) H) := by
 intro pins s σ H xs us Q I r h
 obtain ⟨p, ys, rfl, hq, q⟩ := h
 obtain ⟨u, rfl, rx⟩ := vals1 r
 cases rx
 have hn := line63
 rcases hq with hq | hq
 ·obtain ⟨its, r', pl, hz⟩ := I.list hq
  have hlen := r'.length
  exact Calls.call_len_list pl.isList (by simp only [List.size_toArray] <;> omega) ⟨.int ys.length, H, I.tok _, ⟨s.toks + 1, by rw [List.size_toArray, hlen]⟩, q⟩
 ·obtain ⟨its, r', pl, hz⟩ := I.tuple hq
  have hlen := r'.length
  exact len_tuple pl (by simp only [List.size_toArray] <;> omega) ⟨.int ys.length, H, I.tok _, ⟨s.toks + 1, by rw [List.size_toArray, hlen]⟩, q⟩
theorem call_list_of : CallR X (.type "list") (fun xs H Q => ∃ p ys, xs = [.ref p] ∧ (SqL X.K H p ys ∨ SqT X.K H p ys) ∧ ∀ l, H l = none → Q (.ref l) (upd H l (.lst ys))) := by
 intro pins s σ H xs us Q I r h
 obtain ⟨p, ys, rfl, hq, q⟩ := h
 obtain ⟨u, rfl, rx⟩ := vals1 r
 cases rx
 have fin : ∀ (its : List Value), Vals ys its → ys.length ≤ sizeLine → ∀ (h' : Heap) (c' : Nat), (∀ b o', s.heap.get? b = some o' → h'.get? b = some o') →
   h'.get? s.heap.objs.size = some { cls := .type "list", dict := none, data := .seq its.toArray c', slots := #[] } → EP X pins σ Q (.ref s.heap.objs.size) { s with heap := h' } := fun its r' hz h' c' kp e =>
  ⟨.ref s.heap.objs.size, _, I.laid (t' := s.toks) kp (Nat.le_refl _) (show ObjOk X.prog X.w _ h' _ (.lst ys) from ⟨hz, its, c', r', e⟩), rfl, q _ (I.hok.fresh (Nat.le_refl _))⟩
 rcases hq with hq | hq
 ·obtain ⟨its, r', pl, hz⟩ := I.list hq
  have hlen := r'.length
  obtain ⟨o, ho, hc, n, hd⟩ := pl.isList
  exact call_list_seq p (.inl rfl) ho hc hd (fun h' c' kp e => fin its r' hz h' c' kp e) (by simp only [List.size_toArray] <;> omega)
 ·obtain ⟨its, r', pl, hz⟩ := I.tuple hq
  have hlen := r'.length
  obtain ⟨o, ho, hc, n, hd⟩ := pl
  exact call_list_seq p (.inr rfl) ho hc hd (fun h' c' kp e => fin its r' hz h' c' kp e) (by simp only [List.size_toArray] <;> omega)
theorem call_tuple_of : CallR X (.type "tuple") (fun xs H Q => ∃ p ys, xs = [.ref p] ∧ ((SqL X.K H p ys ∧ ∀ l, H l = none → Q (.ref l) (upd H l (.tup ys))) ∨ (SqT X.K H p ys ∧ Q (.ref p) H))) := by
 intro pins s σ H xs us Q I r h
 obtain ⟨p, ys, rfl, h⟩ := h
 obtain ⟨u, rfl, rx⟩ := vals1 r
 cases rx
 rcases h with ⟨hq, q⟩ | ⟨hq, q⟩
 ·obtain ⟨its, r', pl, hz⟩ := I.list hq
  have hlen := r'.length
  refine call_tuple_list pl.isList (fun h' kp => ?_) (by simp only [List.size_toArray] <;> omega)
  have I1 : Inv X pins σ H { s with heap := h' } := I.kept (t' := s.toks) kp
  have I2 : Inv X pins σ (upd H h'.objs.size (.tup ys)) { s with heap := h'.push { cls := .type "tuple", data := .seq its.toArray } } :=
   I1.laid (t' := s.toks) (fun b o e => Heap.get?_push_of_some _ e) (Nat.le_refl _) (show ObjOk X.prog X.w _ _ _ (.tup ys) from ⟨hz, its, r', IsTup.new _ _⟩)
  exact ⟨.ref h'.objs.size, _, I2, rfl, q _ (I1.hok.fresh (Nat.le_refl _))⟩
 ·obtain ⟨its, r', pl, hz⟩ := I.tuple hq
  exact call_tuple_same pl ⟨.ref p, H, I, rfl, q⟩
def tyV (K : PySem.W.Frag) (T : String) (x : V) (H : Hp) : Prop := match x with
 | .str _ => T = "str"
 | .int _ => T = "int"
 | .ref p => (T = "list" ∧ ∃ xs, SqL K H p xs) ∨ (T = "tuple" ∧ ∃ o, K.lookup p = some o ∧ o.cls = .type "tuple" ∧ o.dict = none) ∨
   (T = "dict" ∧ ((∃ kvs, H p = some (.dK kvs)) ∨ ∃ kvs, H p = some (.dT kvs))) ∨ (T = "set" ∧ ∃ S n, H p = some (.set S n))
 | _ => False
theorem tyV_is {pins : List (Addr × Obj)} {σ : St} {H : Hp} {s : Shared} {T : String} {x : V} {v : Value} (I : Inv X pins σ H s) (r : RelV x v) (ty : tyV X.K T x H) :
  s.TypeIs v T ∧ ∀ a, v = .ref a → ∃ ob, s.heap.get? a = some ob ∧ ob.dict = none := by
 cases x with
 | str z =>
  obtain ⟨t, rfl⟩ := r
  cases (show T = "str" from ty)
  exact ⟨typeIs_str s z t, fun _ e => nomatch e⟩
 | int i =>
  obtain ⟨t, rfl⟩ := r
  cases (show T = "int" from ty)
  exact ⟨typeIs_int s i t, fun _ e => nomatch e⟩
 | ref p =>
  cases r
  rcases ty with ⟨rfl, xs, hq⟩ | ⟨rfl, o, hk, hc, hd⟩ | ⟨rfl, hk⟩ | ⟨rfl, S, n, hk⟩
  ·obtain ⟨its, _, pl, _⟩ := I.list hq
   refine ⟨pl.isList.typeIs, fun a e => ?_⟩
   cases e
   obtain ⟨o, n, e, c, hd, _⟩ := pl
   exact ⟨o, e, hd⟩
  ·refine ⟨⟨o, I.kIn p o hk, hc⟩, fun a e => ?_⟩
   cases e
   exact ⟨o, I.kIn _ o hk, hd⟩
  ·have z : ∃ o, s.heap.get? p = some o ∧ o.ExactDict := by
    rcases hk with ⟨kvs, hk⟩ | ⟨kvs, hk⟩
    ·obtain ⟨_, _, _, _, o, _, _, e, ex, _⟩ := I.hok p _ hk
     exact ⟨o, e, ex⟩
    ·obtain ⟨_, _, _, _, o, _, _, e, ex, _⟩ := I.hok p _ hk
     exact ⟨o, e, ex⟩
   obtain ⟨o, e, ex⟩ := z
   refine ⟨⟨o, e, ex.1⟩, fun a e2 => ?_⟩
   cases e2
   exact ⟨o, e, ex.2.1⟩
  ·obtain ⟨o, _, _, _, e, ex, _⟩ := I.hok p _ hk
   refine ⟨⟨o, e, ex.1⟩, fun a e2 => ?_⟩
   cases e2
   exact ⟨o, e, ex.2.1⟩
 | _ => exact False.elim ty
def tBM0 (K : PySem.W.Frag) (T : String) (r : V → List V → Hp → VK → Prop) (to : TE) : TE := fun σ H Q => to σ H fun x H1 => tyV K T x H1 ∧ r x [] H1 Q
def tBM (K : PySem.W.Frag) (T : String) (r : V → List V → Hp → VK → Prop) (to : TE) (t : TA) : TE := fun σ H Q => to σ H fun x H1 => tyV K T x H1 ∧ t σ H1 fun xs H2 => r x xs H2 Q
variable {o e : Expr} {es : List Expr} {to : TE} {t : TA} {name : Str} {apos cpos : Pos} {T id : String} {r : V → List V → Hp → VK → Prop}
theorem pe_bm0 (pa : PlainAttrs T) (slot : Slot T name id) (hty : typeOf (.builtin id) = pure (.type "method_descriptor")) (hm : MtR X id r) (ho : PE X o to)
  (hbase : attributeBase o name X.env (eval o X.env) = eval o X.env := by rfl) (hline : (apos.endLine == cpos.line) = true := by rfl) : PE X (.Call (.Attribute o name apos) [] [] cpos) (tBM0 X.K T r to) := by
 intro pins s σ H Q I h
 refine wpAny_Call_method0_late hbase hline (thn (ho pins s σ H _ I h) fun v s1 ⟨x, H1, I1, r1, ty, q1⟩ => ?_)
 obtain ⟨h1, h2⟩ := tyV_is I1 r1 ty
 exact ⟨T, id, pa, slot, hty, h1, h2, Calls.callWith_builtin rfl (PySem.evalArgs_none (hm pins s1 σ H1 x [] v [] Q I1 r1 .nil q1))⟩
theorem pe_bm (pa : PlainAttrs T) (slot : Slot T name id) (hty : typeOf (.builtin id) = pure (.type "method_descriptor")) (hm : MtR X id r) (ho : PE X o to) (ha : PA X (e :: es) t)
  (hbase : attributeBase o name X.env (eval o X.env) = eval o X.env := by rfl)
  (hfew : ((backTo cpos (starEach (e :: es) X.env)).all (fun x => !x.1) && (backToKw cpos (keywordEach [] X.env)).all (fun x => x.1.isSome)
   && decide ((e :: es).length + ([] : List Keyword).length + (if ([] : List Keyword).isEmpty then 0 else 1) < 30)) = true := by rfl)
  (hline : (apos.endLine == cpos.line) = true := by rfl) (hs : starEach (e :: es) X.env = (false, eval e X.env) :: starEach es X.env := by rfl) (hplain : (backTo cpos (starEach es X.env)).any (·.1) = false := by rfl) :
  PE X (.Call (.Attribute o name apos) (e :: es) [] cpos) (tBM X.K T r to t) := by
 intro pins s σ H Q I h
 refine wpAny_Call_method_late hbase hfew hline rfl (thn (ho pins s σ H _ I h) fun v s1 ⟨x, H1, I1, r1, ty, q1⟩ => ?_)
 obtain ⟨h1, h2⟩ := tyV_is I1 r1 ty
 refine ⟨T, id, pa, slot, hty, h1, h2, ?_⟩
 have hA := ha cpos pins s1 σ H1 _ I1 q1
 rw [hs] at hA ⊢
 refine Calls.callWith_builtin (by show (false || (backTo cpos (starEach es X.env)).any (·.1)) = false; rw [hplain] <;> rfl) (Calls.evalArgs_plain ?_)
 exact thn hA fun us s2 ⟨vs, H2, I2, r2, q2⟩ => hm pins s2 σ H2 x vs v us Q I2 r1 r2 q2
end
def MtM (X : Cx) (id : String) (r : V → List V → Hp → VK → Prop) : Prop :=
 ∀ (pins : List (Addr × Obj)) (s : Shared) (σ : St) (H : Hp) (x : V) (xs : List V) (v : Value) (us : List Value) (Q : VK), Inv X pins σ H s → RelV x v → Vals xs us → r x xs H Q →
  wpAny (model X.prog X.w) X.A (call (.builtin id) (v :: us)) (EP X pins σ Q) X.xe s
theorem Vals.one : ∀ {x : V} {us : List Value}, Vals [x] us → ∃ u, us = [u] ∧ RelV x u
 | _, _, .cons r .nil => ⟨_, rfl, r⟩
theorem Vals.zero : ∀ {us : List Value}, Vals [] us → us = []
 | _, .nil => rfl
theorem Vals.dropLast {xs : List V} {us : List Value} (h : Vals xs us) : Vals xs.dropLast us.dropLast := by
 induction h with
 | nil => exact .nil
 | cons r t ih =>
  cases t with
  | nil => exact .nil
  | cons q t' => exact .cons r ih
theorem Vals.eraseIdx : ∀ {xs : List V} {us : List Value} (i : Nat), Vals xs us → Vals (xs.eraseIdx i) (us.eraseIdx i)
 | _, _, _, .nil => .nil
 | _, _, 0, .cons _ t => t
 | _, _, i + 1, .cons r t => .cons r (Vals.eraseIdx i t)
theorem Vals.rep {xs : List V} {us : List Value} (h : Vals xs us) : ∀ k : Nat, Vals (List.replicate k xs).flatten (List.replicate k us).flatten
 | 0 => .nil
 | k + 1 => by
  rw [List.replicate_succ, List.replicate_succ, List.flatten_cons, List.flatten_cons]
  exact Vals.append h (Vals.rep h k)
theorem erase_last {α : Type} (l : List α) : l.eraseIdx (l.length - 1) = l.dropLast := by
 induction l with
 | nil => rfl
 | cons a r ih =>
  cases r with
  | nil => rfl
  | cons b r =>
   have e : (a :: b :: r).length - 1 = ((b :: r).length - 1) + 1 := by
    have h1 : (a :: b :: r).length = r.length + 2 := rfl
    have h2 : (b :: r).length = r.length + 1 := rfl
    omega
   rw [e, List.eraseIdx_cons_succ, ih]
   all_goals rfl
theorem len_erase {α : Type} : ∀ (l : List α) (i : Nat), (l.eraseIdx i).length ≤ l.length
 | [], _ => Nat.le_refl _
 | _ :: _, 0 => Nat.le_succ _
 | _ :: r, i + 1 => Nat.succ_le_succ (len_erase r i)
theorem foldl_rep (its : List Value) : ∀ (k : Nat) (acc : List Value),
  List.foldl (fun x1 x2 => x1 ++ x2) acc.toArray (List.replicate k its.toArray) = (acc ++ (List.replicate k its).flatten).toArray
 | 0, acc => by simp
 | k + 1, acc => by
  have e : acc.toArray ++ its.toArray = (acc ++ its).toArray := by simp
  have e2 : (acc ++ its) ++ (List.replicate k its).flatten = acc ++ (List.replicate (k + 1) its).flatten := by
   rw [List.replicate_succ, List.flatten_cons, List.append_assoc]
  rw [← e2, ← foldl_rep its k (acc ++ its), ← e, List.replicate_succ, List.foldl_cons]
section
variable {X : Cx} {pins : List (Addr × Obj)} {σ : St} {H : Hp} {s : Shared} {l b : Addr} {xs ys zs : List V}
theorem Inv.lset {its its' : List Value} {n : Nat} {f : Array Value → Array Value} {t' : Nat} (I : Inv X pins σ H s) (hH : H l = some (.lst xs))
  (e : s.heap.get? l = some { cls := .type "list", data := .seq its.toArray n }) (hf : f its.toArray = its'.toArray) (hv : Vals ys its') (hz : ys.length ≤ sizeLine) :
  Inv X pins σ (upd H l (.lst ys)) { s with heap := s.heap.update l (Obj.mapSeq f), toks := t' } := by
 have q := PySem.IsL.update e f
 rw [hf] at q
 refine I.write (x := l) (e := l) (by rw [hH]; exact trivial) (.inl rfl) (fun b' u hb hu => (Heap.get?_update_other s.heap (Obj.mapSeq f) (Ne.symm hb)).trans hu) ⟨_, q⟩ ?_
 exact ⟨hz, its', _, hv, q⟩
theorem Inv.lnew {its : List Value} {t' : Nat} (I : Inv X pins σ H s) (hv : Vals ys its) (hz : ys.length ≤ sizeLine) :
  Inv X pins σ (upd H s.heap.objs.size (.lst ys)) { s with heap := s.heap.push { cls := .type "list", data := .seq its.toArray }, toks := t' } :=
 I.laid (fun _ _ q => Heap.get?_push_of_some _ q) (Nat.le_refl _) ⟨hz, its, 0, hv, Heap.get?_push_size _ rfl⟩
theorem Inv.fresh (I : Inv X pins σ H s) : H s.heap.objs.size = none := I.hok.fresh (Nat.le_refl _)
theorem Inv.lstM (I : Inv X pins σ H s) (hH : H l = some (.lst xs)) : xs.length ≤ sizeLine ∧ ∃ (its : List Value) (n : Nat), Vals xs its ∧ xs.length = its.length ∧ s.heap.get? l = some { cls := .type "list", data := .seq its.toArray n } := by
 obtain ⟨z, its, n, r, e⟩ := I.hok l _ hH
 exact ⟨z, its, n, r, r.length, e⟩
theorem notLongL {n : Nat} (h : n ≤ sizeLine) : Builtin.List.listTooLong n = false := by
 unfold Builtin.List.listTooLong
 exact decide_eq_false (by omega)
end
section
variable {X : Cx}
def rAppend : V → List V → Hp → VK → Prop := fun x vs H Q => ∃ l xs y, x = .ref l ∧ vs = [y] ∧ H l = some (.lst xs) ∧ xs.length < sizeLine ∧ Q .non (upd H l (.lst (xs ++ [y])))
theorem mt_append : MtM X "list.append" rAppend := by
 intro pins s σ H x vs v us Q I rx rv h
 obtain ⟨l, xs, y, rfl, rfl, hH, hz, q⟩ := h
 cases rx
 obtain ⟨u, rfl, ru⟩ := rv.one
 obtain ⟨z, its, n, r, hl, e⟩ := I.lstM hH
 refine call_meets F.slot_list_append ⟨_, e, rfl⟩ F.entry_list_append (F.args_list_append_2 _ _) (PySem.list_append l its.toArray n u (by rw [List.size_toArray]; omega)) ⟨e, ?_⟩
 refine ⟨.non, _, I.lset (its' := its ++ [u]) hH e (by simp) (r.append (.cons ru .nil)) ?_, rfl, q⟩
 rw [List.length_append, List.length_singleton]
 omega
def rPop : V → List V → Hp → VK → Prop := fun x vs H Q => ∃ l xs y, x = .ref l ∧ vs = [] ∧ H l = some (.lst xs) ∧ xs[xs.length - 1]? = some y ∧ Q y (upd H l (.lst xs.dropLast))
theorem mt_pop : MtM X "list.pop" rPop := by
 intro pins s σ H x vs v us Q I rx rv h
 obtain ⟨l, xs, y, rfl, rfl, hH, hy, q⟩ := h
 cases rx
 have hus := rv.zero
 subst hus
 obtain ⟨z, its, n, r, hl, e⟩ := I.lstM hH
 obtain ⟨u, hu, ru⟩ := r.get hy
 have hy' : its.toArray[its.toArray.size - 1]? = some u := by
  show its.toArray[its.length - 1]? = some u
  rw [← Array.getElem?_toList, ← hl]
  exact hu
 refine call_meets F.slot_list_pop ⟨_, e, rfl⟩ F.entry_list_pop (F.args_list_pop_1 _) (MeetsSeq.list_pop_last l its.toArray n u hy' (by rw [List.size_toArray]; omega)) ⟨e, ?_⟩
 refine ⟨y, _, I.lset (its' := its.dropLast) hH e ?_ r.dropLast ?_, ru, q⟩
 ·show its.toArray.eraseIdxIfInBounds (its.toArray.size - 1) = its.dropLast.toArray
  rw [List.size_toArray, List.eraseIdxIfInBounds_toArray, erase_last]
 ·rw [List.length_dropLast]
  omega
def rPopAt : V → List V → Hp → VK → Prop := fun x vs H Q => ∃ l xs i k y, x = .ref l ∧ vs = [.int i] ∧ H l = some (.lst xs) ∧ -(2 ^ 63) ≤ i ∧ i < 2 ^ 63 ∧ seqIndex? i xs.length = some k ∧ xs[k]? = some y ∧ Q y (upd H l (.lst (xs.eraseIdx k)))
theorem mt_popAt : MtM X "list.pop" rPopAt := by
 intro pins s σ H x vs v us Q I rx rv h
 obtain ⟨l, xs, i, k, y, rfl, rfl, hH, h1, h2, hk, hy, q⟩ := h
 cases rx
 obtain ⟨u, rfl, ru⟩ := rv.one
 obtain ⟨t, rfl⟩ := ru
 obtain ⟨z, its, n, r, hl, e⟩ := I.lstM hH
 obtain ⟨w, hw, rw'⟩ := r.get hy
 refine call_meets F.slot_list_pop ⟨_, e, rfl⟩ F.entry_list_pop (F.args_list_pop_2 _ _)
  (MeetsSeq.list_pop_at l its.toArray n i t k w (fitsIndex_both h1 h2) (by rw [List.size_toArray, ← hl]; exact hk) (by rw [← Array.getElem?_toList]; exact hw) (by rw [List.size_toArray]; omega)) ⟨e, ?_⟩
 refine ⟨y, _, I.lset (its' := its.eraseIdx k) hH e ?_ (r.eraseIdx k) ?_, rw', q⟩
 ·show its.toArray.eraseIdxIfInBounds k = (its.eraseIdx k).toArray
  rw [List.eraseIdxIfInBounds_toArray]
 ·have := len_erase xs k
  omega
def rCat : R2 := fun x y H Q => ∃ l b xs zs, x = .ref l ∧ y = .ref b ∧ H l = some (.lst xs) ∧ H b = some (.lst zs) ∧ xs.length + zs.length ≤ sizeLine ∧ ∀ p, H p = none → Q (.ref p) (upd H p (.lst (xs ++ zs)))
theorem op_cat : OpR X (binaryOp .Add) rCat := by
 intro pins s σ H x y v u Q I rx ry h
 obtain ⟨l, b, xs, zs, rfl, rfl, hH, hB, hz, q⟩ := h
 cases rx
 cases ry
 obtain ⟨z, its, n, r, hl, e⟩ := I.lstM hH
 obtain ⟨z2, its2, n2, r2, hl2, e2⟩ := I.lstM hB
 refine PySem.P.add_list e e2 ?_ (by rw [List.size_toArray, List.size_toArray]; omega)
 have ea : its.toArray ++ its2.toArray = (its ++ its2).toArray := by simp
 rw [ea]
 exact ⟨.ref _, _, I.lnew (t' := s.toks) (r.append r2) (by rw [List.length_append]; omega), rfl, q _ I.fresh⟩
def rRep : R2 := fun x y H Q => ∃ l k xs, x = .ref l ∧ y = .int k ∧ H l = some (.lst xs) ∧ -(2 ^ 63) ≤ k ∧ k < 2 ^ 63 ∧ xs.length * k.toNat ≤ sizeLine ∧
 ∀ p, H p = none → Q (.ref p) (upd H p (.lst (List.replicate k.toNat xs).flatten))
theorem len_rep {α : Type} (xs : List α) (k : Nat) : (List.replicate k xs).flatten.length = k * xs.length := by
 induction k with
 | zero => simp
 | succ k ih => rw [List.replicate_succ, List.flatten_cons, List.length_append, ih, Nat.succ_mul, Nat.add_comm]
theorem op_rep : OpR X (binaryOp .Mult) rRep := by
 intro pins s σ H x y v u Q I rx ry h
 obtain ⟨l, k, xs, rfl, rfl, hH, h1, h2, hz, q⟩ := h
 cases rx
 obtain ⟨t, rfl⟩ := ry
 obtain ⟨z, its, n, r, hl, e⟩ := I.lstM hH
 have hlen : its.toArray.size * k.toNat ≤ sizeLine := by rw [List.size_toArray, ← hl]; exact hz
 have hcap : ¬ its.toArray.size * k.toNat > (2 ^ 63 - 1) / 8 := by
  have : (sizeLine : Nat) ≤ (2 ^ 63 - 1) / 8 := by decide
  omega
 have hfit : ¬ (!Builtin.List.listFitsIndex k) = true := by
  rw [fitsIndex_both h1 h2]
  exact Bool.false_ne_true
 have hlong : ¬ Builtin.List.listTooLong (its.toArray.size * k.toNat) = true := by
  rw [notLongL hlen]
  exact Bool.false_ne_true
 have hnew : List.foldl (fun x1 x2 => x1 ++ x2) #[] (List.replicate (if its.toArray.isEmpty = true then 0 else k.toNat) its.toArray) = (List.replicate k.toNat its).flatten.toArray := by
  have f0 : ∀ m : Nat, List.foldl (fun x1 x2 => x1 ++ x2) #[] (List.replicate m its.toArray) = (List.replicate m its).flatten.toArray := fun m => by
   have := foldl_rep its m []
   rw [List.nil_append] at this
   exact this
  rw [f0]
  cases its with
  | nil => simp
  | cons a r' => rw [if_neg (by simp)]
 refine wpAny_binaryOp_repeat_ref (T := "list") (U := "int") (by decide) ⟨_, e, rfl⟩ (fun s' => typeIs_int s' k t) noFill_list_mul F.fills_int_mul F.slot_int_rmul repeat_list F.slot_int_index.lookup
  (call_meets F.slot_int_rmul (typeIs_int s k t) F.entry_int_rmul (F.args_int_rmul_2 _ _) (int___rmul___int_list k t l its.toArray n)
   ⟨e, rfl, ⟨_, e, rfl⟩, call_meets F.slot_list_mul ⟨_, e, rfl⟩ F.entry_list_mul (F.args_list_mul_2 _ _) (AutoListH.list___mul___list_int_3 l its.toArray n k t hfit hcap hlong) ⟨e, ?_⟩⟩)
 rw [hnew]
 exact ⟨.ref _, _, I.lnew (t' := s.toks) (r.rep k.toNat) (by rw [len_rep, Nat.mul_comm]; exact hz), rfl, q _ I.fresh⟩
end
section
variable {prog : Program} {w : World} {A : Around} {E : Value → Shared → Prop} {s : Shared}
end
section
variable {X : Cx}
end
end L2
namespace Att
open PySem PySem.W PySem.Calls PyProof.Rows
theorem ints_of_wellAll {P : Params} {h : Heap} : ∀ (ns : List Int) (vs : List Value), WellAll P h vs (ns.map WData.int) → IntsAre vs ns := by
 intro ns
 induction ns with
 | nil =>
  intro vs w
  rw [List.map_nil] at w
  cases w
  exact .nil
 | cons n ns ih =>
  intro vs w
  rw [List.map_cons] at w
  cases w with
  | cons a b =>
   cases a
   exact .cons _ _ (ih _ b)
theorem script_of {l : OpenLaw} {n : Nat} (hn : l.most = some n) {P : Params} {h : Heap} {args : List WData} {vals : List Value}
  (hpre : l.row.toRowW.claim.pre args = true) (hwl : WellAll P h vals args) :
  ∃ a vs ns, vals = [Value.ref a] ∧ args = [WData.list (ns.map WData.int)] ∧ h.get? a = some { cls := .type "list", data := .seq vs.toArray } ∧ IntsAre vs ns ∧ ns.length ≤ n := by
 have hsh : WShape.hasAll [] args [.list .int] = true := (pre_splitW hpre).1
 have hc : l.pre.holds [] { args := args } = true := (pre_splitW hpre).2
 obtain ⟨d, r, rfl, h1, h2⟩ := hasAllW_cons hsh
 obtain rfl := hasAllW_nil h2
 obtain ⟨xs, rfl, h3⟩ := hasW_list h1
 obtain ⟨ns, rfl⟩ := items_int h3
 have hlen : ns.length ≤ n := by
  unfold OpenLaw.pre at hc
  have h4 : (WTm.not (.lt (.lit (.int (n : Int))) (.len (.arg 0)))).holds [] { args := [.list (ns.map .int)] } = true := by
   have h4 := (holds_andW hc).1
   rw [hn] at h4
   exact h4
  have h5 := condW_of h4 (w_not (w_lt w_lit (w_len_list (w_arg rfl))))
  rw [List.length_map] at h5
  refine Nat.le_of_not_lt fun q => ?_
  have q' : (n : Int) < ((ns.length : Nat) : Int) := by omega
  first
   | (rw [decide_eq_true q'] at h5; exact absurd h5 (by decide))
   | (simp at h5; omega)
 cases hwl with
 | cons w1 w2 =>
  cases w2
  cases w1 with
  | list ho hall => exact ⟨_, _, ns, rfl, rfl, ho, ints_of_wellAll ns _ hall, hlen⟩
theorem post_true (l : OpenLaw) (args : List WData) : l.row.toRowW.claim.post args (.bool true) args = true :=
 postW_of (r := l.row.toRowW) (X := (true == true))
  (show WShape.has [] (.bool true) .bool = true by first | rfl | decide | simp [WShape.has, WShape.arms, WShape.armsAll])
  (show (WTm.eq .res (.lit (.bool true))).value [] { args := args, res := some (.bool true), after := args } = some (.bool (true == true)) from w_eq_bool (w_res rfl) w_lit) rfl
theorem attach_call {l : OpenLaw} {n : Nat} {q : Program} {loose : List Str} {XP : (Str → Option Value) → Heap → Prop} {YP : World → Heap → Prop} {d : DefRec}
  (hn : l.most = some n) (hdf : d.params.defaults = [])
  (call : ∀ (w : World) (s₀ s₁ : Shared) (mg mb : Str → Option Value) (fa : Addr) (o : Obj) (pm cd doc : Value) (a : Addr) (vs : List Value) (ns : List Int),
   Ground q loose [] XP w s₀ mg mb s₁.heap → YP w s₁.heap →
   s₁.heap.get? fa = some o → o.data = .func (docDef d.name d.params d.body d.scope pm cd doc) → s₁.heap.CodeRec cd d.name → mg d.name = some (.ref fa) →
   s₁.heap.get? a = some { cls := .type "list", data := .seq vs.toArray } → IntsAre vs ns → ns.length ≤ n → s₁.gens = #[] →
   codeAny (model l.prog w) callerA (.call (.ref fa) ⟨[.ref a], []⟩) (fun r s' => r = .ok (.ret (.bool true)) ∧ OldK s₁.heap s'.heap ∧ s'.os = s₁.os ∧ AllBare s'.gens) s₁) :
  WalkO q loose XP YP l.row.toRowW d [] (fun f vs => PySem.call f vs) := by
 intro w s₀ s₁ mg mb G Y fa o pm cd doc dV kV ho hd hcd hD hmg hg args vals as hpre hlay hrd hwl hlo
 obtain rfl : dV = .none := Dflts.none hD hdf
 obtain rfl : kV = .none := Dflts.noKw hD
 obtain ⟨a, vs, ns, rfl, rfl, hobj, hints, hlen⟩ := script_of hn hpre hwl
 refine enter_call (codeAny_mono (call w s₀ s₁ mg mb fa o pm cd doc a vs ns G Y ho (fd_plain hd) hcd hmg hobj hints hlen hg) fun r s' hq => ?_)
 obtain ⟨rfl, h2, h3, h4⟩ := hq
 exact ⟨.inl ⟨.bool true, .bool true, [], rfl, fun _ => rfl, .bool true, post_true l _, fun _ => ⟨List.Pairwise.nil, fun _ hm => (nomatch hm)⟩⟩, h2, h3, h4⟩
section
variable {prog : Program} {w : World} {A : Around} {E : Value → Shared → Prop} {s : Shared} {K : Frag}
end
end Att
namespace L2
open PySem PySem.Spec PyProof.Rows
theorem vals_ints : ∀ {vs : List Value} {ns : List Int}, IntsAre vs ns → Vals (ns.map V.int) vs
 | _, _, .nil => .nil
 | _, _, .cons n t h => .cons ⟨t, rfl⟩ (vals_ints h)
def Only (H : Hp) : Prop := ∀ b, H b = none ∨ ∃ o xs, H b = some (.frz o (.lst xs))
theorem law_call {P : Program} {w : World} {K : PySem.W.Frag} {mg mb : Str → Option Value} {CX : CXT} {k : Nat} {fa a : Addr} {fd : FuncData} {x : Str} {sp : Sp} {s₁ : Shared} {vs : List Value} {ns : List Int}
  (KX : K.In s₁.heap) (hns : s₁.heap.Ns mainGlobals mg) (hb : s₁.heap.Ns builtinsNs mb) (hbb : ∀ x : Str, x ≠ "__name__" → mb x = bootBuiltins x) (hlim : s₁.heap.NoLimit) (hg : s₁.gens = #[])
  (ha : s₁.heap.get? a = some { cls := .type "list", data := .seq vs.toArray }) (hi : IntsAre vs ns) (hl : ns.length ≤ sizeLine) (hr : Room k callerA)
  (F : ∀ base : Heap, K.In base → base.Ns mainGlobals mg → FnOk P w K mg base CX k fa fd [x] sp) (hbind : ∀ (s : Shared) (u : Value), BindsTo s fd ⟨[u], []⟩ [(x, u)])
  (hsp : ∀ H : Hp, Only H → SqL K H a (ns.map V.int) → sp [.ref a] H (fun v _ => v = .bl true) fun _ _ _ => False)
  (hCX : ∀ H e s', CX [] H s₁ (fun _ _ _ => False) e s' → False) :
  codeAny (model P w) callerA (.call (.ref fa) ⟨[.ref a], []⟩) (fun r s' => r = .ok (.ret (.bool true)) ∧ OldK s₁.heap s'.heap ∧ s'.os = s₁.os ∧ AllBare s'.gens) s₁ := by
 have rv := vals_ints hi
 have lenV := hi.length
 have core : ∀ H : Hp, Only H → SqL K H a (ns.map V.int) → HOk P w H s₁.heap → (∀ b, H b ≠ none → b = a) → (H a ≠ none → K.lookup a = none) →
   codeAny (model P w) callerA (.call (.ref fa) ⟨[.ref a], []⟩) (fun r s' => r = .ok (.ret (.bool true)) ∧ OldK s₁.heap s'.heap ∧ s'.os = s₁.os ∧ AllBare s'.gens) s₁ := by
  intro H hO hS hok hA hK
  have base_of : ∀ {b : Addr} {o : Obj}, s₁.heap.get? b = some o → H b = none → (hidT s₁.heap H).get? b = some o := fun e n => hidT_get e n
  have noA : ∀ {b : Addr} {o : Obj} {es : Array DictEntry} {ep : Nat}, s₁.heap.get? b = some o → o.data = .dict es ep → H b = none := fun {b o es ep} e d => by
   cases q : H b with
   | none => rfl
   | some u =>
    have e' : b = a := hA b (by rw [q]; simp)
    subst e'
    rw [ha] at e; cases e
    have d' : Data.seq vs.toArray _ = Data.dict es ep := d
    cases d'
  have nsK : ∀ {b : Addr} {m : Str → Option Value}, s₁.heap.Ns b m → (hidT s₁.heap H).Ns b m := fun {b m} ⟨o, es, ep, e, d, r⟩ => ⟨o, es, ep, base_of e (noA e d), d, r⟩
  have hKb : K.In (hidT s₁.heap H) := fun b o e => base_of (KX b o e) (by
   cases q : H b with
   | none => rfl
   | some u =>
    have e' : b = a := hA b (by rw [q]; simp)
    subst e'
    rw [hK (by rw [q]; simp)] at e; cases e)
  have hM : Mod K mg (hidT s₁.heap H) := ⟨hKb, nsK hns, ⟨mb, nsK hb, hbb⟩, let ⟨mc, h1, h2⟩ := hlim; ⟨mc, nsK h1, h2⟩⟩
  have e0 : Env0 P w K mg (hidT s₁.heap H) callerA [] s₁ H := ⟨rfl, hM, fun b o e => of_hidT e, Nat.le_of_eq (hidT_size _ _), trivial, fun b hb => absurd (show b ∈ ([] : List Addr) from hb) (by simp), hok, .of_eq hg⟩
  refine codeAny_mono ((F _ hKb (nsK hns)).run callerA [] s₁ H ⟨[.ref a], []⟩ [.ref a] [.ref a] _ _ hr e0 (hbind s₁ (.ref a)) (.cons rfl .nil) (hsp H hO hS)) fun r s' h => ?_
  cases r with
  | error e => exact (hCX H e s' h).elim
  | ok fl =>
   cases fl with
   | next => exact False.elim h
   | brk => exact False.elim h
   | cont => exact False.elim h
   | ret u =>
    obtain ⟨v, H', os, bare, un, hok', r', q⟩ := h
    have q' : v = .bl true := q
    subst q'
    obtain rfl : u = Value.bool true := r'
    refine ⟨rfl, OldK.of_keep fun b o e => ?_, os, bare⟩
    cases q : H b with
    | none => exact un.keep b o e q (by intro z; exact absurd (show b ∈ ([] : List Addr) from z) (by simp)) (by simp)
    | some u =>
     rcases hO b with z | ⟨ob, xs, z⟩
     ·rw [q] at z; cases z
     ·have z2 := un.frzs b ob _ z
      obtain ⟨e1, _⟩ := hok b _ z
      obtain ⟨e2, _⟩ := hok' b _ z2
      rw [e] at e1; cases e1
      exact e2
 cases hk : K.lookup a with
 | some o =>
  have e := KX a o hk
  rw [ha] at e
  cases e
  refine core (fun _ => none) (fun _ => .inl rfl) (.inr ⟨_, vs.toArray, _, hk, rfl, rfl, rfl, by rw [List.size_toArray, lenV]; exact hl, by simpa using rv⟩) (fun b u z => by have z' : (none : Option HO) = some u := z; cases z') (fun b z => absurd rfl z) fun z => absurd rfl z
 | none =>
  refine core (fun b => if b = a then some (.frz { cls := .type "list", data := .seq vs.toArray } (.lst (ns.map V.int))) else none) (fun b => ?_) (.inl (.inr ⟨{ cls := .type "list", data := .seq vs.toArray }, if_pos rfl⟩)) (fun b u z => ?_) (fun b z => ?_) fun _ => hk
  ·by_cases hb : b = a
   ·exact .inr ⟨_, _, if_pos hb⟩
   ·exact .inl (if_neg hb)
  ·by_cases hb : b = a
   ·have z' := (if_pos hb).symm.trans z
    cases z'
    subst hb
    exact ⟨ha, by rw [List.length_map]; exact hl, vs, _, rv, ha⟩
   ·have z' := (if_neg hb).symm.trans z
    cases z'
  ·by_cases hb : b = a
   ·exact hb
   ·exact absurd (if_neg hb) z
theorem walk_of {l : PySem.W.OpenLaw} {n k : Nat} {q : Program} {loose : List Str} {XP : (Str → Option Value) → Heap → Prop} {YP : World → Heap → Prop} {d : DefRec} {K : Params → PySem.W.Frag} {CX : World → CXT} {sp : World → Sp} {x : Str}
  (hn : l.most = some n) (hn2 : n ≤ sizeLine) (hdf : d.params.defaults = []) (hr : Room k callerA)
  (hY : ∀ (w : World) (h : Heap), YP w h → (K w.params).In h)
  (F : ∀ (w : World) (mg : Str → Option Value) (fa : Addr) (h : Heap), (K w.params).In h → h.Ns mainGlobals mg → mg d.name = some (.ref fa) →
   ∃ fd : FuncData, (∀ (s : Shared) (u : Value), BindsTo s fd ⟨[u], []⟩ [(x, u)]) ∧
    ∀ base : Heap, (K w.params).In base → base.Ns mainGlobals mg → FnOk l.prog w (K w.params) mg base (CX w) k fa fd [x] (sp w))
  (hsp : ∀ (w : World) (H : Hp) (a : Addr) (ns : List Int), ns.length ≤ n → Only H → SqL (K w.params) H a (ns.map V.int) → sp w [.ref a] H (fun v _ => v = .bl true) fun _ _ _ => False)
  (hCX : ∀ (w : World) (H : Hp) (s : Shared) (e : Value) (s' : Shared), CX w [] H s (fun _ _ _ => False) e s' → False) :
  PySem.W.WalkO q loose XP YP l.row.toRowW d [] (fun f vs => PySem.call f vs) := by
 refine Att.attach_call hn hdf fun w s₀ s₁ mg mb fa o pm cd doc a vs ns G Y ho hd hcd hmg hobj hints hlen hg => ?_
 have KX := hY w _ Y
 obtain ⟨fd, hb, hF⟩ := F w mg fa _ KX G.T.g hmg
 exact law_call KX G.T.g G.T.b G.T.builtins G.T.nolimit hg hobj hints (Nat.le_trans hlen hn2) hr hF hb (fun H hO hS => hsp w H a ns hlen hO hS) fun H e s' => hCX w H s₁ e s'
def defArgs (s : Stmt) : Arguments := match s with
 | .FunctionDef _ a _ _ _ _ _ _ _ _ => a
 | _ => { posonlyargs := [], args := [], vararg := none, kwonlyargs := [], kw_defaults := [], kwarg := none, defaults := [] }
def defBody (s : Stmt) : List Stmt := match s with
 | .FunctionDef _ _ b _ _ _ _ _ _ _ => b
 | _ => []
def defScope (s : Stmt) : Scope := match s with
 | .FunctionDef _ _ _ _ _ _ sc _ _ _ => sc
 | _ => { kind := .function, names := [], isGenerator := false, isCoroutine := false }
abbrev CX0 : CXT := fun _ _ _ _ _ _ => False
abbrev E0 : XK := fun _ _ _ => False
theorem pass0 {X : Cx} : Passes CX0 X E0 := fun _ _ _ _ _ _ _ h => h.elim
structure Fun (K : PySem.W.Frag) (x qual : Str) (st : Stmt) (f : Addr) (fd : FuncData) : Prop where
 ex : ∃ (oc : Value) (od : Option Addr) (kV doc pm : Value) (an : Option Addr) (cdv ct : Value) (osl : Array (Option Value)),
  fd = PySem.W.fnOf x qual (defArgs st) (defBody st) (defScope st) .none kV doc pm an cdv ct ∧ K.lookup f = some ⟨oc, od, .func fd, osl⟩ ∧ PySem.W.codeIn K cdv qual = true
 kp : PySem.W.keepIn K (.ref f) = true
section
variable {P : Program} {w : World} {K : PySem.W.Frag} {mg : Str → Option Value} {base : Heap}
theorem Fun.ok {x qual : Str} {st : Stmt} {f : Addr} {fd : FuncData} {N ps : List Str} {k : Nat} {sp : Sp} (F : Fun K x qual st f fd) (S : FnScope N ps (defScope st)) (len : ∀ vs H Q E, sp vs H Q E → vs.length = ps.length)
  (hbody : ∀ (cdv : Value) (A : Around) (outer : List Env) (s : Shared) (H : Hp) (vs : List V) (Q : VK) (E : XK), Room k (A.deeper (envOfC qual (defScope st) s.heap.objs.size f cdv)) → sp vs H Q E →
   ∃ t, PSs (cxOf CX0 P w K mg base N qual (defScope st) f cdv A outer s H E).nox (defBody st) t ∧ t { nx := fun _ H' => Q .non H', rt := Q } (start N vs) H) : FnOk P w K mg base CX0 (k + 1) f fd ps sp := by
 obtain ⟨oc, od, kV, doc, pm, an, cdv, ct, osl, rfl, lk, hcd⟩ := F.ex
 refine fn_of lk hcd S len fun A outer s H vs Q E hr hsp => ?_
 obtain ⟨t, h, q⟩ := hbody cdv A outer s H vs Q E hr hsp
 exact ⟨t, h.nox, q⟩
theorem Fun.binds {x qual : Str} {st : Stmt} {f : Addr} {fd : FuncData} {ps : List Str} (F : Fun K x qual st f fd)
  (h : ∀ (kV doc pm : Value) (an : Option Addr) (cdv ct : Value) (us : List Value), us.length = ps.length → bindArgs (PySem.W.fnOf x qual (defArgs st) (defBody st) (defScope st) .none kV doc pm an cdv ct) ⟨us, []⟩ = pure (ps.zip us)) : Binds K fd ps [] := by
 obtain ⟨oc, od, kV, doc, pm, an, cdv, ct, osl, rfl, lk, hcd⟩ := F.ex
 exact .all (h kV doc pm an cdv ct)
theorem fun_mk {x qual : Str} {st : Stmt} {f : Addr} {oc : Value} {od an : Option Addr} {osl : Array (Option Value)} {kV doc pm cdv ct : Value} (l : K.lookup f = some ⟨oc, od, .func (PySem.W.fnOf x qual (defArgs st) (defBody st) (defScope st) .none kV doc pm an cdv ct), osl⟩)
  (c : PySem.W.codeIn K cdv qual = true) (k : PySem.W.keepIn K (.ref f) = true) : Fun K x qual st f (PySem.W.fnOf x qual (defArgs st) (defBody st) (defScope st) .none kV doc pm an cdv ct) := ⟨⟨oc, od, kV, doc, pm, an, cdv, ct, osl, rfl, l, c⟩, k⟩
end
section
variable {X : Cx}
end
theorem ite2 {c A B : Prop} [Decidable c] (h1 : c → A) (h2 : ¬ c → B) : if c then A else B := by
 by_cases h : c
 ·rw [if_pos h]
  exact h1 h
 ·rw [if_neg h]
  exact h2 h
def Same (H H' : Hp) : Prop := ∀ b o, H b = some o → H' b = some o
theorem Same.refl (H : Hp) : Same H H := fun _ _ h => h
theorem Same.trans {H H1 H2 : Hp} (a : Same H H1) (b : Same H1 H2) : Same H H2 := fun c o h => b c o (a c o h)
theorem Same.free {H H' : Hp} (e : Same H H') {l : Addr} (h : H' l = Option.none) : H l = Option.none := by
 cases q : H l with
 | none => rfl
 | some o =>
  rw [e l o q] at h
  cases h
theorem Same.seq {K : PySem.W.Frag} {H H' : Hp} {a : Addr} {xs : List V} (e : Same H H') (h : SqL K H a xs) : SqL K H' a xs := by
 rcases h with (h | ⟨o, h⟩) | h
 ·exact .inl (.inl (e _ _ h))
 ·exact .inl (.inr ⟨o, e _ _ h⟩)
 ·exact .inr h
end L2
set_option maxHeartbeats 4000000
namespace L2
open PySem PySem.Spec PyProof.Rows
structure CompScope (N : List Str) (esc : Scope) (own : List Str) (caps : List Nat) (N' : List Str) (sc : Scope) : Prop where
 kind : sc.kind = .function
 ndn : (sc.names.map (·.1)).Nodup
 uniq : ∀ y ∈ sc.names, y.2 = .local → sc.names.lookup y.1 = some .local
 nd : N'.Nodup
 eqN : N' = own ++ caps.map fun j => N.getD j ""
 cap : ∀ j ∈ caps, j < N.length ∧ sc.names.lookup (N.getD j "") = some .free
 fr : ∀ y ∈ sc.names, y.2 = .free → esc.names.lookup y.1 = some .cell ∨ esc.names.lookup y.1 = some .free
def capS (own : List Str) (caps : List Nat) (σ : St) : St := List.replicate own.length none ++ caps.map fun j => (σ[j]?).join
theorem closure_go {env : Env} : ∀ (names : List (Str × NameKind)) (acc : List (Str × Addr)), (∀ y ∈ names, y.2 = .free → ∃ c, env.cells.lookup y.1 = some c) → (∀ y c, acc.lookup y = some c → env.cells.lookup y = some c) →
  ∃ cl, (forIn names acc (fun x r => if (x.2 == NameKind.free) = true then (do let c ← cellOf env x.1; pure (ForInStep.yield ((x.1, c) :: r))) else pure (ForInStep.yield r)) : Sem (List (Str × Addr))) = pure cl ∧
   (∀ y c, cl.lookup y = some c → env.cells.lookup y = some c) ∧ (∀ y, (∃ c, acc.lookup y = some c) → ∃ c, cl.lookup y = some c) ∧ ∀ y ∈ names, y.2 = .free → ∃ c, cl.lookup y.1 = some c
 | [], acc, _, ha => ⟨acc, rfl, ha, fun _ h => h, fun _ h => absurd h (by simp)⟩
 | (n, k) :: r, acc, hn, ha => by
  rw [List.forIn_cons]
  by_cases hk : k = .free
  ·subst hk
   obtain ⟨c, hc⟩ := hn (n, .free) List.mem_cons_self rfl
   have ha' : ∀ y d, ((n, c) :: acc).lookup y = some d → env.cells.lookup y = some d := fun y d e => by
    rw [List.lookup_cons] at e
    cases q : y == n with
    | true => rw [q] at e; cases e; rw [beq_iff_eq.mp q]; exact hc
    | false => rw [q] at e; exact ha y d e
   obtain ⟨cl, e, h1, h2, h3⟩ := closure_go r ((n, c) :: acc) (fun y hy => hn y (List.mem_cons_of_mem _ hy)) ha'
   have hh : ∀ y, (∃ d, acc.lookup y = some d) → ∃ d, ((n, c) :: acc).lookup y = some d := fun y ⟨d, hd⟩ => by
    rw [List.lookup_cons]
    cases q : y == n with
    | true => exact ⟨c, rfl⟩
    | false => exact ⟨d, hd⟩
   have hs : ∃ d, ((n, c) :: acc).lookup n = some d := ⟨c, by rw [List.lookup_cons, beq_self_eq_true]⟩
   refine ⟨cl, ?_, h1, fun y hy => h2 y (hh y hy), fun y hy hf => ?_⟩
   ·have hcell : cellOf env n = pure c := by simp only [cellOf, hc]
    simp only [beq_self_eq_true, if_true, hcell]
    simp only [pure_bind]
    exact e
   ·rcases List.mem_cons.mp hy with rfl | hy
    ·exact h2 _ hs
    ·exact h3 y hy hf
  ·obtain ⟨cl, e, h1, h2, h3⟩ := closure_go r acc (fun y hy => hn y (List.mem_cons_of_mem _ hy)) ha
   refine ⟨cl, ?_, h1, h2, fun y hy hf => ?_⟩
   ·have hb : (k == NameKind.free) = false := by simpa using hk
    simp only [hb, Bool.false_eq_true, if_false, pure_bind]
    exact e
   ·rcases List.mem_cons.mp hy with rfl | hy
    ·exact absurd hf hk
    ·exact h3 y hy hf
theorem closure_of {scope : Scope} {env : Env} (h : ∀ y ∈ scope.names, y.2 = .free → ∃ c, env.cells.lookup y.1 = some c) :
  ∃ cl, closureFor scope env = pure cl ∧ (∀ y c, cl.lookup y = some c → env.cells.lookup y = some c) ∧ ∀ y ∈ scope.names, y.2 = .free → ∃ c, cl.lookup y.1 = some c := by
 obtain ⟨cl, e, h1, _, h3⟩ := closure_go (env := env) scope.names [] h (fun y c e => by simp at e)
 refine ⟨cl, ?_, h1, h3⟩
 have q : closureFor scope env = ((forIn scope.names ([] : List (Str × Addr)) (fun x r => if (x.2 == NameKind.free) = true then (do let c ← cellOf env x.1; pure (ForInStep.yield ((x.1, c) :: r))) else pure (ForInStep.yield r)) : Sem (List (Str × Addr))) >>= fun cs => pure cs) := rfl
 rw [q, e]
 rfl
theorem mem_of_lookup' {names : List (Str × NameKind)} {x : Str} {k : NameKind} (h : names.lookup x = some k) : (x, k) ∈ names := PySem.mem_of_lookup h
theorem lookup_relabel {env : Env} {x : Str} : ∀ {names : List (Str × NameKind)} {k : NameKind},
  (names.map fun (n, k) => if (k == NameKind.free && env.scope.kind == .function && env.kindOf n == some .cell) then (n, NameKind.cell) else (n, k)).lookup x = some k →
  names.lookup x = some k ∨ (k = .cell ∧ names.lookup x = some .free)
 | [], _, h => by simp at h
 | (n, k0) :: r, k, h => by
  have ih := @lookup_relabel env x r k
  have h : List.lookup x ((if (k0 == NameKind.free && env.scope.kind == .function && env.kindOf n == some .cell) = true then (n, NameKind.cell) else (n, k0)) :: _) = some k := h
  rw [List.lookup_cons]
  by_cases hc : (k0 == NameKind.free && env.scope.kind == .function && env.kindOf n == some .cell) = true
  ·rw [if_pos hc, List.lookup_cons] at h
   have hk0 : k0 = .free := by
    simp only [Bool.and_eq_true, beq_iff_eq] at hc
    exact hc.1.1
   cases q : x == n with
   | true => rw [q] at h; cases h; right; exact ⟨rfl, by rw [hk0]⟩
   | false => rw [q] at h; exact ih h
  ·rw [if_neg hc, List.lookup_cons] at h
   cases q : x == n with
   | true => rw [q] at h; cases h; left; rfl
   | false => rw [q] at h; exact ih h
section
variable {X : Cx}
def cellB (scope : Scope) (x : Str) : Bool := scope.names.any fun y => y.1 == x && (match y.2 with | .cell => true | _ => false)
theorem cellB_mem {scope : Scope} {x : Str} (h : cellB scope x = true) : (x, NameKind.cell) ∈ scope.names := by
 unfold cellB at h
 obtain ⟨⟨n, k⟩, hm, hy⟩ := List.any_eq_true.mp h
 rw [Bool.and_eq_true] at hy
 obtain ⟨h1, h2⟩ := hy
 have e : n = x := by simpa using h1
 subst e
 cases k <;> first | exact hm | cases h2
theorem nd_lookup {x : Str} {k : NameKind} : ∀ {names : List (Str × NameKind)}, (names.map (·.1)).Nodup → (x, k) ∈ names → names.lookup x = some k
 | [], _, h => by cases h
 | (n, k0) :: r, nd, h => by
  rw [List.map_cons, List.nodup_cons] at nd
  rw [List.lookup_cons]
  rcases List.mem_cons.mp h with e | h
  ·cases e
   simp
  ·have : (x == n) = false := by
    refine Bool.eq_false_iff.mpr fun z => nd.1 ?_
    rw [← beq_iff_eq.mp z]
    exact List.mem_map.mpr ⟨_, h, rfl⟩
   rw [this]
   exact nd_lookup nd.2 h
theorem cells_app : ∀ (names : List (Str × NameKind)) (n : Nat) (acc : List (Str × Addr)), cellsFrom n names acc = cellsFrom n names [] ++ acc
 | [], n, acc => rfl
 | (x, k) :: r, n, acc => by
  unfold cellsFrom
  by_cases hk : (k == NameKind.cell) = true
  ·rw [if_pos hk, if_pos hk, cells_app r (n + 1) ((x, n) :: acc), cells_app r (n + 1) [(x, n)], List.append_assoc]
   rfl
  ·rw [if_neg hk, if_neg hk, cells_app r n acc]
theorem cells_mem {x : Str} {c : Addr} : ∀ (names : List (Str × NameKind)) (n : Nat) (acc : List (Str × Addr)), (x, c) ∈ cellsFrom n names acc → (x, NameKind.cell) ∈ names ∨ (x, c) ∈ acc
 | [], n, acc, h => .inr h
 | (y, k) :: r, n, acc, h => by
  unfold cellsFrom at h
  by_cases hk : (k == NameKind.cell) = true
  ·rw [if_pos hk] at h
   rcases cells_mem r (n + 1) _ h with z | z
   ·exact .inl (List.mem_cons_of_mem _ z)
   ·rcases List.mem_cons.mp z with e | z
    ·cases e
     have : k = .cell := by cases k <;> first | rfl | cases hk
     rw [this]
     exact .inl List.mem_cons_self
    ·exact .inr z
  ·rw [if_neg hk] at h
   rcases cells_mem r n _ h with z | z
   ·exact .inl (List.mem_cons_of_mem _ z)
   ·exact .inr z
theorem newEnvX {M : Model} {A : Around} {E : Value → Shared → Prop} {s : Shared} {scope : Scope} {globals : Addr} {cl : List (Str × Addr)} {qual : Str} {around : Env} {Q : Env → Shared → Prop}
  (hQ : Q (newEnv scope s.heap.objs.size globals (cellsFrom (s.heap.objs.size + 1) scope.names cl) qual none .none (some around) builtinsNs) { s with heap := pushCells (s.heap.push { cls := .type "dict", data := .dict #[] }) scope.names }) :
  wpAny M A (newFunctionEnv scope globals cl [] qual none .none (some around)) Q E s := by
 unfold newFunctionEnv
 refine wpAny_bind (wpAny_alloc ?_)
 refine wpAny_bind (wpAny_layCells _ (fun name kind cells => by cases hkc : kind == NameKind.cell <;> simp [hkc]) _ _ _ _ ?_)
 rw [show ({ s with heap := s.heap.push { cls := .type (if (some around).isSome = true then "dict" else "frame"), data := .dict #[] } } : Shared).heap.objs.size = s.heap.objs.size + 1 from Heap.size_push ..]
 exact wpAny_bind (by rw [List.forIn_nil]; exact wpAny_pure (wpAny_pure hQ))
def compCx (X : Cx) (scope : Scope) (cl : List (Str × Addr)) (N' : List Str) (C : Addr) (s : Shared) (H : Hp) (ex : List Addr) : Cx :=
 { X with N := N', s₀ := s, H₀ := H, env := compEnvC scope cl C X.env, outer := X.stack, ex := ex, fn := cellB scope, pn := [], xe := fun _ _ => False }
def CompK (own : List Str) (caps : List Nat) (g : TG) (tc : TT) (te : TE) (σ : St) (Q : VK) (J : It) (H1 : Hp) : Prop := ∀ D, H1 D = none →
 ∃ W : Nat → Nat → St → Hp → Prop, (∃ m, W 0 m (capS own caps σ) (upd H1 D (.lst []))) ∧ ∀ i m σ' H', W i m σ' H' →
  (J.stop i H' ∧ Q (.ref D) H') ∨ (J.go i H' ∧ ∃ N : St → Hp → Prop, (∀ σ2 H2, N σ2 H2 → ∃ m', m' < m ∧ W (i + 1) m' σ2 H2) ∧ ∀ x H2, J.yld i H' x H2 → g x σ' H2 fun σ3 H3 => tc σ3 H3 fun b H4 =>
   if b = true then te σ3 H4 fun v H5 => ∃ xs, H5 D = some (.lst xs) ∧ xs.length < sizeLine ∧ N σ3 (upd H5 D (.lst (xs ++ [v]))) else N σ3 H4)
def tComp (own : List Str) (caps : List Nat) (wi : TI) (g : TG) (tc : TT) (te : TE) : TE := fun σ H Q => wi σ H fun J H1 => CompK own caps g tc te σ Q J H1
def tTrue : TT := fun _ H Q => Q true H
def PIf (X : Cx) (ifs : List Expr) (t : TT) : Prop :=
 ∀ (pins : List (Addr × Obj)) (s : Shared) (σ : St) (H : Hp) (Q : Bool → Hp → Prop), Inv X pins σ H s → t σ H Q →
  wpAny (model X.prog X.w) X.A (forIn ifs true fun c r => if r = true then do let ok ← isTrue c X.env (eval c X.env); pure (ForInStep.yield ok) else pure (ForInStep.yield r)) (TP X pins σ Q) X.xe s
theorem pif_nil : PIf X [] tTrue := fun _ _ _ H _ I h => wpAny_tests_nil ⟨H, I, h⟩
theorem pif_one {c : Expr} {t : TT} (h : PT X c t) : PIf X [c] t := fun pins s σ H Q I q => wpAny_tests_one (h pins s σ H Q I q)
theorem codeAny_compLoop_gen {prog : Program} {w : World} {A : Around} {R : Result → Shared → Prop} {s : Shared} {elt target iter : Expr} {ifs : List Expr} {scope : Scope} {pos : Pos} {it acc : Value} {env : Env} (I : Nat → Shared → Prop)
  (turn : ∀ n s, I n s → wpAny (model prog w) A (pyNext it) (fun r s₁ => match r with
   | none => R (.ok .next) s₁
   | some v => wpAny (model prog w) A (letOwnedTupleGo target it v) (fun _ s₁' => wpAny (model prog w) A (assign target env v) (fun _ s₂ =>
     wpAny (model prog w) A (forIn ifs true fun c r => if r = true then do let ok ← isTrue c env (eval c env); pure (ForInStep.yield ok) else pure (ForInStep.yield r)) (fun ok s₃ =>
      if ok = true then wpAny (model prog w) A (eval elt env) (fun x s₄ =>
       wpAny (model prog w) A (call (.builtin "list.append") [acc, x]) (fun _ s₅ => ∃ m, m < n ∧ I m s₅) (fun _ _ => False) s₄) (fun _ _ => False) s₃
      else ∃ m, m < n ∧ I m s₃) (fun _ _ => False) s₂) (fun _ _ => False) s₁') (fun _ _ => False) s₁) (fun _ _ => False) s)
  (n : Nat) (h : I n s) :
  codeAny (model prog w) A (.compLoop (.ListComp elt [⟨target, iter, ifs, 0⟩] scope pos) 0 it acc env) R s := by
 refine codeAny_loop rfl I (fun n s hI => ?_) n h
 show wpAny _ A ((compTurn (.ListComp elt [⟨target, iter, ifs, 0⟩] scope pos) 0 it acc env).onRaise (fun x => do noteFrame x env; theTreesLotGoes x)) _ _ s
 refine wpAny_noted ?_
 rw [compTurn_list]
 refine wpAny_bind (wpAny_standAt (wpAny_bind (wpAny_mono (turn n s hI) (fun r s₁ h₁ => ?_) fun _ _ h' => h'.elim)))
 cases r with
 | none => exact wpAny_pure h₁
 | some v =>
  refine wpAny_bind (wpAny_mono h₁ (fun _ s₁' h₁' => ?_) fun _ _ h' => h'.elim)
  refine wpAny_bind (wpAny_mono h₁' (fun _ s₂ h₂ => wpAny_bind (wpAny_mono h₂ (fun ok s₃ h₃ => ?_) fun _ _ h' => h'.elim)) fun _ _ h' => h'.elim)
  cases ok with
  | false => exact wpAny_pure ⟨rfl, h₃⟩
  | true =>
   exact wpAny_bind (wpAny_bind (wpAny_mono h₃ (fun x s₄ h₄ => wpAny_bind (wpAny_mono h₄ (fun _ s₅ h₅ => wpAny_pure (wpAny_pure ⟨rfl, h₅⟩)) fun _ _ h' => h'.elim)) fun _ _ h' => h'.elim))
theorem comp_block {own : List Str} {caps : List Nat} {N' : List Str} {esc scope : Scope} {elt iter tg : Expr} {ifs : List Expr} {pos : Pos} {g : TG} {tc : TT} {te : TE} {cl : List (Str × Addr)}
  (hesc : X.env.scope = esc) (S : CompScope X.N esc own caps N' scope) (hc : X.calm = true)
  (hcl1 : ∀ y c, cl.lookup y = some c → X.env.cells.lookup y = some c) (hcl2 : ∀ y ∈ scope.names, y.2 = .free → ∃ c, cl.lookup y.1 = some c)
  (hg : ∀ cl C s H ex, PG (compCx X scope cl N' C s H ex) tg g) (ht : ∀ cl C s H ex, PIf (compCx X scope cl N' C s H ex) ifs tc) (he : ∀ cl C s H ex, PE (compCx X scope cl N' C s H ex) elt te)
  {pins : List (Addr × Obj)} {σ : St} {H2 : Hp} {s2 : Shared} {it : Addr} {fp : List Addr} {tn : Nat → Heap → Prop} {J : It} {Q : VK} {RR : Value → Addr → Result → Shared → Prop} {E : Value → Shared → Prop}
  (I2 : Inv X pins σ H2 s2) (T : Turn X.prog X.w X.K tg J fp it tn) (st2 : tn 0 s2.heap) (f2 : ∀ b ∈ fp, FpOk X pins H2 b)
  (h : CompK own caps g tc te σ Q J H2)
  (hRR : ∀ D C s' m H', s'.heap.Ns C m → C ≠ X.env.locals → (∀ x c, X.env.cells.lookup x = some c → c ≠ C) → X.s₀.heap.objs.size ≤ C → (∀ p ∈ X.pn ++ pins, p.1 ≠ C) → H' C = none → Q (.ref D) H' → (∀ h', Heap.SameBut C s'.heap h' → Inv X pins σ H' { s' with heap := h' }) → RR (.ref D) C (.ok .next) s') :
  wpAny (model X.prog X.w) X.A (newList []) (fun acc s₃ => wpAny (model X.prog X.w) X.A (newFunctionEnv scope X.env.globals cl [] X.env.qual none .none (some X.env)) (fun cenv s₄ =>
   codeAny (model X.prog X.w) X.A (.compStart (.ListComp elt [⟨tg, iter, ifs, 0⟩] scope pos) 0 (.ref it) acc { cenv with scope := relabel scope X.env }) (RR acc cenv.locals) s₄) E s₃) E s2 := by
 refine wpAny_newObj_type (newEnvX ?_)
 dsimp only
 have hD : H2 s2.heap.objs.size = none := I2.hok.fresh (Nat.le_refl _)
 obtain ⟨W, ⟨m0, w0⟩, turn⟩ := h _ hD
 generalize hH3 : s2.heap.push { cls := .type "list", dict := none, data := .seq ([] : List Value).toArray } = g3
 have hC : g3.objs.size = s2.heap.objs.size + 1 := by rw [← hH3, Heap.size_push]
 have old3 : ∀ b o, s2.heap.get? b = some o → g3.get? b = some o := fun b o e => hH3 ▸ Heap.get?_push_of_some _ e
 have I3 : Inv X pins σ (upd H2 s2.heap.objs.size (.lst [])) { s2 with heap := g3, toks := s2.toks } :=
  I2.laid (t' := s2.toks) old3 (Nat.le_refl _) ⟨Nat.zero_le _, [], 0, .nil, hH3 ▸ Heap.get?_push_size _ rfl⟩
 generalize hh1 : pushCells (g3.push { cls := .type "dict", data := .dict #[] }) scope.names = h₁
 have k1 : ∀ b o, g3.get? b = some o → h₁.get? b = some o := fun b o e => hh1 ▸ pushCells_keeps _ _ b o (Heap.get?_push_of_some _ e)
 have hns₁ : h₁.Ns g3.objs.size (fun _ => none) := hh1 ▸ (Heap.Ns.new g3 (.type "dict")).keeps (pushCells_keeps _ _)
 have okA : CellsOk h₁ (g3.objs.size + 1) (cellsFrom (g3.objs.size + 1) scope.names []) := by
  have q := cellsFrom_ok scope.names (g3.push { cls := .type "dict", data := .dict #[] }) (g3.objs.size + 1) [] ⟨fun _ _ hm => (nomatch hm), List.Pairwise.nil⟩ (by rw [Heap.size_push]; exact Nat.le_refl _)
  rw [Heap.size_push, hh1] at q
  exact q
 have hcl' : cellsFrom (g3.objs.size + 1) scope.names cl = cellsFrom (g3.objs.size + 1) scope.names [] ++ cl := cells_app _ _ _
 have hsomeA : ∀ y, scope.names.lookup y = some .cell → ∃ c, (cellsFrom (g3.objs.size + 1) scope.names []).lookup y = some c := fun y hy => Option.isSome_iff_exists.mp (PySem.W.cellsFrom_some scope.names (g3.objs.size + 1) [] (.inl hy))
 generalize hcA : cellsFrom (g3.objs.size + 1) scope.names [] = cA at okA hcl' hsomeA
 have memA : ∀ y c, cA.lookup y = some c → (y, NameKind.cell) ∈ scope.names := fun y c e => by
  have := PySem.mem_of_lookup e
  rw [← hcA] at this
  rcases cells_mem _ _ _ this with z | z
  ·exact z
  ·cases z
 generalize hcE : cellsFrom (g3.objs.size + 1) scope.names cl = cE at hcl'
 have lkE : ∀ y c, cE.lookup y = some c → cA.lookup y = some c ∨ (cA.lookup y = none ∧ cl.lookup y = some c) := fun y c e => by
  rw [hcl', List.lookup_append] at e
  cases q : cA.lookup y with
  | none => rw [q] at e; exact .inr ⟨rfl, by simpa using e⟩
  | some c' => rw [q] at e; exact .inl (by simpa using e)
 have lkF : ∀ y c, scope.names.lookup y = some .free → cl.lookup y = some c → cE.lookup y = some c := fun y c hy e => by
  rw [hcl', List.lookup_append]
  cases q : cA.lookup y with
  | none => simpa using e
  | some c' =>
   have := nd_lookup S.ndn (memA y c' q)
   rw [hy] at this
   cases this
 have fpn : ∀ b ∈ fp, upd H2 s2.heap.objs.size (.lst []) b = none := fun b hb => by
  obtain ⟨o, ho, _⟩ := T.obj _ _ st2 b hb
  rw [upd_ne (Nat.ne_of_lt (Heap.lt_size ho))]
  exact (f2 b hb).1
 have fplt : ∀ b ∈ fp, b < g3.objs.size := fun b hb => by
  obtain ⟨o, ho, _⟩ := T.obj _ _ st2 b hb
  rw [hC]; exact Nat.lt_succ_of_lt (Heap.lt_size ho)
 generalize hX' : compCx X scope cE N' g3.objs.size { s2 with heap := g3, toks := s2.toks } (upd H2 s2.heap.objs.size (.lst [])) fp = X'
 have hfs : X'.fs = frs X.stack := by rw [← hX']; rfl
 have kindL : ∀ y, X'.env.kindOf y = some .cell ∨ X'.env.kindOf y = some .free → ∃ c, cE.lookup y = some c := fun y hy => by
  have hy' : (relabel scope X.env).names.lookup y = some .cell ∨ (relabel scope X.env).names.lookup y = some .free := by rw [← hX'] at hy; exact hy
  have hf : scope.names.lookup y = some .free → ∃ c, cE.lookup y = some c := fun hf => by
   obtain ⟨c, hc'⟩ := hcl2 _ (mem_of_lookup' hf) rfl
   exact ⟨c, lkF y c hf hc'⟩
  have hcc : scope.names.lookup y = some .cell → ∃ c, cE.lookup y = some c := fun hf => by
   obtain ⟨c, hc'⟩ := hsomeA y hf
   exact ⟨c, by rw [hcl', List.lookup_append, hc']; rfl⟩
  rcases hy' with q | q
  ·rcases lookup_relabel q with z | z
   ·exact hcc z
   ·exact hf z.2
  ·rcases lookup_relabel q with z | z
   ·exact hf z
   ·exact absurd z.1 (by decide)
 have cellsX : X'.env.cells = cE := by rw [← hX']; rfl
 have locX : X'.env.locals = g3.objs.size := by rw [← hX']; rfl
 have cne : ∀ x c, cl.lookup x = some c → c ≠ g3.objs.size ∧ c < g3.objs.size := fun x c e => by
  obtain ⟨v, q⟩ := I3.cell x c (hcl1 x c e)
  exact ⟨Nat.ne_of_lt q.lt, q.lt⟩
 have aboveA : ∀ x c, cA.lookup x = some c → g3.objs.size + 1 ≤ c := fun x c e => (okA.empty x c (PySem.mem_of_lookup e)).2
 have injE : ∀ x y c, cE.lookup x = some c → cE.lookup y = some c → x = y := fun x y c a b => by
  rcases lkE x c a with a | ⟨_, a⟩ <;> rcases lkE y c b with b | ⟨_, b⟩
  ·exact name_of_addr okA.apart (PySem.mem_of_lookup a) (PySem.mem_of_lookup b)
  ·have h1 : g3.objs.size + 1 ≤ c := aboveA x c a
   exact absurd (Nat.lt_of_lt_of_le (cne y c b).2 (Nat.le_of_succ_le h1)) (Nat.lt_irrefl _)
  ·have h1 : g3.objs.size + 1 ≤ c := aboveA y c b
   exact absurd (Nat.lt_of_lt_of_le (cne x c a).2 (Nat.le_of_succ_le h1)) (Nat.lt_irrefl _)
  ·exact I3.ok.inj x y c (hcl1 x c a) (hcl1 y c b)
 have ok' : X'.Ok := by
  refine hX' ▸ ⟨I3.ok.mod, S.kind, I3.ok.glob, I3.ok.blt, Nat.le_refl _, injE, ?_, ?cab, I3.ok.hd, I3.ok.frames, .inl rfl, ?_, ?_, ?_, ?_, ?_, I3.stack, I3.stkFree⟩
  ·intro y hy
   exact kindL y (by rw [← hX']; exact hy)
  ·intro x c z e
   have hm := nd_lookup S.ndn (cellB_mem z)
   rcases lkE x c e with e | ⟨n, _⟩
   ·exact Nat.le_of_succ_le (aboveA x c e)
   ·obtain ⟨c', hc'⟩ := hsomeA x hm
    rw [n] at hc'
    cases hc'
  ·intro b hb
   refine ⟨Nat.ne_of_lt (fplt b hb), fun x c e => ?_⟩
   rcases lkE x c e with e | ⟨_, e⟩
   ·have h1 : g3.objs.size + 1 ≤ c := aboveA x c e
    exact fun z => absurd (Nat.lt_of_lt_of_le (fplt b hb) (Nat.le_of_succ_le h1)) (by rw [z]; exact Nat.lt_irrefl _)
   ·exact (f2 b hb).2.2.2.2.1 x c (hcl1 x c e)
  ·exact I3.bs
  ·exact Nat.le_trans I3.ok.bsz I3.sz
  ·intro b o e hb
   rcases (f2 b hb).2.2.2.1 with z | z
   ·exact I3.ok.noex b o e z
   ·exact absurd (Nat.lt_of_lt_of_le (Heap.lt_size e) (Nat.le_trans I3.ok.bsz z)) (Nat.lt_irrefl _)
  ·intro b hb z
   rcases List.mem_cons.mp (I3.stkSub b z) with e | e
   ·exact (f2 b hb).2.1 e
   ·exact (f2 b hb).2.2.1 e
 have I4 : Inv X' [] (capS own caps σ) (upd H2 s2.heap.objs.size (.lst [])) { s2 with heap := h₁, toks := s2.toks } := by
  refine ⟨ok', hX' ▸ rfl, I3.bare, ?_, ⟨_, by rw [locX]; exact hns₁, ?_⟩, ?_, ?_, ?_, ?_, ?_, ?_⟩
  ·rw [← hX']; exact Un.kept k1
  ·intro i x v hN hσ hV
   have hN' : N'[i]? = some x := by rw [← hX'] at hN; exact hN
   unfold capS at hσ
   by_cases hi : i < own.length
   ·rw [List.getElem?_append_left (by simpa using hi), List.getElem?_replicate] at hσ
    rw [if_pos hi] at hσ; cases hσ
   ·rw [List.getElem?_append_right (by simpa using hi), List.length_replicate, List.getElem?_map] at hσ
    rw [S.eqN, List.getElem?_append_right (by omega), List.getElem?_map] at hN'
    cases hj : caps[i - own.length]? with
    | none => rw [hj] at hσ; cases hσ
    | some j =>
     rw [hj] at hσ hN'
     have hx : X.N.getD j "" = x := Option.some.inj hN'
     obtain ⟨hjl, hjf⟩ := S.cap j (List.mem_of_getElem? hj)
     rw [hx] at hjf
     have hjN : X.N[j]? = some x := by
      rw [List.getElem?_eq_getElem hjl, ← hx, List.getD_eq_getElem?_getD, List.getElem?_eq_getElem hjl]; rfl
     have hv : σ[j]? = some (some v) := by
      have q : (σ[j]?).join = some v := Option.some.inj hσ
      cases q' : σ[j]? with
      | none => rw [q'] at q; cases q
      | some o => rw [q'] at q; rw [show o = some v from q]
     have hkX := S.fr (x, .free) (mem_of_lookup' hjf) rfl
     rw [← hesc] at hkX
     obtain ⟨m, hn, hl⟩ := I3.loc
     have visX : Vis X.env.scope x := hkX.elim (fun z => .inr (.inl z)) fun z => .inr (.inr z)
     obtain ⟨u, ru, look⟩ := hl j x v hjN hv visX
     refine ⟨u, ru, ?_⟩
     obtain ⟨c, hcc⟩ := hcl2 (x, .free) (mem_of_lookup' hjf) rfl
     rcases look with ⟨a, _⟩ | ⟨_, c', hc', hcell⟩
     ·rcases hkX with z | z
      ·rw [show X.env.kindOf x = X.env.scope.names.lookup x from rfl, z] at a; cases a
      ·rw [show X.env.kindOf x = X.env.scope.names.lookup x from rfl, z] at a; cases a
     ·have : c' = c := by rw [hcl1 _ _ hcc] at hc'; cases hc'; rfl
      subst this
      refine .inr ⟨?_, c', by rw [cellsX]; exact lkF _ _ hjf hcc, hcell.keeps k1⟩
      rcases hV with q | q | q
      ·have q' : (relabel scope X.env).names.lookup x = some .local := by rw [← hX'] at q; exact q
       rcases lookup_relabel q' with z | z
       ·rw [hjf] at z; cases z
       ·exact absurd z.1 (by decide)
      ·exact .inl q
      ·exact .inr q
  ·intro x c e
   rw [cellsX] at e
   rcases lkE x c e with e | ⟨_, e⟩
   ·exact ⟨_, (okA.empty x c (PySem.mem_of_lookup e)).1⟩
   ·obtain ⟨v, q⟩ := I3.cell x c (hcl1 x c e)
    exact ⟨v, q.keeps k1⟩
  ·rw [locX]; exact I3.hok.fresh (Nat.le_refl _)
  ·intro x c e
   rw [cellsX] at e
   rcases lkE x c e with e | ⟨_, e⟩
   ·exact I3.hok.fresh (Nat.le_of_succ_le (aboveA x c e))
   ·exact I3.freeC x c (hcl1 x c e)
  ·intro p hp
   have : p ∈ ([] : List (Addr × Obj)) := by rw [← hX'] at hp; exact hp
   cases this
  ·rw [← hX']; exact I3.hok.kept k1
  ·rw [← hX']
   show (capS own caps σ).length = N'.length
   unfold capS
   rw [S.eqN, List.length_append, List.length_append, List.length_replicate, List.length_map, List.length_map]
 have pX : X'.prog = X.prog := by rw [← hX']; rfl
 have wX : X'.w = X.w := by rw [← hX']; rfl
 have KX : X'.K = X.K := by rw [← hX']; rfl
 have AX : X'.A = X.A := by rw [← hX']; rfl
 have cX : X'.calm = true := by rw [← hX']; exact hc
 have xX : X'.xe = fun _ _ => False := by rw [← hX']; rfl
 have envX : X'.env = compEnvC scope cE g3.objs.size X.env := by rw [← hX']; rfl
 have exX : X'.ex = fp := by rw [← hX']; rfl
 have hg' : PG X' tg g := hX' ▸ hg _ _ _ _ _
 have ht' : PIf X' ifs tc := hX' ▸ ht _ _ _ _ _
 have he' : PE X' elt te := hX' ▸ he _ _ _ _ _
 have fpk : ∀ {H' : Hp}, (∀ b ∈ fp, H' b = none) → ∀ b ∈ fp, FpOk X' [] H' b := fun {H'} hn b hb => by
  refine ⟨hn b hb, ?_, ?_, ?_, ?_, ?_⟩
  ·rw [locX]; exact Nat.ne_of_lt (fplt b hb)
  ·rw [hfs]; intro z
   rcases List.mem_cons.mp (I3.stkSub b z) with e | e
   ·exact (f2 b hb).2.1 e
   ·exact (f2 b hb).2.2.1 e
  ·rw [exX]; exact .inl hb
  ·intro x c e
   rw [cellsX] at e
   rcases lkE x c e with e | ⟨_, e⟩
   ·have h1 : g3.objs.size + 1 ≤ c := aboveA x c e
    exact fun z => absurd (Nat.lt_of_lt_of_le (fplt b hb) (Nat.le_of_succ_le h1)) (by rw [z]; exact Nat.lt_irrefl _)
   ·exact (f2 b hb).2.2.2.2.1 x c (hcl1 x c e)
  ·intro p hp
   have : p ∈ ([] : List (Addr × Obj)) := by rw [← hX'] at hp; exact hp
   cases this
 have st1 : tn 0 h₁ := T.keep _ _ _ st2 fun b hb o e => k1 b o (old3 b o e)
 have back : ∀ {σ' : St} {H' : Hp} {s' : Shared} {pp : List (Addr × Obj)} {h' : Heap}, Inv X' pp σ' H' s' → Heap.SameBut g3.objs.size s'.heap h' → Inv X pins σ H' { s' with heap := h' } := fun {σ' H' s' pp h'} I' sb => by
  have u := I'.base
  rw [hfs, exX] at u
  have hs0 : X'.s₀.heap = g3 := by rw [← hX']; rfl
  have hH0 : X'.H₀ = upd H2 s2.heap.objs.size (.lst []) := by rw [← hX']; rfl
  rw [hs0, hH0] at u
  have ne : ∀ b o, g3.get? b = some o → b ≠ g3.objs.size := fun b o e => Nat.ne_of_lt (Heap.lt_size e)
  have hCn : H' g3.objs.size = none := by have := I'.free; rw [locX] at this; exact this
  refine I3.call' (s' := { s' with heap := h' }) (ch := fp) ?_ ⟨?_, ?_, ?_, ?_, ?_, ?_, ?_⟩ ?_ I'.bare ?_
  ·have := I'.os; rw [← hX'] at this; exact this
  ·intro b o e n hb hx; exact sb.extBut b o (ne b o e) (u.keep b o e n hb hx)
  ·intro b o e n hb hx
   obtain ⟨sl, q⟩ := u.slot b o e n hb hx
   exact ⟨sl, sb.extBut b _ (ne b o e) q⟩
  ·exact u.free
  ·intro b o e hx
   obtain ⟨o', q⟩ := u.there b o e hx
   exact ⟨o', sb.extBut b _ (ne b o e) q⟩
  ·exact u.tups
  ·exact u.frzs
  ·exact u.tbls
  ·have hok := I'.hok
   rw [pX, wX] at hok
   intro a o e
   refine (hok a o e).stay (fun b v hb r => sb.extBut b v ?_ r) (fun b r => r) fun b xs r => r
   rcases hb with rfl | hb
   ·intro z; rw [z, hCn] at e; cases e
   ·intro z; rw [z, hCn] at hb; cases hb
  ·intro b hb
   refine ⟨(f2 b hb).2.2.2.1, (f2 b hb).2.1, (f2 b hb).2.2.2.2.1, (f2 b hb).2.2.2.2.2⟩
 have loop : ∀ s3 : Shared, s3 = { s2 with heap := h₁, toks := s2.toks } →
   codeAny (model X.prog X.w) X.A (.compLoop (.ListComp elt [⟨tg, iter, ifs, 0⟩] scope pos) 0 (.ref it) (.ref s2.heap.objs.size) (compEnvC scope cE g3.objs.size X.env)) (RR (.ref s2.heap.objs.size) g3.objs.size) s3 := by
  rintro s3 rfl
  refine codeAny_compLoop_gen (fun n s' => ∃ i σ' H', Inv X' [] σ' H' s' ∧ tn i s'.heap ∧ (∀ b ∈ fp, H' b = none) ∧ W i n σ' H') ?_ m0 ⟨0, _, _, I4, st1, fpn, w0⟩
  rintro n s5 ⟨i, σ5, H5, I5, st5, fr5, w5⟩
  rcases turn i n σ5 H5 w5 with ⟨stop, qn⟩ | ⟨go, N, hN, step⟩
  ·have q := T.done X' pX wX KX cX i [] s5 σ5 H5 (fun _ _ => False) I5 (fpk fr5) st5 stop
   rw [AX] at q
   refine thn q fun r s6 ⟨hr, I6⟩ => ?_
   subst hr
   obtain ⟨m, hn, _⟩ := I6.loc
   rw [locX] at hn
   refine hRR _ _ s6 m H5 hn ?_ ?_ I3.sz ?_ ?_ qn fun h' sb => back I6 sb
   ·exact Nat.ne_of_gt I3.lt
   ·intro x c e
    obtain ⟨v, q⟩ := I3.cell x c e
    exact Nat.ne_of_lt q.lt
   ·intro pp hpp
    exact Nat.ne_of_lt (Heap.lt_size (I3.pin pp hpp).1)
   ·have := I6.free; rw [locX] at this; exact this
  ·have q := T.item X' pX wX KX cX i [] s5 σ5 H5 (fun _ _ => False) I5 (fpk fr5) st5 go
   rw [AX] at q
   refine thn q fun r s6 ⟨u, hr, h6⟩ => ?_
   subst hr
   refine thn h6 fun _ s7 ⟨x, H7, I7, r7, y7, st7, fr7⟩ => ?_
   have I7' := I7.pinned (fpk fr7) (T.obj _ _ st7)
   have q8 := hg' _ s7 σ5 H7 x u _ I7' r7 (step x H7 y7)
   rw [pX, wX, AX, envX, xX] at q8
   refine thn q8 fun _ s8 ⟨σ8, H8, I8, q8⟩ => ?_
   have q9 := ht' _ s8 σ8 H8 _ I8 q8
   rw [pX, wX, AX, envX, xX] at q9
   have again : ∀ {σ' : St} {H' : Hp} {s' : Shared}, Inv X' ([] ++ pinsAt fp s7.heap) σ' H' s' → N σ' H' → ∃ m, m < n ∧ ∃ i σ' H', Inv X' [] σ' H' s' ∧ tn i s'.heap ∧ (∀ b ∈ fp, H' b = none) ∧ W i m σ' H' := fun {σ' H' s'} I' n' => by
    obtain ⟨m', hm, w'⟩ := hN σ' H' n'
    refine ⟨m', hm, i + 1, σ', H', I'.unpinned, T.keep _ _ _ st7 fun b hb o e => (I'.pin (b, o) (List.mem_append_right _ (List.mem_append_right _ (mem_pinsAt hb e)))).1, fun b hb => ?_, w'⟩
    obtain ⟨o, e, d⟩ := T.obj _ _ st7 b hb
    exact (I'.pin (b, o) (List.mem_append_right _ (List.mem_append_right _ (mem_pinsAt hb e)))).2.1
   refine thn q9 fun ok s9 ⟨H9, I9, q9⟩ => ?_
   cases ok with
   | false =>
    simp only [Bool.false_eq_true, if_false] at q9 ⊢
    exact again I9 q9
   | true =>
    simp only [if_true] at q9 ⊢
    have q10 := he' _ s9 σ8 H9 _ I9 q9
    rw [pX, wX, AX, envX, xX] at q10
    refine thn q10 fun y s10 ⟨v, H10, I10, rv, xs, hxs, hz, q10⟩ => ?_
    have q11 := mt_append (X := X') _ s10 σ8 H10 (.ref s2.heap.objs.size) [v] (.ref s2.heap.objs.size) [y] (fun _ H' => N σ8 H') I10 rfl (.cons rv .nil) ⟨_, xs, v, rfl, rfl, hxs, hz, q10⟩
    rw [pX, wX, AX, xX] at q11
    exact thn q11 fun _ s11 ⟨_, H11, I11, _, q11⟩ => again I11 q11
 exact codeAny_compStart_list (loop _ rfl) (T.self _ 0 _ _ _ st1 (loop _ rfl))
theorem pe_comp {own : List Str} {caps : List Nat} {N' : List Str} {esc scope : Scope} {elt iter tg : Expr} {ifs : List Expr} {pos : Pos} {wi : TI} {g : TG} {tc : TT} {te : TE}
  (hesc : X.env.scope = esc) (S : CompScope X.N esc own caps N' scope) (hc : X.calm = true) (hi : PI X tg iter wi)
  (hg : ∀ cl C s H ex, PG (compCx X scope cl N' C s H ex) tg g) (ht : ∀ cl C s H ex, PIf (compCx X scope cl N' C s H ex) ifs tc) (he : ∀ cl C s H ex, PE (compCx X scope cl N' C s H ex) elt te)
  (hs : ∀ x, foldedSetIterable iter X.env x = pure x := by intro _; rfl) :
  PE X (.ListComp elt [⟨tg, iter, ifs, 0⟩] scope pos) (tComp own caps wi g tc te) := by
 intro pins s σ H Q I h
 obtain ⟨cl, hcl, hcl1, hcl2⟩ := closure_of (scope := scope) (env := X.env) fun y hy hf => by
  have := S.fr y hy hf
  rw [← hesc] at this
  exact I.ok.has y.1 this
 rw [eval_ListComp]
 refine wpAny_comprehension_free (use := none) rfl hs hcl S.kind S.uniq (thn (hi pins s σ H _ I h) fun v s1 h1 => thn h1 fun itv s2 h2 => ?_)
 obtain ⟨it, fp, tn, J, H2, e, I2, T, st2, f2, q⟩ := h2
 subst e
 refine comp_block (RR := fun acc C => compPost (model X.prog X.w) X.A X.xe none (EP X pins σ Q) acc C) hesc S hc hcl1 hcl2 hg ht he I2 T st2 f2 q ?_
 intro D C s' m H' hn _ _ _ _ _ q' hb
 exact ⟨m, hn, fun h' sb => ⟨.ref D, H', hb h' sb, rfl, q'⟩⟩
theorem ps_setComp {own : List Str} {caps : List Nat} {N' : List Str} {esc scope : Scope} {elt iter tg : Expr} {ifs : List Expr} {pos spos py : Pos} {y : Str} {i : Nat} {wi : TI} {g : TG} {tc : TT} {te : TE}
  (hesc : X.env.scope = esc) (S : CompScope X.N esc own caps N' scope) (hc : X.calm = true) (hi : PI X tg iter wi)
  (hg : ∀ cl C s H ex, PG (compCx X scope cl N' C s H ex) tg g) (ht : ∀ cl C s H ex, PIf (compCx X scope cl N' C s H ex) ifs tc) (he : ∀ cl C s H ex, PE (compCx X scope cl N' C s H ex) elt te)
  (hN : X.N.Nodup) (hy : X.N[i]? = some y) (hx : Loc X.env.scope y) (hf : X.fn y = true ∨ X.env.scope.names.lookup y = some .local)
  (hsw : swapsWith (.ListComp elt [⟨tg, iter, ifs, 0⟩] scope pos) (some (.Name y py)) spos.line X.env = pure true)
  (hs : ∀ x, foldedSetIterable iter X.env x = pure x := by intro _; rfl) :
  PS X (.Assign [.Name y py] (.ListComp elt [⟨tg, iter, ifs, 0⟩] scope pos) spos) (tAsg (tComp own caps wi g tc te) (gName i)) := by
 intro pins s σ H D0 I h
 obtain ⟨cl, hcl, hcl1, hcl2⟩ := closure_of (scope := scope) (env := X.env) fun y hy hf => by
  have := S.fr y hy hf
  rw [← hesc] at this
  exact I.ok.has y.1 this
 rw [exec_Assign_Name_used _ _ _ _ hsw]
 refine wpAny_bind (wpAny_standAt (wpAny_bind ?_))
 show wpAny _ X.A (do let _ ← comprehension (.ListComp elt [⟨tg, iter, ifs, 0⟩] scope pos) scope X.env _ (newList []) false (eval iter X.env) (some (assign (.Name y py) X.env))) _ _ s
 refine wpAny_bind (wpAny_mono (wpAny_comprehension_free (use := some (assign (.Name y py) X.env)) (Q := fun _ s' => SP X pins D0 .next s') rfl hs hcl S.kind S.uniq
  (thn (hi pins s σ H _ I h) fun v s1 h1 => thn h1 fun itv s2 h2 => ?_)) (fun _ s' hq => wpAny_pure (wpAny_pure hq)) fun _ _ e => e)
 obtain ⟨it, fp, tn, J, H2, e, I2, T, st2, f2, q⟩ := h2
 subst e
 refine comp_block (RR := fun acc C => compPost (model X.prog X.w) X.A X.xe (some (assign (.Name y py) X.env)) (fun _ s' => SP X pins D0 .next s') acc C) hesc S hc hcl1 hcl2 hg ht he I2 T st2 f2 q ?_
 intro D C s' m H' hn hCL hCc hC0 hCp hCn q' hb
 have I' : Inv X pins σ H' s' := hb s'.heap (.refl ..)
 show wpAny _ X.A (assign (.Name y py) X.env (.ref D)) _ _ s'
 refine wpAny_assign_Name (store_ok2 I' hN hy hx (v := .ref D) rfl (fun s'' I'' ⟨a, sb, ha⟩ => ?_) hf)
 have hCa : C ≠ a := by
  rcases ha with rfl | ha
  ·exact hCL
  ·exact fun z => hCc y a ha z.symm
 refine ⟨m, hn.sameBut sb hCa, fun h' sb' => ⟨_, H', ?_, q'⟩⟩
 exact I''.turned (t' := s''.toks) (fun b o hb e => sb'.extBut b o hb e) hCn hCL (.inr hC0) hCc hCp
end
section
variable {κ : Type} [DecidableEq κ]
def valV (kvs : List (κ × V)) (k : κ) : Option V := (kvs.find? fun kv => decide (kv.1 = k)).map (·.2)
def putK (kvs : List (κ × V)) (k : κ) (v : V) : List (κ × V) :=
 if (kvs.any fun kv => decide (kv.1 = k)) = true then kvs.map (fun kv => if kv.1 = k then (kv.1, v) else kv) else kvs ++ [(k, v)]
theorem valV_pos {p : κ × V} {r : List (κ × V)} {k : κ} (e : p.1 = k) : valV (p :: r) k = some p.2 := by simp [valV, List.find?_cons, e]
theorem valV_neg {p : κ × V} {r : List (κ × V)} {k : κ} (e : ¬ p.1 = k) : valV (p :: r) k = valV r k := by simp [valV, List.find?_cons, e]
theorem valV_any (k : κ) : ∀ kvs : List (κ × V), (kvs.any fun kv => decide (kv.1 = k)) = (valV kvs k).isSome
 | [] => rfl
 | p :: r => by
  rw [List.any_cons]
  by_cases e : p.1 = k
  ·simp only [valV_pos e, decide_eq_true e, Bool.true_or, Option.isSome_some]
  ·rw [valV_neg e, decide_eq_false e, Bool.false_or]; exact valV_any k r
theorem length_putK (kvs : List (κ × V)) (k : κ) (v : V) : (putK kvs k v).length ≤ kvs.length + 1 := by
 unfold putK
 split
 ·rw [List.length_map]; omega
 ·rw [List.length_append, List.length_cons, List.length_nil]; omega
theorem putK_new {kvs : List (κ × V)} {k : κ} (v : V) (h : valV kvs k = none) : putK kvs k v = kvs ++ [(k, v)] := by
 unfold putK
 rw [valV_any, h]
 exact if_neg (by decide)
theorem RelO.isSome_eq {o : Option V} {u : Option Value} (r : RelO o u) : o.isSome = u.isSome := by
 cases o with
 | none => cases u with
  | none => rfl
  | some _ => exact (show False from r).elim
 | some _ => cases u with
  | none => exact (show False from r).elim
  | some _ => rfl
theorem KV.val {kvs : List (κ × V)} {vs : List (κ × Value)} (r : KV kvs vs) (k : κ) : RelO (valV kvs k) (valueAt vs k) := by
 unfold KV at r
 induction r with
 | nil => exact True.intro
 | @cons p q ps qs h t ih =>
  obtain ⟨h1, h2⟩ := h
  by_cases e : p.1 = k
  ·have e' : q.1 = k := h1.symm.trans e
   have b : valueAt (q :: qs) k = some q.2 := by simp [valueAt, List.find?_cons, e']
   rw [valV_pos e, b]; exact h2
  ·have e' : ¬ q.1 = k := fun z => e (h1.trans z)
   have b : valueAt (q :: qs) k = valueAt qs k := by simp [valueAt, List.find?_cons, e']
   rw [valV_neg e, b]; exact ih
theorem KV.any {kvs : List (κ × V)} {vs : List (κ × Value)} (r : KV kvs vs) (k : κ) : (kvs.any fun kv => decide (kv.1 = k)) = vs.any fun kv => decide (kv.1 = k) := by
 unfold KV at r
 induction r with
 | nil => rfl
 | cons h t ih => rw [List.any_cons, List.any_cons, ih, h.1]
theorem KV.repl {kvs : List (κ × V)} {vs : List (κ × Value)} (r : KV kvs vs) (k : κ) {y : V} {u : Value} (ry : RelV y u) :
  KV (kvs.map fun kv => if kv.1 = k then (kv.1, y) else kv) (vs.map fun kv => if kv.1 = k then (kv.1, u) else kv) := by
 unfold KV at r ⊢
 induction r with
 | nil => exact .nil
 | @cons p q ps qs h t ih =>
  rw [List.map_cons, List.map_cons]
  refine .cons ?_ ih
  obtain ⟨h1, h2⟩ := h
  by_cases e : p.1 = k
  ·rw [if_pos e, if_pos (h1.symm.trans e)]; exact ⟨h1, ry⟩
  ·rw [if_neg e, if_neg (fun z => e (h1.trans z))]; exact ⟨h1, h2⟩
theorem KV.put {kvs : List (κ × V)} {vs : List (κ × Value)} (r : KV kvs vs) (k : κ) {y : V} {u : Value} (ry : RelV y u) : KV (putK kvs k y) (stored vs k u) := by
 unfold putK stored
 rw [r.any k]
 by_cases e : (vs.any fun kv => decide (kv.1 = k)) = true
 ·rw [if_pos e, if_pos e]; exact r.repl k ry
 ·rw [if_neg e, if_neg e]; exact Paired.snoc r ⟨rfl, ry⟩
theorem KV.keys {kvs : List (κ × V)} {vs : List (κ × Value)} (r : KV kvs vs) : kvs.map (·.1) = vs.map (·.1) := by
 unfold KV at r
 induction r with
 | nil => rfl
 | cons h t ih => rw [List.map_cons, List.map_cons, ih, h.1]
theorem KV.length {kvs : List (κ × V)} {vs : List (κ × Value)} (r : KV kvs vs) : kvs.length = vs.length := Paired.length r
end
theorem kV_is {P : Program} {w : World} {k : Key} {u : Value} (r : RelV (kV k) u) : (mixKind P w).is k u = true := by
 cases k with
 | inl i => obtain ⟨t, e⟩ := (show ∃ t, u = Value.int i t from r); subst e; exact mixKind_int P w i t
 | inr x => obtain ⟨t, e⟩ := (show ∃ t, u = Value.str x t from r); subst e; exact mixKind_str P w x t
theorem items_are {P : Program} {w : World} : ∀ {ks : List Key} {us : List Value}, Vals (ks.map kV) us → ItemsAre (mixKind P w) ks us
 | [], _, r => by rw [List.map_nil] at r; cases r; exact .nil
 | k :: ks, _, r => by
  rw [List.map_cons] at r
  cases r with
  | cons h t => exact .cons (kV_is h) (items_are t)
abbrev KT (H : Hp) : List (List Key × V) → List (List Key × Addr × Value) → Prop := Paired fun p q => p.1 = q.1 ∧ H q.2.1 = some (.tup (p.1.map kV)) ∧ RelV p.2 q.2.2
theorem KT.val {H : Hp} {kvs : List (List Key × V)} {xs : List (List Key × Addr × Value)} (r : KT H kvs xs) (k : List Key) : RelO (valV kvs k) ((atKey xs k).map (·.2)) := by
 induction r with
 | nil => exact True.intro
 | @cons p q ps qs h t ih =>
  obtain ⟨h1, _, h2⟩ := h
  by_cases e : p.1 = k
  ·have e' : q.1 = k := h1.symm.trans e
   have b : atKey (q :: qs) k = some q.2 := by simp [atKey, List.find?_cons, e']
   rw [valV_pos e, b]; exact h2
  ·have e' : ¬ q.1 = k := fun z => e (h1.trans z)
   have b : atKey (q :: qs) k = atKey qs k := by simp [atKey, List.find?_cons, e']
   rw [valV_neg e, b]; exact ih
theorem KT.repl {H : Hp} {kvs : List (List Key × V)} {xs : List (List Key × Addr × Value)} (r : KT H kvs xs) (k : List Key) {y : V} {u : Value} (ry : RelV y u) :
  KT H (kvs.map fun kv => if kv.1 = k then (kv.1, y) else kv) (xs.map (putAt k u)) := by
 induction r with
 | nil => exact .nil
 | @cons p q ps qs h t ih =>
  rw [List.map_cons, List.map_cons]
  refine .cons ?_ ih
  obtain ⟨h1, h2, h3⟩ := h
  unfold putAt
  by_cases e : p.1 = k
  ·rw [if_pos e, if_pos (h1.symm.trans e)]; exact ⟨h1, h2, ry⟩
  ·rw [if_neg e, if_neg (fun z => e (h1.trans z))]; exact ⟨h1, h2, h3⟩
theorem KT.put {H : Hp} {kvs : List (List Key × V)} {xs : List (List Key × Addr × Value)} (r : KT H kvs xs) (k : List Key) {b : Addr} {y : V} {u : Value} (hb : H b = some (.tup (k.map kV))) (ry : RelV y u) :
  KT H (putK kvs k y) (storedH xs k b u) := by
 have e : (kvs.any fun kv => decide (kv.1 = k)) = (atKey xs k).isSome := by
  rw [valV_any, (r.val k).isSome_eq, Option.isSome_map]
 unfold putK storedH
 rw [e]
 by_cases q : (atKey xs k).isSome = true
 ·rw [if_pos q, if_pos q]; exact r.repl k ry
 ·rw [if_neg q, if_neg q]; exact Paired.snoc r ⟨rfl, hb, ry⟩
theorem KT.keeps {H H' : Hp} {kvs : List (List Key × V)} {xs : List (List Key × Addr × Value)} (r : KT H kvs xs) (ht : ∀ b ys, H b = some (.tup ys) → H' b = some (.tup ys)) : KT H' kvs xs :=
 Paired.mapP r fun _ _ z => ⟨z.1, ht _ _ z.2.1, z.2.2⟩
section
variable {P : Program} {w : World} {H : Hp} {h : Heap} {a : Addr}
theorem rd_of {u : HO} (ok : HOk P w H h) (e : Rd H a u) : ObjOk P w H h a u := e.ok ok
theorem dk_rd {kvs : List (Key × V)} (ok : HOk P w H h) (e : Rd H a (.dK kvs)) : kvs.length ≤ sizeLine ∧ (a == sysModules) = false ∧ ∃ vs, KV kvs vs ∧ h.DictOf (mixKind P w) a vs :=
 show ObjOk P w H h a (.dK kvs) from rd_of ok e
theorem dk_of {kvs : List (Key × V)} (ok : HOk P w H h) (e : H a = some (.dK kvs)) : kvs.length ≤ sizeLine ∧ (a == sysModules) = false ∧ ∃ vs, KV kvs vs ∧ h.DictOf (mixKind P w) a vs := dk_rd ok (.inl e)
theorem key_of {ks : List Key} (ok : HOk P w H h) (e : H a = some (.tup (ks.map kV))) : (tupleKind (mixKind P w)).is h ks a := by
 obtain ⟨_, its, r, o, h1, h2, n, h3⟩ := (show ObjOk P w H h a (.tup (ks.map kV)) from ok a _ e)
 exact ⟨o, its.toArray, n, h1, h2, h3, by simpa using items_are r⟩
theorem dt_rd {kvs : List (List Key × V)} (ok : HOk P w H h) (e : Rd H a (.dT kvs)) : kvs.length ≤ sizeLine ∧ (a == sysModules) = false ∧
  ∃ xs, KT H kvs xs ∧ h.DictOfH (tupleKind (mixKind P w)) a xs := by
 obtain ⟨z, y, xs, r, o, es, ep, h1, h2, h3, h4, h5⟩ := (show ObjOk P w H h a (.dT kvs) from rd_of ok e)
 refine ⟨z, y, xs, r, o, es, ep, h1, h2, h3, h4, fun x hx => ?_, h5⟩
 have all : ∀ {l : List (List Key × V)} {m : List (List Key × Addr × Value)}, KT H l m → ∀ x ∈ m, (tupleKind (mixKind P w)).is h x.1 x.2.1 := by
  intro l m q
  induction q with
  | nil => intro x hx; exact nomatch hx
  | @cons p q ps qs hq t ih =>
   intro x hx
   rcases List.mem_cons.mp hx with e | hx
   ·subst e
    exact key_of ok (by rw [← hq.1]; exact hq.2.1)
   ·exact ih x hx
 exact all r x hx
theorem dt_of {kvs : List (List Key × V)} (ok : HOk P w H h) (e : H a = some (.dT kvs)) : kvs.length ≤ sizeLine ∧ (a == sysModules) = false ∧
  ∃ xs, KT H kvs xs ∧ h.DictOfH (tupleKind (mixKind P w)) a xs := dt_rd ok (.inl e)
end
def DGet (H : Hp) (a : Addr) (y : V) (r : Option V) : Prop :=
 (∃ kvs k, Rd H a (.dK kvs) ∧ y = kV k ∧ r = valV kvs k) ∨ ∃ kvs k b, Rd H a (.dT kvs) ∧ y = .ref b ∧ H b = some (.tup (k.map kV)) ∧ r = valV kvs k
def DPut (H : Hp) (a : Addr) (y v : V) (H' : Hp) : Prop :=
 (∃ kvs k, H a = some (.dK kvs) ∧ y = kV k ∧ kvs.length < sizeLine ∧ H' = upd H a (.dK (putK kvs k v))) ∨
 ∃ kvs k b, H a = some (.dT kvs) ∧ y = .ref b ∧ H b = some (.tup (k.map kV)) ∧ kvs.length < sizeLine ∧ H' = upd H a (.dT (putK kvs k v))
theorem DGet.k {H : Hp} {a : Addr} {kvs : List (Key × V)} {k : Key} (e : H a = some (.dK kvs)) : DGet H a (kV k) (valV kvs k) := .inl ⟨kvs, k, .inl e, rfl, rfl⟩
theorem DGet.t {H : Hp} {a b : Addr} {kvs : List (List Key × V)} {k : List Key} (e : H a = some (.dT kvs)) (eb : H b = some (.tup (k.map kV))) : DGet H a (.ref b) (valV kvs k) := .inr ⟨kvs, k, b, .inl e, rfl, eb, rfl⟩
theorem DPut.k {H : Hp} {a : Addr} {kvs : List (Key × V)} {k : Key} {v : V} (e : H a = some (.dK kvs)) (hl : kvs.length < sizeLine) : DPut H a (kV k) v (upd H a (.dK (putK kvs k v))) := .inl ⟨kvs, k, e, rfl, hl, rfl⟩
theorem DPut.t {H : Hp} {a b : Addr} {kvs : List (List Key × V)} {k : List Key} {v : V} (e : H a = some (.dT kvs)) (eb : H b = some (.tup (k.map kV))) (hl : kvs.length < sizeLine) :
  DPut H a (.ref b) v (upd H a (.dT (putK kvs k v))) := .inr ⟨kvs, k, b, e, rfl, eb, hl, rfl⟩
section
variable {X : Cx} {pins : List (Addr × Obj)} {σ : St} {H : Hp} {s : Shared} {a : Addr} {y v : V} {u r : Value} {o : Option V} {A : Around} {E : Value → Shared → Prop}
theorem Inv.big (I : Inv X pins σ H s) : sysModules < s.heap.objs.size := by
 have h : mainGlobals < s.heap.objs.size := (I.mod.glob.keeps I.bk).lt
 exact Nat.lt_trans (by decide) h
theorem d_getItem {Q : Value → Shared → Prop} (hu : A.units + 1 < cLine) (I : Inv X pins σ H s) (g : DGet H a y (some v)) (ry : RelV y u) (h : ∀ w' s', Inv X pins σ H s' → RelV v w' → Q w' s') :
  wpAny (model X.prog X.w) A (getItem (.ref a) u) Q E s := by
 rcases g with ⟨kvs, k, e, ey, l⟩ | ⟨kvs, k, b, e, ey, eb, l⟩
 ·subst ey
  obtain ⟨z, hd, vs, rel, dd⟩ := dk_rd I.hok e
  obtain ⟨w', hw, rw'⟩ := RelO.some_of (v := v) (o := valueAt vs k) (by rw [l]; exact rel.val k)
  exact wpAny_getItem_of (kV_is ry) dd.mapOf hw (h w' _ (I.tok _) rw')
 ·subst ey
  cases (show u = Value.ref b from ry)
  obtain ⟨z, hd, xs, rel, dd⟩ := dt_rd I.hok e
  obtain ⟨w', hw, rw'⟩ := RelO.some_of (v := v) (o := (atKey xs k).map (·.2)) (by rw [l]; exact rel.val k)
  obtain ⟨p, hp, hp2⟩ := Option.map_eq_some_iff.mp hw
  refine wpAny_getItem_heap (tupleKind_room_in1 hu) (key_of I.hok eb) dd hp ?_
  rw [hp2]
  exact h w' _ (I.tok _) rw'
theorem d_notIn {Q : Value → Shared → Prop} (hu : A.units + 1 < cLine) (I : Inv X pins σ H s) (g : DGet H a y o) (ry : RelV y u) (h : ∀ s', Inv X pins σ H s' → Q (.bool (!o.isSome)) s') :
  wpAny (model X.prog X.w) A (compareOp .NotIn u (.ref a)) Q E s := by
 rcases g with ⟨kvs, k, e, ey, l⟩ | ⟨kvs, k, b, e, ey, eb, l⟩
 ·subst ey
  obtain ⟨z, hd, vs, rel, dd⟩ := dk_rd I.hok e
  refine wpAny_notIn_of (kV_is ry) hd dd.mapOf ?_
  rw [← (rel.val k).isSome_eq, ← l]
  exact h _ (I.tok _)
 ·subst ey
  cases (show u = Value.ref b from ry)
  obtain ⟨z, hd, xs, rel, dd⟩ := dt_rd I.hok e
  refine wpAny_notIn_heap (tupleKind_room_in1 hu) (key_of I.hok eb) hd dd ?_
  have q := (rel.val k).isSome_eq
  rw [Option.isSome_map] at q
  rw [← q, ← l]
  exact h _ (I.tok _)
theorem d_write {h' : Heap} {t' : Nat} {ob : HO} (I : Inv X pins σ H s) (mu : Mut (H a)) (hs : Heap.SameBut a s.heap h') (he : ∃ q, h'.get? a = some q) (new : ObjOk X.prog X.w (upd H a ob) h' a ob) :
  Inv X pins σ (upd H a ob) { s with heap := h', toks := t' } :=
 I.write (x := a) (e := a) mu (.inl rfl) (fun b q hb z => (hs.2 b hb).trans z) he new
theorem dk_new {P : Program} {w : World} {H' : Hp} {h' : Heap} {kvs : List (Key × V)} {vs : List (Key × Value)} (z : kvs.length ≤ sizeLine) (hd : (a == sysModules) = false) (rel : KV kvs vs) (dd : h'.DictOf (mixKind P w) a vs) :
  ObjOk P w H' h' a (.dK kvs) := ⟨z, hd, vs, rel, dd⟩
theorem d_setItem {H' : Hp} {Q : Unit → Shared → Prop} (hu : A.units + 1 < cLine) (I : Inv X pins σ H s) (g : DPut H a y v H') (ry : RelV y u) (rv : RelV v r) (h : ∀ s', Inv X pins σ H' s' → Q () s') :
  wpAny (model X.prog X.w) A (setItem (.ref a) u r) Q E s := by
 rcases g with ⟨kvs, k, e, ey, l, eH⟩ | ⟨kvs, k, b, e, ey, eb, l, eH⟩
 ·subst ey eH
  obtain ⟨z, hd, vs, rel, dd⟩ := dk_of I.hok e
  have hz : vs.length ≤ sizeLine := by rw [← rel.length]; exact z
  have hl : (putK kvs k v).length ≤ sizeLine := by have := length_putK kvs k v; omega
  refine wpAny_setItem_pairs (hsz := hz) (kV_is ry) dd fun h' dd' hs => h _ ?_
  have he : ∃ q, h'.get? a = some q := let ⟨q, _, _, hq, _⟩ := dd'; ⟨q, hq⟩
  exact d_write I (by rw [e]; exact True.intro) hs he (dk_new hl hd (rel.put k rv) dd')
 ·subst ey eH
  cases (show u = Value.ref b from ry)
  obtain ⟨z, hd, xs, rel, dd⟩ := dt_of I.hok e
  have hz : xs.length ≤ sizeLine := by rw [← Paired.length rel]; exact z
  have hl : (putK kvs k v).length ≤ sizeLine := by have := length_putK kvs k v; omega
  refine wpAny_setItem_heap (hsz := hz) (tupleKind_room_in1 hu) (key_of I.hok eb) dd fun h' dd' hs => h _ ?_
  obtain ⟨q, es, ep, hq, h2, h3, h4, _, h5⟩ := dd'
  refine d_write I (by rw [e]; exact True.intro) hs ⟨q, hq⟩ ⟨hl, hd, _, (rel.put k eb rv).keeps fun c ys ec => ?_, q, es, ep, hq, h2, h3, h4, h5⟩
  rw [upd_ne (ne_of ec e (fun z => nomatch z))]
  exact ec
end
section
variable {X : Cx} {pins : List (Addr × Obj)} {σ : St} {H : Hp} {s : Shared} {a : Addr} {kvs : List (Key × V)} {k : Key} {u : Value} {A : Around} {E : Value → Shared → Prop}
end
def NoSl (i : Expr) : Prop := ∀ ov iv, subscripted i false ov iv = operate [ov, iv] (getItem ov iv)
theorem subD_of {prog : Program} {w : World} {A : Around} {E : Value → Shared → Prop} {s : Shared} {env : Env} {value slice : Expr} {pos : Pos} {T id : String} {Q : Value → Shared → Prop}
  (hl : typeLookup (.type T) "__getitem__" = pure (some (.builtin id))) (hs : NoSl slice)
  (h : wpAny (model prog w) A (eval value env) (fun o s₁ => wpAny (model prog w) A (eval slice env) (fun i s₂ => s₂.TypeIs o T ∧ wpAny (model prog w) A (getItem o i) Q E s₂) E s₁) E s) :
  wpAny (model prog w) A (eval (.Subscript value slice pos) env) Q E s := by
 refine Subscript_ (wpAny_mono h (fun o s₁ h₁ => wpAny_mono h₁ (fun i s₂ h₂ => ?_) fun _ _ x => x) fun _ _ x => x)
 obtain ⟨hT, h₂⟩ := h₂
 unfold subscriptTail
 refine wpAny_bind ?_
 rw [getitemInPython_of_ne hT.not_modules]
 refine wpAny_bind (wpAny_specialOf hT hl ?_)
 have fin : wpAny (model prog w) A (subscripted slice false o i) (fun r s₃ => wpAny (model prog w) A (letTemporaryGo value o r >>= fun _ => pure r) Q E s₃) E s₂ := by
  rw [hs o i]
  exact wpAny_operating (wpAny_mono h₂ (fun r s₃ h₃ => wpAny_bind (wpAny_letTemporaryGo (wpAny_pure h₃))) fun _ _ x => x)
 first
  | exact wpAny_pure (wpAny_bind fin)
  | exact wpAny_bind (wpAny_pure (wpAny_bind fin))
  | exact wpAny_bind fin
theorem dict_typeIs {X : Cx} {pins : List (Addr × Obj)} {σ : St} {H : Hp} {s : Shared} {a : Addr} {y : V} {o : Option V} (I : Inv X pins σ H s) (g : DGet H a y o) : s.TypeIs (.ref a) "dict" := by
 rcases g with ⟨kvs, k, e, _, _⟩ | ⟨kvs, k, b, e, _, _, _⟩
 ·obtain ⟨_, _, vs, _, dd⟩ := dk_rd I.hok e
  exact dd.typeIs
 ·obtain ⟨_, _, xs, _, dd⟩ := dt_rd I.hok e
  exact dd.typeIs
def tDGet (td ty : TE) : TE := fun σ H Q => td σ H fun x H1 => ty σ H1 fun y H2 => ∃ a v, x = .ref a ∧ DGet H2 a y (some v) ∧ Q v H2
def tDNotIn (ty td : TE) : TE := fun σ H Q => ty σ H fun y H1 => td σ H1 fun x H2 => ∃ a o, x = .ref a ∧ DGet H2 a y o ∧ Q (.bl (!o.isSome)) H2
def sDPut (td ty tv : TE) : TS := fun D σ H => tv σ H fun v H1 => td σ H1 fun x H2 => ty σ H2 fun y H3 => ∃ a H4, x = .ref a ∧ DPut H3 a y v H4 ∧ D.nx σ H4
section
variable {X : Cx} {o i e value : Expr} {pos pos' tpos : Pos} {td ty tv : TE}
theorem pe_dget (hu : X.A.units + 1 < cLine) (ho : PE X o td) (hi : PE X i ty) (hs : NoSl i) : PE X (.Subscript o i pos) (tDGet td ty) := by
 intro pins s σ H Q I h
 refine subD_of PySem.F.slot_dict_getitem.lookup hs (thn (ho pins s σ H _ I h) fun u s1 ⟨x, H1, I1, rx, q1⟩ => thn (hi pins s1 σ H1 _ I1 q1) fun iv s2 ⟨y, H2, I2, ry, a, v, ex, g, q2⟩ => ?_)
 subst ex
 obtain rfl : u = Value.ref a := rx
 exact ⟨dict_typeIs I2 g, d_getItem hu I2 g ry fun w' s3 I3 rw' => ⟨v, H2, I3, rw', q2⟩⟩
theorem pc_dnotin (hu : X.A.units + 1 < cLine) (hi : PE X i ty) (ho : PE X o td) : PC X .NotIn i o (tDNotIn ty td) := by
 intro pins s σ H Q I h
 refine thn (hi pins s σ H _ I h) fun iv s1 ⟨y, H1, I1, ry, q1⟩ => thn (ho pins s1 σ H1 _ I1 q1) fun u s2 ⟨x, H2, I2, rx, a, ov, ex, g, q2⟩ => ?_
 subst ex
 obtain rfl : u = Value.ref a := rx
 exact d_notIn hu I2 g ry fun s3 I3 => ⟨.bl (!ov.isSome), H2, I3, rfl, q2⟩
theorem ps_dput (hu : X.A.units + 1 < cLine) (ho : PE X o td) (hi : PE X i ty) (hv : PE X value tv) (hs : swapsWith value (some (.Subscript o i pos')) pos.line X.env = pure false) :
  PS X (.Assign [.Subscript o i pos'] value pos) (sDPut td ty tv) := by
 intro pins s σ H D I h
 refine wpAny_Assign_Subscript (thn (hv pins s σ H _ I h) fun r s1 ⟨v, H1, I1, rv, q1⟩ => thn (ho pins s1 σ H1 _ I1 q1) fun u s2 ⟨x, H2, I2, rx, q2⟩ => thn (hi pins s2 σ H2 _ I2 q2) fun iv s3 ⟨y, H3, I3, ry, a, H4, ex, g, q3⟩ => ?_) hs
 subst ex
 obtain rfl : u = Value.ref a := rx
 exact d_setItem hu I3 g ry rv fun s4 I4 => ⟨σ, H4, I4, q3⟩
end
theorem dk_empty {P : Program} {w : World} {H : Hp} (h : Heap) (hb : sysModules < h.objs.size) : ObjOk P w H (h.push { cls := .type "dict", data := .dict #[] }) h.objs.size (.dK []) :=
 ⟨Nat.zero_le _, beq_eq_false_iff_ne.mpr (Ne.symm (Nat.ne_of_lt hb)), [], .nil, Heap.DictOf.new h⟩
theorem dt_empty {P : Program} {w : World} {H : Hp} (h : Heap) (hb : sysModules < h.objs.size) : ObjOk P w H (h.push { cls := .type "dict", data := .dict #[] }) h.objs.size (.dT []) :=
 ⟨Nat.zero_le _, beq_eq_false_iff_ne.mpr (Ne.symm (Nat.ne_of_lt hb)), [], .nil, _, #[], 0, Heap.get?_push_size _ rfl, ⟨rfl, rfl, rfl⟩, rfl, rfl, List.nodup_nil⟩
def tDNewT : TE := fun _ H Q => ∀ p, H p = none → Q (.ref p) (upd H p (.dT []))
section
variable {X : Cx} {pos : Pos}
theorem pe_dnewT : PE X (.Dict [] [] pos) tDNewT := fun pins s σ H Q I h =>
 wpAny_Dict_empty ⟨.ref s.heap.objs.size, _, I.laid (a := s.heap.objs.size) (o := .dT []) (t' := s.toks) (fun _ _ q => Heap.get?_push_of_some _ q) (Nat.le_refl _) (dt_empty s.heap I.big), rfl, h _ (I.hok.fresh (Nat.le_refl _))⟩
end
def tPairs : List (TE × TE) → St → Hp → (List (V × V) → Hp → Prop) → Prop
 | [], _, H, Q => Q [] H
 | (tk, tv) :: r, σ, H, Q => tk σ H fun x H1 => tv σ H1 fun y H2 => tPairs r σ H2 fun ps H3 => Q ((x, y) :: ps) H3
abbrev VV : List (V × V) → List (Value × Value) → Prop := Paired fun p q => RelV p.1 q.1 ∧ RelV p.2 q.2
def PPs (X : Cx) (pos : Pos) (keys : List (Option Expr)) (values : List Expr) (trs : List (TE × TE)) : Prop :=
 ∀ (pins : List (Addr × Obj)) (s : Shared) (σ : St) (H : Hp) (Q : List (V × V) → Hp → Prop), Inv X pins σ H s → tPairs trs σ H Q →
  wpAny (model X.prog X.w) X.A (evalPairs (pairTrees keys values X.env pos)) (fun vs s' => ∃ ps H', Inv X pins σ H' s' ∧ VV ps vs ∧ Q ps H') X.xe s
theorem pps_nil {X : Cx} {pos : Pos} : PPs X pos [] [] [] := fun pins s σ H Q I h => pairTrees_nil_walk ⟨[], H, I, .nil, h⟩
theorem pps_cons {X : Cx} {pos : Pos} {k v : Expr} {ks : List (Option Expr)} {vs : List Expr} {tk tv : TE} {trs : List (TE × TE)} (hk : PE X k tk) (hv : PE X v tv) (hr : PPs X pos ks vs trs) :
  PPs X pos (some k :: ks) (v :: vs) ((tk, tv) :: trs) := fun pins s σ H Q I h =>
 pairTrees_cons_walk (thn (hk pins s σ H _ I h) fun u s1 ⟨x, H1, I1, rx, q1⟩ => thn (hv pins s1 σ H1 _ I1 q1) fun w2 s2 ⟨y, H2, I2, ry, q2⟩ =>
  thn (hr pins s2 σ H2 _ I2 q2) fun ws s3 ⟨ps, H3, I3, rel, q3⟩ => ⟨(x, y) :: ps, H3, I3, .cons ⟨rx, ry⟩ rel, q3⟩)
def mergeK (kvs more : List (Key × V)) : List (Key × V) := more.foldl (fun acc kv => putK acc kv.1 kv.2) kvs
theorem KV.merge : ∀ {more : List (Key × V)} {rs : List (Key × Value)} {kvs : List (Key × V)} {vs : List (Key × Value)}, KV more rs → KV kvs vs → KV (mergeK kvs more) (merged vs rs) := by
 intro more rs kvs vs r
 unfold KV at r
 induction r generalizing kvs vs with
 | nil => intro q; exact q
 | @cons p q ps qs h t ih =>
  intro r0
  have e : KV (putK kvs p.1 p.2) (stored vs q.1 q.2) := by
   have := r0.put p.1 h.2
   rw [← h.1]; exact this
  exact ih e
theorem length_mergeK : ∀ (more kvs : List (Key × V)), (mergeK kvs more).length ≤ kvs.length + more.length
 | [], kvs => by show kvs.length ≤ kvs.length + 0; omega
 | p :: r, kvs => by
  have h1 := length_mergeK r (putK kvs p.1 p.2)
  have h2 := length_putK kvs p.1 p.2
  show (mergeK (putK kvs p.1 p.2) r).length ≤ _
  rw [List.length_cons]; omega
theorem carries_of {P : Program} {w : World} : ∀ {kvs : List (Key × V)} {ws : List (Value × Value)}, VV (kvs.map fun kv => (kV kv.1, kv.2)) ws → ∃ rs, Carries (mixKind P w) ws rs ∧ KV kvs rs
 | [], _, r => by rw [List.map_nil] at r; cases r; exact ⟨[], True.intro, .nil⟩
 | p :: kvs, _, r => by
  rw [List.map_cons] at r
  cases r with
  | @cons a b as bs h t =>
   obtain ⟨rs, c, q⟩ := carries_of (P := P) (w := w) t
   obtain ⟨b1, b2⟩ := b
   exact ⟨(p.1, b2) :: rs, ⟨kV_is h.1, rfl, c⟩, .cons ⟨rfl, h.2⟩ q⟩
def tDisp (trs : List (TE × TE)) : TE := fun σ H Q => ∀ p, H p = none → tPairs trs σ (upd H p (.dK [])) fun ps H2 => H2 p = some (.dK []) ∧ ∃ kvs : List (Key × V), ps = kvs.map (fun kv => (kV kv.1, kv.2)) ∧ kvs.length ≤ 15 ∧ Q (.ref p) (upd H2 p (.dK (mergeK [] kvs)))
theorem pe_disp {X : Cx} {pos : Pos} {keys : List (Option Expr)} {values : List Expr} {trs : List (TE × TE)} (h : PPs X pos keys values trs) (hall : keys.all (·.isSome) = true) (hl : keys.length = values.length) (h0 : keys ≠ [])
  (h15 : keys.length ≤ 15) : PE X (.Dict keys values pos) (tDisp trs) := by
 intro pins s σ H Q I q
 have hn := I.hok.fresh (Nat.le_refl s.heap.objs.size)
 have I1 := I.laid (a := s.heap.objs.size) (o := .dK []) (h' := s.heap.push { cls := .type "dict", data := .dict #[] }) (t' := s.toks) (fun _ _ q => Heap.get?_push_of_some _ q) (Nat.le_refl _) (dk_empty s.heap I.big)
 refine wpAny_Dict_walk (knd := mixKind X.prog X.w) hall hl h0 h15 (thn (h pins _ σ _ _ I1 (q _ hn)) fun ws s2 ⟨ps, H2, I2, rel, e, kvs, ep, lk, q2⟩ => ?_)
 subst ep
 obtain ⟨rs, c, rk⟩ := carries_of (P := X.prog) (w := X.w) rel
 obtain ⟨z, hd, vs0, r0, dd⟩ := dk_of I2.hok e
 cases r0
 refine ⟨rs, c, dd, fun h' dd' hs => ⟨.ref s.heap.objs.size, _, ?_, rfl, q2⟩⟩
 have hz : (mergeK [] kvs).length ≤ sizeLine := by
  have h1 := length_mergeK kvs []
  rw [List.length_nil] at h1
  rw [sizeLine_eq]; omega
 have he : ∃ q, h'.get? s.heap.objs.size = some q := let ⟨q, _, _, hq, _⟩ := dd'; ⟨q, hq⟩
 exact d_write I2 (by rw [e]; exact True.intro) hs he (dk_new hz hd (rk.merge .nil) dd')
section
variable {X : Cx} {pins : List (Addr × Obj)} {σ : St} {H : Hp} {s : Shared} {a : Addr} {y d : V} {u r : Value} {o : Option V} {A : Around} {E : Value → Shared → Prop}
end
section
variable {X : Cx} {o e f : Expr} {apos cpos : Pos} {td ty tx : TE}
end
section
variable {X : Cx} {pins : List (Addr × Obj)} {σ : St} {H : Hp} {s : Shared} {a : Addr} {kvs : List (Key × V)} {A : Around} {E : Value → Shared → Prop}
end
section
variable {X : Cx} {pins : List (Addr × Obj)} {σ : St} {H : Hp} {s : Shared} {a : Addr} {y : V} {u : Value} {A : Around} {E : Value → Shared → Prop}
end
mutual
inductive RdD (K : PySem.W.Frag) (H : Hp) : V → PyData → Prop where
 | non : RdD K H .non .none
 | bl (b : Bool) : RdD K H (.bl b) (.bool b)
 | int (i : Int) : RdD K H (.int i) (.int i)
 | str (x : Str) : RdD K H (.str x) (.str x)
 | lst {a : Addr} {xs : List V} {ds : List PyData} (h : SqL K H a xs) (r : RdDs K H xs ds) : RdD K H (.ref a) (.list ds)
 | tup {a : Addr} {xs : List V} {ds : List PyData} (h : SqT K H a xs) (r : RdDs K H xs ds) : RdD K H (.ref a) (.tuple ds)
inductive RdDs (K : PySem.W.Frag) (H : Hp) : List V → List PyData → Prop where
 | nil : RdDs K H [] []
 | cons {x : V} {xs : List V} {d : PyData} {ds : List PyData} (h : RdD K H x d) (r : RdDs K H xs ds) : RdDs K H (x :: xs) (d :: ds)
end
section
variable {K : PySem.W.Frag} {H H' : Hp}
theorem Same.tup {a : Addr} {xs : List V} (e : Same H H') (h : SqT K H a xs) : SqT K H' a xs := by
 rcases h with (h | ⟨o, h⟩) | h
 ·exact .inl (.inl (e _ _ h))
 ·exact .inl (.inr ⟨o, e _ _ h⟩)
 ·exact .inr h
theorem Same.upd {p : Addr} {o : HO} (h : H p = none) : Same H (upd H p o) := fun b u e => by rw [upd_ne (ne_of_none e h)]; exact e
theorem Same.updr {p : Addr} {o : HO} (s : Same H H') (h : H p = none) : Same H (L2.upd H' p o) := fun b u e => by rw [upd_ne (ne_of_none e h)]; exact s b u e
mutual
theorem RdD.mono (s : Same H H') : ∀ {v : V} {d : PyData}, RdD K H v d → RdD K H' v d
 | _, _, .non => .non
 | _, _, .bl b => .bl b
 | _, _, .int i => .int i
 | _, _, .str x => .str x
 | _, _, .lst h r => .lst (s.seq h) (RdDs.mono s r)
 | _, _, .tup h r => .tup (s.tup h) (RdDs.mono s r)
theorem RdDs.mono (s : Same H H') : ∀ {v : List V} {d : List PyData}, RdDs K H v d → RdDs K H' v d
 | _, _, .nil => .nil
 | _, _, .cons h r => .cons (RdD.mono s h) (RdDs.mono s r)
end
theorem RdDs.ints : ∀ ns : List Int, RdDs K H (ns.map V.int) (ns.map PyData.int)
 | [] => .nil
 | n :: r => .cons (.int n) (RdDs.ints r)
end
section
variable {X : Cx} {pins : List (Addr × Obj)} {σ : St} {H : Hp} {s : Shared}
mutual
theorem Inv.reads (I : Inv X pins σ H s) : ∀ {v : V} {d : PyData} {u : Value}, RdD X.K H v d → RelV v u → ∃ as, Reads s.heap u d as
 | _, _, _, .non, r => by cases (show _ = Value.none from r); exact ⟨_, .none⟩
 | _, _, _, .bl b, r => by cases (show _ = Value.bool b from r); exact ⟨_, .bool b⟩
 | _, _, _, .int i, r => by obtain ⟨t, rfl⟩ := r; exact ⟨_, .int i t⟩
 | _, _, _, .str x, r => by obtain ⟨t, rfl⟩ := r; exact ⟨_, .str x t⟩
 | _, _, _, .lst (a := a) h q, r => by
  cases (show _ = Value.ref a from r)
  obtain ⟨its, rv, ⟨o, n, e, c, _, d⟩, _⟩ := I.list h
  obtain ⟨as, ra⟩ := Inv.readsAll I q rv
  exact ⟨_, .list e c d (by simpa using ra)⟩
 | _, _, _, .tup (a := a) h q, r => by
  cases (show _ = Value.ref a from r)
  obtain ⟨its, rv, ⟨o, e, c, n, d⟩, _⟩ := I.tuple h
  obtain ⟨as, ra⟩ := Inv.readsAll I q rv
  exact ⟨_, .tuple e c d (by simpa using ra)⟩
theorem Inv.readsAll (I : Inv X pins σ H s) : ∀ {v : List V} {d : List PyData} {u : List Value}, RdDs X.K H v d → Vals v u → ∃ as, ReadsAll s.heap u d as
 | _, _, _, .nil, r => by cases r; exact ⟨_, .nil⟩
 | _, _, _, .cons h q, r => by
  cases r with
  | cons r rr =>
   obtain ⟨a1, h1⟩ := Inv.reads I h r
   obtain ⟨a2, h2⟩ := Inv.readsAll I q rr
   exact ⟨_, .cons h1 h2⟩
end
end
section
variable {X : Cx}
theorem op_neD (hu : X.A.units + 64 < cLine) : OpR X (compareOp .NotEq) (fun x y H Q => ∃ dx dy, RdD X.K H x dx ∧ RdD X.K H y dy ∧ SeqAt.shaped dx = true ∧ SeqAt.shaped dy = true ∧ Q (.bl (!PyData.eqv dx dy)) H) := by
 intro pins s σ H x y v u Q I rx ry ⟨dx, dy, h1, h2, s1, s2, q⟩
 obtain ⟨as, r1⟩ := I.reads h1 rx
 obtain ⟨bs, r2⟩ := I.reads h2 ry
 exact SeqAt.compareNe_shaped r1 r2 s1 s2 hu ⟨.bl _, H, I, rfl, q⟩
theorem call_isi : CallR X (.builtin "isinstance") (fun xs H Q => ∃ x c t b, xs = [x, c] ∧ TyOf X.K H x t ∧ (∀ cv, RelV c cv → PySem.W.kitOne X.K t cv = some b) ∧ Q (.bl b) H) := by
 intro pins s σ H xs us Q I r h
 obtain ⟨x, c, t, b, rfl, ty, e, q⟩ := h
 cases r with
 | cons r1 r =>
  cases r with
  | cons r2 r =>
   cases r
   exact isinst_ok I r1 ty (e _ r2) fun tk => ⟨.bl b, H, I.tok _, rfl, q⟩
theorem truthB {prog : Program} {w : World} {A : Around} {its : List Value} {bs : List Bool} (r : Vals (bs.map V.bl) its) : TruthOf prog w A (fun i v => its.toArray[i]? = some v) (fun i => bs.getD i false) := by
 intro i v s Q E hv hq
 rw [List.getElem?_toArray] at hv
 have hi : i < its.length := (List.getElem?_eq_some_iff.mp hv).1
 have hl := r.length
 rw [List.length_map] at hl
 have hb : (bs.map V.bl)[i]? = some (.bl (bs.getD i false)) := by
  rw [List.getElem?_map, List.getD_eq_getElem?_getD, List.getElem?_eq_getElem (by omega)]; rfl
 obtain ⟨u, hu, ru⟩ := r.get hb
 rw [hv] at hu
 cases hu
 cases (show v = Value.bool _ from ru)
 exact wpAny_truthy_bool hq
theorem range_all {bs : List Bool} : ((List.range bs.length).all fun i => bs.getD i false) = bs.all id := by
 have : (List.range bs.length).map (fun i => bs.getD i false) = bs := by
  apply List.ext_getElem
  ·simp
  ·intro i h1 h2; simp at h1; simp [h1]
 conv => rhs; rw [← this, List.all_map]
 rfl
theorem range_any {bs : List Bool} : ((List.range bs.length).any fun i => bs.getD i false) = bs.any id := by
 have : (List.range bs.length).map (fun i => bs.getD i false) = bs := by
  apply List.ext_getElem
  ·simp
  ·intro i h1 h2; simp at h1; simp [h1]
 conv => rhs; rw [← this, List.any_map]
 rfl
theorem call_all (hc : X.calm = true) : CallR X (.builtin "all") (fun xs H Q => ∃ (a : Addr) (bs : List Bool), xs = [.ref a] ∧ SqL X.K H a (bs.map V.bl) ∧ Q (.bl (bs.all id)) H) := by
 intro pins s σ H xs us Q I r h
 obtain ⟨a, bs, rfl, hq, q⟩ := h
 obtain ⟨u, rfl, ru⟩ := vals1 r
 cases ru
 obtain ⟨its, rv, p, hz⟩ := I.list hq
 have hl := rv.length
 rw [List.length_map] at hl
 refine call_all_walk (wpAny_pyIter_list p.isList ?_)
 have hne : a ≠ s.heap.objs.size := by obtain ⟨o, n, e, _⟩ := p; exact Nat.ne_of_lt (Heap.lt_size e)
 refine ⟨s.heap.objs.size, _, _, _, _, _, (fun i => bs.getD i false), rfl, Walks.list (A := X.A.in1) (I.ok.hd hc) _ a hne its.toArray, ⟨⟨_, Heap.get?_push_size _ rfl, rfl, rfl⟩, p.isList.push _⟩, truthB rv, fun h' tk k => ?_⟩
 rw [List.size_toArray, ← hl, range_all]
 refine ⟨.bl _, H, I.kept (t' := tk) fun b o e => k b o ?_ (Heap.get?_push_of_some _ e), rfl, q⟩
 simpa using Nat.ne_of_lt (Heap.lt_size e)
theorem call_any (hc : X.calm = true) : CallR X (.builtin "any") (fun xs H Q => ∃ (a : Addr) (bs : List Bool), xs = [.ref a] ∧ SqL X.K H a (bs.map V.bl) ∧ Q (.bl (bs.any id)) H) := by
 intro pins s σ H xs us Q I r h
 obtain ⟨a, bs, rfl, hq, q⟩ := h
 obtain ⟨u, rfl, ru⟩ := vals1 r
 cases ru
 obtain ⟨its, rv, p, hz⟩ := I.list hq
 have hl := rv.length
 rw [List.length_map] at hl
 refine call_any_walk (wpAny_pyIter_list p.isList ?_)
 have hne : a ≠ s.heap.objs.size := by obtain ⟨o, n, e, _⟩ := p; exact Nat.ne_of_lt (Heap.lt_size e)
 refine ⟨s.heap.objs.size, _, _, _, _, _, (fun i => bs.getD i false), rfl, Walks.list (A := X.A.in1) (I.ok.hd hc) _ a hne its.toArray, ⟨⟨_, Heap.get?_push_size _ rfl, rfl, rfl⟩, p.isList.push _⟩, truthB rv, fun h' tk k => ?_⟩
 rw [List.size_toArray, ← hl, range_any]
 refine ⟨.bl _, H, I.kept (t' := tk) fun b o e => k b o ?_ (Heap.get?_push_of_some _ e), rfl, q⟩
 simpa using Nat.ne_of_lt (Heap.lt_size e)
end
theorem tupNoSet : isSubtype (.type "tuple") (.type "set") = pure false := by rw [isSubtype_type]; kernel_rfl
theorem tupNoFroz : isSubtype (.type "tuple") (.type "frozenset") = pure false := by rw [isSubtype_type]; kernel_rfl
abbrev metOf (ns : List Int) (n : Nat) : List Int := firstMet (fun i => ns.getD i 0) n
section
variable {prog : Program} {w : World} {A : Around} {E : Value → Shared → Prop} {s : Shared}
abbrev SetEnd (prog : Program) (w : World) (s : Shared) (ns : List Int) (n : Nat) (h' : Heap) : Prop :=
 h'.SetOf (intKind prog w) s.heap.objs.size (fun k' => (metOf ns n).any (· == k')) (metOf ns n).length ∧ ∀ b o, b < s.heap.objs.size → s.heap.get? b = some o → h'.get? b = some o
theorem setOfTuple {l : Addr} {items : Array Value} {ns : List Int} {Q : Value → Shared → Prop} (hh : A.handled = none) (hl : s.heap.IsTuple l items) (hi : IntsAre items.toList ns) (hb : items.size + 1 < scanBound)
  (h : ∀ (h' : Heap) (tk : Nat), SetEnd prog w s ns items.size h' → Q (.ref s.heap.objs.size) { s with heap := h', toks := tk }) : wpAny (model prog w) A (call (.type "set") [.ref l]) Q E s := by
 obtain ⟨c, tl, hmro⟩ := F.called_set.mro
 have hmade := F.called_set.made; have hsub := F.called_set.sub
 refine wpAny_call (codeAny_of_tree ?_); show wpAny _ _ (callAny (.type "set") _) _ _ _
 refine wpAny_pure ⟨Code.quiet_builtin _ (by decide +kernel), codeAny_builtin F.entry_type_call ?_⟩; rw [Around.under_plain (weight_type_call_type "set" [.ref l] []) rfl]
 have h1 := F.called_set.notType; have h2 := F.called_set.canCreate; have hct := F.typeCall_set_1 (.ref l)
 repeat (any_goals (first | assumption | wp_step))
 let ob (led : Bool) : Obj := { cls := .type "set", dict := none, data := .set #[] 0 (.fresh 0 0 led) }
 refine codeAny_mono (code_set_new_1 (.ref l) (E := E) (Q₁ := fun obj s₁ => ∃ led : Bool, obj = .ref s.heap.objs.size ∧ s₁ = { s with heap := s.heap.push (ob led) }) fun led => ⟨led, rfl, rfl⟩) fun r s₁ hr => ?_
 cases r with
 | error e => exact hr
 | ok fl =>
  cases fl with
  | ret obj =>
   obtain ⟨led, rfl, rfl⟩ := hr
   have hS : (s.heap.push (ob led)).get? s.heap.objs.size = some (ob led) := Heap.get?_push_size _ rfl
   have hT : Shared.TypeIs { s with heap := s.heap.push (ob led) } (.ref s.heap.objs.size) "set" := ⟨_, hS, rfl⟩
   have hli := F.called_set.init.lookup; have hbi := F.called_set.init.bind (.ref s.heap.objs.size)
   repeat (any_goals (first | assumption | wp_step))
   refine codeAny_mono (codeAny_call_builtin (R := wants (fun r s₂ => r = .none ∧ ∃ h' tk, s₂ = { s with heap := h', toks := tk } ∧ SetEnd prog w s ns items.size h') E) F.called_set.init.plain F.entry_set_init (check_set_init_1 hT ?_)) fun r₂ s₂ hr₂ => ?_
   ·obtain ⟨ol, hol, hcl, nl, hdl⟩ := hl
    obtain ⟨ocls, odict, odata, oslots⟩ := ol
    simp only at hcl hdl
    subst hcl; subst hdl
    have hol' : (s.heap.push (ob led)).get? l = some { cls := .type "tuple", dict := odict, data := .seq items nl, slots := oslots } := Heap.get?_push_of_some _ hol
    have hsls := tupNoSet; have hslf := tupNoFroz
    have hne : (Value.type "tuple" == Value.type "dict") = false := by decide
    have hl1 : (s.heap.push (ob led)).IsTuple l items := ⟨_, hol', rfl, nl, rfl⟩
    unfold Builtin.«set.__init__» noKeywords Builtin.Frozenset.updateFrom; generalize hPI : pyIter = PI
    wp_walk
    subst hPI
    refine wpAny_pyIter_tuple hl1 ?_
    refine wpAny_bind (wpAny_runValue ?_)
    have hlS : l < s.heap.objs.size := Heap.lt_size hol
    have hneI : l ≠ (s.heap.push (ob led)).objs.size := by rw [Heap.size_push]; exact Nat.ne_of_lt (Nat.lt_succ_of_lt hlS)
    have hSf : s.heap.objs.size ∉ [(s.heap.push (ob led)).objs.size, l] := by
     rw [Heap.size_push]; intro z
     rcases List.mem_cons.mp z with z | z
     ·exact absurd z (Nat.ne_of_lt (Nat.lt_succ_self _))
     ·exact absurd (List.mem_singleton.mp z) (Nat.ne_of_gt hlS)
    refine codeAny_set_update_loopS ((Walks.tuple (A := A.in1.in1.in1) (by simp [hh]) _ l hneI items).toS) s.heap.objs.size hSf (fun i => ns.getD i 0) (fun i v hv => IntsAre.int_at hi i v (by rw [Array.getElem?_toList]; exact hv)) hb (items.size - 0) 0 _ (by omega) (Nat.zero_le _)
     ⟨⟨_, Heap.get?_push_size _ rfl, rfl, rfl⟩, ⟨_, Heap.get?_push_of_some _ hol', rfl, nl, rfl⟩⟩ ?hS0 ?hR
    case hS0 => exact SetOf_congr ((setObjOf_fresh (knd := intKind prog w) led).setOf (Heap.get?_push_of_some _ hS) (by unfold scanBound; omega)) (fun _ => rfl) rfl
    case hR =>
     intro s' hm hS'
     obtain ⟨h', g', d', tk', os'⟩ := s'
     obtain rfl : g' = s.gens := hm.gens
     obtain rfl : d' = s.drawn := hm.drawn
     obtain rfl : os' = s.os := hm.os
     show wpAny _ _ _ _ _ _
     refine wpAny_pure ?_; show wpAny _ _ (ret Value.none) _ _ _
     refine wpAny_pure ⟨rfl, h', tk', rfl, hS', fun b o hb e => hm.heap b o (fun z => ?_) (Heap.get?_push_of_some _ (Heap.get?_push_of_some _ e))⟩
     rcases List.mem_cons.mp z with z | z
     ·exact absurd z (Nat.ne_of_lt hb)
     ·refine absurd (List.mem_singleton.mp z) (Nat.ne_of_lt ?_); rw [Heap.size_push]; exact Nat.lt_succ_of_lt hb
   ·cases r₂ with
    | error e => exact hr₂
    | ok fl₂ =>
     cases fl₂ with
     | ret r =>
      obtain ⟨rfl, h', tk, rfl, he⟩ := hr₂
      repeat (any_goals (first | assumption | wp_step))
      exact h _ _ he
     | _ => exact hr₂.elim
  | _ => exact hr.elim
end
theorem ints_of : ∀ {ns : List Int} {us : List Value}, Vals (ns.map V.int) us → IntsAre us ns
 | [], _, .nil => .nil
 | n :: r, _, .cons h t => by
  obtain ⟨k, rfl⟩ := (show ∃ t, _ = Value.int n t from h)
  exact .cons n k (ints_of t)
section
variable {X : Cx}
theorem call_setT (hc : X.calm = true) : CallR X (.type "set") (fun xs H Q => ∃ (a : Addr) (ns : List Int), xs = [.ref a] ∧ SqT X.K H a (ns.map V.int) ∧ ns.length < 1000 ∧ ∀ p, H p = none → Q (.ref p) (upd H p (.set (fun k => (metOf ns ns.length).any (· == k)) (metOf ns ns.length).length))) := by
 intro pins s σ H xs us Q I r h
 obtain ⟨a, ns, rfl, hq, hn, q⟩ := h
 obtain ⟨u, rfl, ru⟩ := vals1 r
 cases ru
 obtain ⟨its, rv, p, hz⟩ := I.tuple hq
 have hl : its.toArray.size = ns.length := by rw [List.size_toArray, ← rv.length, List.length_map]
 refine setOfTuple (I.ok.hd hc) (show s.heap.IsTuple a its.toArray from p) (ns := ns) (by simpa using ints_of rv) (by rw [hl]; unfold scanBound; omega) fun h' tk ⟨e1, e2⟩ => ?_
 rw [hl] at e1
 exact ⟨.ref _, _, I.laid (a := s.heap.objs.size) (o := .set (fun k => (metOf ns ns.length).any (· == k)) (metOf ns ns.length).length) (t' := tk) (fun b o e => e2 b o (Heap.lt_size e) e) (Nat.le_refl _) e1, rfl, q _ (I.hok.fresh (Nat.le_refl _))⟩
theorem call_lenS : CallR X (.builtin "len") (fun xs H Q => ∃ (a : Addr) (S : Int → Bool) (n : Nat), xs = [.ref a] ∧ H a = some (.set S n) ∧ Q (.int n) H) := by
 intro pins s σ H xs us Q I r h
 obtain ⟨a, S, n, rfl, ha, q⟩ := h
 obtain ⟨u, rfl, ru⟩ := vals1 r
 cases ru
 obtain ⟨o, es, ep, t, e1, e2, e3, _, _, e4, e5, e6⟩ := (show s.heap.SetOf (intKind X.prog X.w) a S n from I.hok a _ ha)
 refine call_len_set e1 e2 e3 e5 (by unfold scanBound at e4; omega) ?_
 exact ⟨.int n, H, I.tok _, ⟨_, by rw [e6]⟩, q⟩
theorem call_range1 : CallR X (.type "range") (fun xs H Q => ∃ j : Int, xs = [.int j] ∧ ∀ p, H p = none → Q (.ref p) (upd H p (.rng 0 j))) := by
 intro pins s σ H xs us Q I r h
 obtain ⟨j, rfl, q⟩ := h
 obtain ⟨u, rfl, ru⟩ := vals1 r
 obtain ⟨t, rfl⟩ := ru
 exact call_range_1 ⟨.ref s.heap.objs.size, _, I.laid (a := s.heap.objs.size) (o := .rng 0 j) (fun b o e => Heap.get?_push_of_some _ e) (Nat.le_refl _) ⟨_, _, _, Heap.get?_push_size _ rfl⟩, rfl, q _ (I.hok.fresh (Nat.le_refl _))⟩
def rngI (lo : Int) (n : Nat) : List Int := (List.range n).map fun i : Nat => lo + (i : Int)
theorem rngI_get {lo : Int} {n i : Nat} (h : i < n) : (rngI lo n)[i]? = some (lo + i) := by unfold rngI; rw [List.getElem?_map, List.getElem?_range h]; rfl
theorem rngI_len {lo : Int} {n : Nat} : (rngI lo n).length = n := by unfold rngI; rw [List.length_map, List.length_range]
theorem vals_rngI {lo : Int} {n : Nat} {acc : Array Value} (h : ItemsOf (fun i v => ∃ t, v = .int (lo + i * 1) t) acc n) : Vals ((rngI lo n).map V.int) acc.toList := by
 have go : ∀ (l : List Value) (k : Nat), (∀ (j : Nat) v, l[j]? = some v → ∃ t, v = .int (lo + ((k + j : Nat) : Int)) t) → Vals (((List.range' k l.length).map fun i : Nat => lo + (i : Int)).map V.int) l := by
  intro l
  induction l with
  | nil => intro k _; exact .nil
  | cons x r ih =>
   intro k hk
   rw [List.length_cons, List.range'_succ]
   refine .cons ?_ (ih (k + 1) fun j v hv => ?_)
   ·obtain ⟨t, e⟩ := hk 0 x rfl
    exact ⟨t, e⟩
   ·obtain ⟨t, e⟩ := hk (j + 1) v hv
    exact ⟨t, by rw [e]; congr 2; omega⟩
 have e := go acc.toList 0 fun j v hv => by
  rw [Array.getElem?_toList] at hv
  obtain ⟨t, e⟩ := h.2 j v hv
  exact ⟨t, by rw [e]; congr 1 <;> omega⟩
 rw [Array.length_toList, h.1] at e
 unfold rngI
 rw [List.range_eq_range']
 exact e
end
def nodupS : List Str → Bool
 | [] => true
 | x :: r => !(r.contains x) && nodupS r
theorem nodupS_ok : ∀ {l : List Str}, nodupS l = true → l.Nodup
 | [], _ => List.nodup_nil
 | x :: r, h => by
  unfold nodupS at h
  simp only [Bool.and_eq_true, Bool.not_eq_true'] at h
  refine List.nodup_cons.mpr ⟨fun z => ?_, nodupS_ok h.2⟩
  have := List.contains_iff_mem.mpr z
  rw [h.1] at this; cases this
def isLoc (sc : Scope) (x : Str) : Bool := match sc.names.lookup x with
 | some .local => true
 | some .cell => true
 | _ => false
theorem isLoc_ok {sc : Scope} {x : Str} (h : isLoc sc x = true) : Loc sc x := by
 unfold isLoc at h
 split at h
 ·rename_i e; exact .inl e
 ·rename_i e; exact .inr e
 ·cases h
def isPlainLoc (sc : Scope) (x : Str) : Bool := match sc.names.lookup x with
 | some .local => true
 | _ => false
theorem isPlainLoc_ok {sc : Scope} {x : Str} (h : isPlainLoc sc x = true) : sc.names.lookup x = some .local := by
 unfold isPlainLoc at h
 split at h
 ·rename_i e; exact e
 ·cases h
def isVis (sc : Scope) (x : Str) : Bool := match sc.names.lookup x with
 | some .local => true
 | some .cell => true
 | some .free => true
 | _ => false
theorem isVis_ok {sc : Scope} {x : Str} (h : isVis sc x = true) : Vis sc x := by
 unfold isVis at h
 split at h
 ·rename_i e; exact .inl e
 ·rename_i e; exact .inr (.inl e)
 ·rename_i e; exact .inr (.inr e)
 ·cases h
def isGlob (sc : Scope) (x : Str) : Bool := match sc.names.lookup x with
 | some .globalImplicit => true
 | _ => false
def noStar : Expr → Bool
 | .Starred _ _ => false
 | _ => true
theorem star_cons {e : Expr} {es : List Expr} {env : Env} (h : noStar e = true) : starEach (e :: es) env = (false, eval e env) :: starEach es env := by cases e <;> first | rfl | cases h
def noStars : List Expr → Bool
 | [] => true
 | e :: r => noStar e && noStars r
theorem noStars_any {env : Env} {pos : Pos} : ∀ {es : List Expr}, noStars es = true → (backTo pos (starEach es env)).any (·.1) = false
 | [], _ => rfl
 | e :: r, h => by
  unfold noStars at h
  rw [Bool.and_eq_true] at h
  rw [star_cons h.1]
  exact noStars_any h.2
section
variable {X : Cx}
theorem pc {e : Expr} {es : List Expr} {te : TE} {t : TA} (ha : PE X e te) (hr : PA X es t) (hs : noStar e = true := by rfl) : PA X (e :: es) (tCons te t) := pa_cons ha hr (star_cons hs)
theorem gl_of {x : Str} (h : isGlob X.env.scope x = true) : Gl X x := by
 unfold isGlob at h
 split at h
 ·rename_i e; exact e
 ·cases h
theorem vn (i : Nat) {x : Str} {pos : Pos} (hN : X.N[i]? = some x := by rfl) (hv : isVis X.env.scope x = true := by kernel_rfl) (hd : (x == ("__debug__" : Str)) = false := by kernel_rfl) (hcd : (x == ("__classdict__" : Str)) = false := by kernel_rfl) :
  PE X (.Name x pos) (tVar i) := pe_var hN (isVis_ok hv) hd hcd
theorem gn (i : Nat) {x : Str} {pos : Pos} (hi : X.N[i]? = some x := by rfl) (hN : nodupS X.N = true := by kernel_rfl) (hx : isPlainLoc X.env.scope x = true := by kernel_rfl) : PG X (.Name x pos) (gName i) :=
 pg_name (nodupS_ok hN) hi (.inl (isPlainLoc_ok hx)) (.inr (isPlainLoc_ok hx))
theorem gnf (i : Nat) {x : Str} {pos : Pos} (hf : X.fn x = true) (hi : X.N[i]? = some x := by rfl) (hN : nodupS X.N = true := by kernel_rfl) (hx : isLoc X.env.scope x = true := by kernel_rfl) : PG X (.Name x pos) (gName i) :=
 pg_name (nodupS_ok hN) hi (isLoc_ok hx) (.inl hf)
theorem sset (i : Nat) {x : Str} {e : Expr} {te : TE} {pos pos' : Pos} (hf : X.fn x = true) (he : PE X e te) (hi : X.N[i]? = some x := by rfl) (hN : nodupS X.N = true := by kernel_rfl) (hx : isLoc X.env.scope x = true := by kernel_rfl)
  (hs : swapsWith e (some (.Name x pos')) pos.line X.env = pure false := by rfl) : PS X (.Assign [.Name x pos'] e pos) (tAsg te (gName i)) :=
 ps_set (nodupS_ok hN) hi (isLoc_ok hx) he hs (.inl hf)
theorem cb {x : Str} {id : String} {r : List V → Hp → VK → Prop} {e : Expr} {es : List Expr} {t : TA} {p pos : Pos} (hc : CallR X (.builtin id) r) (hm : X.mg x = none) (ha : PA X (e :: es) t) (hg : isGlob X.env.scope x = true := by kernel_rfl) (hv : bootBuiltins x = some (.builtin id) := by kernel_rfl)
  (hn : x ≠ "__name__" := by decide) (hd : (x == ("__debug__" : Str)) = false := by kernel_rfl) (he : noStar e = true := by rfl) (hpl : noStars es = true := by rfl) :
  PE X (.Call (.Name x p) (e :: es) [] pos) (tCB r t) := pe_callB hc (gl_of hg) hm hv ha hn hd (star_cons he) (noStars_any hpl)
theorem ct {x : Str} {T : String} {r : List V → Hp → VK → Prop} {e : Expr} {es : List Expr} {t : TA} {p pos : Pos} (hc : CallR X (.type T) r) (hm : X.mg x = none) (ha : PA X (e :: es) t) (hg : isGlob X.env.scope x = true := by kernel_rfl) (hv : bootBuiltins x = some (.type T) := by kernel_rfl)
  (hn : x ≠ "__name__" := by decide) (hd : (x == ("__debug__" : Str)) = false := by kernel_rfl) (he : noStar e = true := by rfl) (hpl : noStars es = true := by rfl) :
  PE X (.Call (.Name x p) (e :: es) [] pos) (tCB r t) := pe_callTy hc (gl_of hg) hm hv ha hn hd (star_cons he) (noStars_any hpl)
theorem tyv (T : String) {x : Str} {pos : Pos} (hm : X.mg x = none) (hg : isGlob X.env.scope x = true := by kernel_rfl) (hv : bootBuiltins x = some (.type T) := by kernel_rfl) (hn : x ≠ "__name__" := by decide) (hd : (x == ("__debug__" : Str)) = false := by kernel_rfl) :
  PE X (.Name x pos) (tC (.ty T)) := pe_bltn (gl_of hg) hm hv rfl hn hd
theorem gint {x : Str} {i : Int} {t : Tok} {pos : Pos} (hm : X.mg x = some (.int i t)) (hg : isGlob X.env.scope x = true := by kernel_rfl) (hd : (x == ("__debug__" : Str)) = false := by kernel_rfl) : PE X (.Name x pos) (tC (.int i)) := pe_glob (gl_of hg) hm ⟨t, rfl⟩ hd
theorem rng1 {tg a : Expr} {ta : TA} {p pos : Pos} (hm : X.mg "range" = none) (ha : PA X [a] ta) (hg : isGlob X.env.scope "range" = true := by kernel_rfl) (hs : starEach [a] X.env = [(false, eval a X.env)] := by rfl) : PI X tg (.Call (.Name "range" p) [a] [] pos) (iRng1 ta) := pi_range1 (gl_of hg) hm ha hs
end
def Fn (P : Program) (w : World) (K : PySem.W.Frag) (mg : Str → Option Value) (base : Heap) (CX : CXT) (k : Nat) (x : Str) (ps : List Str) (sp : Sp) : Prop :=
 ∃ f fd, FnOk P w K mg base CX k f fd ps sp ∧ mg x = some (.ref f) ∧ PySem.W.keepIn K (.ref f) = true ∧ Binds K fd ps []
section
variable {X : Cx}
theorem fnc {CX : CXT} {k j : Nat} {x : Str} {ps : List Str} {sp : Sp} {E : XK} {e : Expr} {es : List Expr} {t : TA} {p pos : Pos} (G : Fn X.prog X.w X.K X.mg X.base CX k x ps sp) (hr : Room j X.A) (hx : Passes CX X E) (ha : PA X (e :: es) t) (hk : k ≤ j := by decide)
  (hg : isGlob X.env.scope x = true := by kernel_rfl) (hd : (x == ("__debug__" : Str)) = false := by kernel_rfl) (he : noStar e = true := by rfl) (hpl : noStars es = true := by rfl) :
  PE X (.Call (.Name x p) (e :: es) [] pos) (tCall sp [] E t) := by
 obtain ⟨f, fd, F, hm, kp, b⟩ := G
 exact pe_call F (hr.mono hk) (gl_of hg) hm kp b .nil hx ha hd (star_cons he) (noStars_any hpl)
end
theorem Fn.mk {P : Program} {w : World} {K : PySem.W.Frag} {mg : Str → Option Value} {base h : Heap} {CX : CXT} {k : Nat} {x : Str} {ps : List Str} {sp : Sp} {st : Stmt} {f : Addr} {oc : Value} {od an : Option Addr} {osl : Array (Option Value)} {kV doc pm cdv ct : Value} (X : K.In h) (G : h.Ns mainGlobals mg)
  (a : PySem.W.nsIn K mainGlobals x = some (some (.ref f))) (l : K.lookup f = some ⟨oc, od, .func (PySem.W.fnOf x x (defArgs st) (defBody st) (defScope st) .none kV doc pm an cdv ct), osl⟩) (c : PySem.W.codeIn K cdv x = true) (kp : PySem.W.keepIn K (.ref f) = true)
  (hok : ∀ fd, Fun K x x st f fd → FnOk P w K mg base CX k f fd ps sp)
  (hb : ∀ (kV doc pm : Value) (an : Option Addr) (cdv ct : Value) (us : List Value), us.length = ps.length → bindArgs (PySem.W.fnOf x x (defArgs st) (defBody st) (defScope st) .none kV doc pm an cdv ct) ⟨us, []⟩ = pure (ps.zip us)) :
  Fn P w K mg base CX k x ps sp :=
 ⟨f, _, hok _ (fun_mk l c kp), PySem.W.mg_of X G a, kp, (fun_mk l c kp).binds hb⟩
def isaB (n T : String) : Bool := n == T || (n == "bool" && T == "int")
def kinds7 : List String := ["NoneType", "bool", "int", "str", "list", "tuple", "dict"]
theorem kit7 {K : PySem.W.Frag} {n T : String} (hn : n ∈ kinds7) (hT : T ∈ ["int", "bool", "tuple", "list", "str"]) : PySem.W.kitOne K (.type n) (.type T) = some (isaB n T) := by
 simp only [kinds7, List.mem_cons, List.mem_singleton, List.not_mem_nil, or_false] at hn hT
 rcases hn with rfl | rfl | rfl | rfl | rfl | rfl | rfl <;> rcases hT with rfl | rfl | rfl | rfl | rfl <;> kernel_rfl
def Kd (K : PySem.W.Frag) (H : Hp) (x : V) (n : String) : Prop := TyOf K H x (.type n) ∧ n ∈ kinds7
def rIsa (K : PySem.W.Frag) (T : String) : List V → Hp → VK → Prop := fun xs H Q => ∃ x n, xs = [x, .ty T] ∧ Kd K H x n ∧ Q (.bl (isaB n T)) H
theorem call_isa {X : Cx} {T : String} (hT : T ∈ ["int", "bool", "tuple", "list", "str"]) : CallR X (.builtin "isinstance") (rIsa X.K T) := by
 intro pins s σ H xs us Q I r h
 obtain ⟨x, n, rfl, ⟨ty, hn⟩, q⟩ := h
 refine call_isi pins s σ H _ us Q I r ⟨x, .ty T, .type n, isaB n T, rfl, ty, fun cv rc => ?_, q⟩
 cases (show cv = Value.type T from rc)
 exact kit7 hn hT
section
variable {X : Cx}
theorem ixT (K : PySem.W.Frag) (hK : X.K = K := by rfl) : IxR X (rIxT K) := hK ▸ ix_tup
theorem ixL (K : PySem.W.Frag) (hK : X.K = K := by rfl) : IxR X (rIxL K) := hK ▸ ix_list
theorem isaK (K : PySem.W.Frag) (T : String) (hT : T ∈ ["int", "bool", "tuple", "list", "str"] := by decide) (hK : X.K = K := by rfl) : CallR X (.builtin "isinstance") (rIsa K T) := hK ▸ call_isa hT
def rLen (K : PySem.W.Frag) : List V → Hp → VK → Prop := fun xs H Q => ∃ p ys, xs = [.ref p] ∧ (SqL K H p ys ∨ SqT K H p ys) ∧ Q (.int ys.length) H
theorem lenK (K : PySem.W.Frag) (hK : X.K = K := by rfl) : CallR X (.builtin "len") (rLen K) := hK ▸ call_len_seq
theorem itT (K : PySem.W.Frag) {tg l : Expr} {tl : TE} (hl : PE X l tl) (hK : X.K = K := by rfl) : PI X tg l (iTup K tl) := hK ▸ pi_tup hl
theorem itL (K : PySem.W.Frag) {tg l : Expr} {tl : TE} (hl : PE X l tl) (hK : X.K = K := by rfl) : PI X tg l (iList K tl) := hK ▸ pi_list hl
end
def compOk (N : List Str) (esc : Scope) (own : List Str) (caps : List Nat) (N' : List Str) (sc : Scope) : Bool :=
 (sc.kind == .function) && nodupS (sc.names.map (·.1)) && sc.names.all (fun y => y.2 != .local || isPlainLoc sc y.1) && nodupS N' && decide (N' = own ++ caps.map fun j => N.getD j "") &&
  caps.all (fun j => decide (j < N.length) && (match sc.names.lookup (N.getD j "") with | some .free => true | _ => false)) &&
  sc.names.all (fun y => y.2 != .free || (match esc.names.lookup y.1 with | some .cell => true | some .free => true | _ => false))
theorem CompScope.of {N : List Str} {esc : Scope} {own : List Str} {caps : List Nat} {N' : List Str} {sc : Scope} (h : compOk N esc own caps N' sc = true) : CompScope N esc own caps N' sc := by
 unfold compOk at h
 simp only [Bool.and_eq_true, List.all_eq_true, decide_eq_true_eq, beq_iff_eq, bne_iff_ne, ne_eq, Bool.or_eq_true] at h
 obtain ⟨⟨⟨⟨⟨⟨h1, h2⟩, h3⟩, h4⟩, h5⟩, h6⟩, h7⟩ := h
 refine ⟨h1, nodupS_ok h2, fun y hy e => ?_, nodupS_ok h4, h5, fun j hj => ⟨(h6 j hj).1, ?_⟩, fun y hy e => ?_⟩
 ·rcases h3 y hy with z | z
  ·exact absurd e z
  ·exact isPlainLoc_ok z
 ·have := (h6 j hj).2
  split at this
  ·rename_i z; exact z
  ·cases this
 ·rcases h7 y hy with z | z
  ·exact absurd e z
  ·split at z
   ·rename_i q; exact .inl q
   ·rename_i q; exact .inr q
   ·cases z
theorem cmp {X : Cx} (own : List Str) (caps : List Nat) (N' : List Str) {scope : Scope} {elt iter tg : Expr} {ifs : List Expr} {pos : Pos} {wi : TI} {g : TG} {tc : TT} {te : TE} (hc : X.calm = true) (hi : PI X tg iter wi)
  (hg : ∀ cl C s H ex, PG (compCx X scope cl N' C s H ex) tg g) (ht : ∀ cl C s H ex, PIf (compCx X scope cl N' C s H ex) ifs tc) (he : ∀ cl C s H ex, PE (compCx X scope cl N' C s H ex) elt te)
  (hS : compOk X.N X.env.scope own caps N' scope = true := by kernel_rfl) (hs : ∀ x, foldedSetIterable iter X.env x = pure x := by intro _; rfl) :
  PE X (.ListComp elt [⟨tg, iter, ifs, 0⟩] scope pos) (tComp own caps wi g tc te) := pe_comp rfl (.of hS) hc hi hg ht he hs
section
variable {X : Cx}
end
theorem tw_intro {c : TT} {tb : TS} {D : Ends} {σ : St} {H : Hp} (Pv : Nat → St → Hp → Prop) (Ex : St → Hp → Prop) (hend : ∀ σ H, Ex σ H → D.nx σ H) (h0 : ∃ m, Pv m σ H)
  (turn : (∀ σ H, Ex σ H → D.nx σ H) → ∀ m σ H, Pv m σ H → c σ H fun b H1 => if b = true then ∃ N : St → Hp → Prop, (∀ σ' H', N σ' H' → ∃ m', m' < m ∧ Pv m' σ' H') ∧ tb { D with nx := N, ct := N, bk := D.nx } σ H1 else D.nx σ H1) :
  tWhile c tb D σ H := ⟨Pv, h0, turn hend⟩
structure SeqIt (J : It) (H : Hp) (xs : List V) : Prop where
 go : ∀ (i : Nat) H', Same H H' → i < xs.length → J.go i H'
 yld : ∀ (i : Nat) H' x H2, Same H H' → i < xs.length → J.yld i H' x H2 → H2 = H' ∧ xs[i]? = some x
 stop : ∀ H', Same H H' → J.stop xs.length H'
theorem SeqIt.mono {J : It} {H H' : Hp} {xs : List V} (s : Same H H') (S : SeqIt J H xs) : SeqIt J H' xs :=
 ⟨fun i H2 e => S.go i H2 (s.trans e), fun i H2 x H3 e => S.yld i H2 x H3 (s.trans e), fun H2 e => S.stop H2 (s.trans e)⟩
theorem seq_tup {K : PySem.W.Frag} {H : Hp} {a : Addr} {xs : List V} (h : SqT K H a xs) : SeqIt (Itt K a) H xs :=
 ⟨fun i H' s hi => ⟨xs, _, s.tup h, List.getElem?_eq_getElem hi⟩, fun i H' x H2 s _ y => ⟨y.1, y.2 xs (s.tup h)⟩, fun H' s => ⟨xs, s.tup h, Nat.le_refl _⟩⟩
theorem seq_lst {K : PySem.W.Frag} {H : Hp} {a : Addr} {xs : List V} (h : SqL K H a xs) : SeqIt (Itl K a) H xs :=
 ⟨fun i H' s hi => ⟨xs, _, s.seq h, List.getElem?_eq_getElem hi⟩, fun i H' x H2 s _ y => ⟨y.1, y.2 xs (s.seq h)⟩, fun H' s => ⟨xs, s.seq h, Nat.le_refl _⟩⟩
theorem seq_rng {H : Hp} (lo : Int) (n : Nat) : SeqIt (Itr lo n) H ((rngI lo n).map V.int) := by
 have hl : ((rngI lo n).map V.int).length = n := by rw [List.length_map, rngI_len]
 refine ⟨fun i H' s hi => by rw [hl] at hi; exact hi, fun i H' x H2 s hi y => ?_, fun H' s => by show n ≤ _; rw [hl]; exact Nat.le_refl _⟩
 rw [hl] at hi
 exact ⟨y.1, by rw [y.2, List.getElem?_map, rngI_get hi]; rfl⟩
theorem comp_seq {J : It} {own : List Str} {caps : List Nat} {g : TG} {tc : TT} {te : TE} {σ : St} {H : Hp} {Q : VK} {xs : List V} (S : SeqIt J H xs) (cs : St) (hcs : capS own caps σ = none :: cs) (f : V → Option V) (hz : xs.length ≤ 1000000)
  (hs : ∀ (i : Nat) x v0 H', xs[i]? = some x → Same H H' → ∀ (R : St → V → Hp → Prop) (R' : St → Hp → Prop), (∀ v H5, f x = some v → Same H' H5 → R (some x :: cs) v H5) → (∀ H4, f x = none → Same H' H4 → R' (some x :: cs) H4) →
   g x (v0 :: cs) H' fun σ3 H3 => tc σ3 H3 fun b H4 => if b = true then te σ3 H4 (R σ3) else R' σ3 H4)
  (hd : ∀ D H', H D = none → Same H H' → H' D = some (.lst (xs.filterMap f)) → Q (.ref D) H') :
  CompK own caps g tc te σ Q J H := by
 intro D hD
 refine ⟨fun i m σ' H' => m = xs.length - i ∧ i ≤ xs.length ∧ (∃ v0, σ' = v0 :: cs) ∧ Same H H' ∧ H' D = some (.lst ((xs.take i).filterMap f)), ⟨_, rfl, Nat.zero_le _, ⟨none, hcs⟩, Same.upd hD, by rw [upd_same, List.take_zero]; rfl⟩, ?_⟩
 rintro i m σ' H' ⟨rfl, hi, ⟨v0, rfl⟩, s, hl⟩
 by_cases hlt : i < xs.length
 ·refine .inr ⟨S.go i H' s hlt, _, fun σ2 H2 z => z, fun x H2 y => ?_⟩
  obtain ⟨rfl, hx⟩ := S.yld i H' x H2 s hlt y
  have ht : xs.take (i + 1) = xs.take i ++ [x] := by rw [List.take_add_one, hx]; rfl
  have hlen : ((xs.take i).filterMap f).length ≤ i := Nat.le_trans (List.length_filterMap_le _ _) (by rw [List.length_take]; omega)
  refine hs i x v0 H2 hx s _ _ (fun v H5 e s5 => ?_) (fun H4 e s4 => ?_)
  ·refine ⟨_, s5 _ _ hl, ?_, xs.length - (i + 1), by omega, rfl, hlt, ⟨_, rfl⟩, (s.trans s5).updr hD, ?_⟩
   ·have : (16777216 : Nat) = sizeLine := by decide
    omega
   ·rw [upd_same, ht, List.filterMap_append, List.filterMap_cons, e]; rfl
  ·refine ⟨xs.length - (i + 1), by omega, rfl, hlt, ⟨_, rfl⟩, s.trans s4, ?_⟩
   rw [s4 _ _ hl, ht, List.filterMap_append, List.filterMap_cons, e]
   simp
 ·have e : i = xs.length := by omega
  subst e
  refine .inl ⟨S.stop H' s, hd D H' hD s ?_⟩
  rw [hl, List.take_length]
theorem for_seq {J : It} {g : TG} {tb : TS} {D : Ends} {σ : St} {H0 H : Hp} {xs : List V} (S : SeqIt J H0 xs) (Pv : Nat → St → Hp → Prop) (h0 : Pv 0 σ H) (hS : ∀ i σ H, Pv i σ H → Same H0 H)
  (hs : ∀ (i : Nat) x σ H, xs[i]? = some x → Pv i σ H → g x σ H fun σ2 H2 => tb { D with nx := Pv (i + 1), ct := Pv (i + 1), bk := D.nx } σ2 H2) (hd : ∀ σ H, Pv xs.length σ H → D.nx σ H) :
  ∃ W : Nat → Nat → St → Hp → Prop, (∃ m, W 0 m σ H) ∧ ∀ i m σ H, W i m σ H →
   (J.stop i H ∧ D.nx σ H) ∨ (J.go i H ∧ ∃ N : St → Hp → Prop, (∀ σ' H', N σ' H' → ∃ m', m' < m ∧ W (i + 1) m' σ' H') ∧ ∀ x H', J.yld i H x H' → g x σ H' fun σ2 H2 => tb { D with nx := N, ct := N, bk := D.nx } σ2 H2) := by
 refine ⟨fun i m σ H => m = xs.length - i ∧ i ≤ xs.length ∧ Pv i σ H, ⟨_, rfl, Nat.zero_le _, h0⟩, ?_⟩
 rintro i m σ H ⟨rfl, hi, p⟩
 have s := hS i σ H p
 by_cases hlt : i < xs.length
 ·refine .inr ⟨S.go i H s hlt, Pv (i + 1), fun σ' H' p' => ⟨xs.length - (i + 1), by omega, rfl, hlt, p'⟩, fun x H' y => ?_⟩
  obtain ⟨rfl, hx⟩ := S.yld i H x H' s hlt y
  exact hs i x σ _ hx p
 ·have e : i = xs.length := by omega
  subst e
  exact .inl ⟨S.stop H s, hd σ H p⟩
theorem tT {A B : Hp → Prop} {σ : St} {H : Hp} (h : A H) : tTrue σ H fun b H4 => if b = true then A H4 else B H4 := by
 show if true = true then A H else B H
 rw [if_pos rfl]; exact h
theorem fm_some {α β : Type} (g : α → β) : ∀ xs : List α, xs.filterMap (fun y => some (g y)) = xs.map g
 | [] => rfl
 | x :: r => by rw [List.filterMap_cons, List.map_cons, fm_some g r]
theorem fm_if {α β : Type} (p : α → Bool) (g : α → β) : ∀ xs : List α, xs.filterMap (fun y => if p y = true then some (g y) else none) = (xs.filter p).map g
 | [] => rfl
 | x :: r => by
  rw [List.filterMap_cons, List.filter_cons, fm_if p g r]
  by_cases h : p x = true
  ·rw [if_pos h, if_pos h]; rfl
  ·rw [if_neg h, if_neg h]
theorem iteP {c A B : Prop} [Decidable c] (hc : c) (h : A) : if c then A else B := by rw [if_pos hc]; exact h
theorem iteN {c A B : Prop} [Decidable c] (hc : ¬ c) (h : B) : if c then A else B := by rw [if_neg hc]; exact h
theorem comp_map {J : It} {own : List Str} {caps : List Nat} {te : TE} {σ : St} {H : Hp} {Q : VK} {xs : List V} (S : SeqIt J H xs) (cs : St) (hcs : capS own caps σ = none :: cs) (f : V → V) (hz : xs.length ≤ 1000000)
  (hs : ∀ (i : Nat) x H', xs[i]? = some x → Same H H' → ∀ R : VK, (∀ H5, Same H' H5 → R (f x) H5) → te (some x :: cs) H' R)
  (hd : ∀ D H', H D = none → Same H H' → H' D = some (.lst (xs.map f)) → Q (.ref D) H') : CompK own caps (gName 0) tTrue te σ Q J H := by
 refine comp_seq S cs hcs (fun x => some (f x)) hz (fun i x v0 H' hx s R R' h1 h2 => ?_) fun D H' hD s hl => hd D H' hD s (by rw [hl, fm_some])
 show tTrue (some x :: cs) H' fun b H4 => if b = true then te (some x :: cs) H4 (R (some x :: cs)) else R' (some x :: cs) H4
 exact tT (A := fun H4 => te (some x :: cs) H4 (R (some x :: cs))) (hs i x H' hx s _ fun H5 s5 => h1 _ H5 rfl s5)
theorem comp_filt {J : It} {own : List Str} {caps : List Nat} {tc : TT} {te : TE} {σ : St} {H : Hp} {Q : VK} {xs : List V} (S : SeqIt J H xs) (cs : St) (hcs : capS own caps σ = none :: cs) (p : V → Bool) (f : V → V) (hz : xs.length ≤ 1000000)
  (hs : ∀ (i : Nat) x H', xs[i]? = some x → Same H H' → ∀ (R : VK) (R' : Hp → Prop), (p x = true → ∀ H5, Same H' H5 → R (f x) H5) → (p x = false → ∀ H4, Same H' H4 → R' H4) → tc (some x :: cs) H' fun b H4 => if b = true then te (some x :: cs) H4 R else R' H4)
  (hd : ∀ D H', H D = none → Same H H' → H' D = some (.lst ((xs.filter p).map f)) → Q (.ref D) H') : CompK own caps (gName 0) tc te σ Q J H := by
 refine comp_seq S cs hcs (fun x => if p x = true then some (f x) else none) hz (fun i x v0 H' hx s R R' h1 h2 => ?_) fun D H' hD s hl => hd D H' hD s (by rw [hl, fm_if])
 exact hs i x H' hx s (R (some x :: cs)) (R' (some x :: cs)) (fun e H5 s5 => h1 _ H5 (by rw [if_pos e]) s5) fun e H4 s4 => h2 H4 (by rw [if_neg (by rw [e]; decide)]) s4
def DefIn (K : PySem.W.Frag) (x : Str) (st : Stmt) : Prop :=
 ∃ (f : Addr) (oc : Value) (od an : Option Addr) (osl : Array (Option Value)) (kV doc pm cdv ct : Value), PySem.W.nsIn K mainGlobals x = some (some (.ref f)) ∧
  K.lookup f = some ⟨oc, od, .func (PySem.W.fnOf x x (defArgs st) (defBody st) (defScope st) .none kV doc pm an cdv ct), osl⟩ ∧ PySem.W.codeIn K cdv x = true ∧ PySem.W.keepIn K (.ref f) = true
theorem DefIn.mk {K : PySem.W.Frag} {x : Str} {st : Stmt} {f : Addr} {oc : Value} {od an : Option Addr} {osl : Array (Option Value)} {kV doc pm cdv ct : Value} (a : PySem.W.nsIn K mainGlobals x = some (some (.ref f)))
  (l : K.lookup f = some ⟨oc, od, .func (PySem.W.fnOf x x (defArgs st) (defBody st) (defScope st) .none kV doc pm an cdv ct), osl⟩) (c : PySem.W.codeIn K cdv x = true) (k : PySem.W.keepIn K (.ref f) = true) : DefIn K x st :=
 ⟨f, oc, od, an, osl, kV, doc, pm, cdv, ct, a, l, c, k⟩
theorem DefIn.fn {P : Program} {w : World} {K : PySem.W.Frag} {mg : Str → Option Value} {base h : Heap} {CX : CXT} {k : Nat} {x : Str} {ps : List Str} {sp : Sp} {st : Stmt} (D : DefIn K x st) (X : K.In h) (G : h.Ns mainGlobals mg)
  (hok : ∀ f fd, Fun K x x st f fd → FnOk P w K mg base CX k f fd ps sp)
  (hb : ∀ (kV doc pm : Value) (an : Option Addr) (cdv ct : Value) (us : List Value), us.length = ps.length → bindArgs (PySem.W.fnOf x x (defArgs st) (defBody st) (defScope st) .none kV doc pm an cdv ct) ⟨us, []⟩ = pure (ps.zip us)) :
  Fn P w K mg base CX k x ps sp := by
 obtain ⟨f, oc, od, an, osl, kV, doc, pm, cdv, ct, a, l, c, kp⟩ := D
 exact Fn.mk X G a l c kp (fun fd F => hok f fd F) hb
theorem DefIn.law {P : Program} {w : World} {K : PySem.W.Frag} {mg : Str → Option Value} {h : Heap} {CX : CXT} {k : Nat} {x : Str} {p : Str} {sp : Sp} {st : Stmt} {fa : Addr} (D : DefIn K x st) (X : K.In h) (G : h.Ns mainGlobals mg) (hfa : mg x = some (.ref fa))
  (hok : ∀ (base : Heap) f fd, base.Ns mainGlobals mg → K.In base → Fun K x x st f fd → FnOk P w K mg base CX k f fd [p] sp)
  (hb : ∀ (kV doc pm : Value) (an : Option Addr) (cdv ct : Value) (s : Shared) (u : Value), BindsTo s (PySem.W.fnOf x x (defArgs st) (defBody st) (defScope st) .none kV doc pm an cdv ct) ⟨[u], []⟩ [(p, u)]) :
  ∃ fd : FuncData, (∀ (s : Shared) (u : Value), BindsTo s fd ⟨[u], []⟩ [(p, u)]) ∧ ∀ base : Heap, K.In base → base.Ns mainGlobals mg → FnOk P w K mg base CX k fa fd [p] sp := by
 obtain ⟨f, oc, od, an, osl, kV, doc, pm, cdv, ct, a, l, c, kp⟩ := D
 have e := hfa.symm.trans (PySem.W.mg_of X G a)
 cases e
 exact ⟨_, fun s u => hb kV doc pm an cdv ct s u, fun base kb nb => hok base _ _ nb kb (fun_mk l c kp)⟩
theorem len_le_of_sub {α : Type} [DecidableEq α] : ∀ (l l' : List α), l.Nodup → (∀ a ∈ l, a ∈ l') → l.length ≤ l'.length
 | [], _, _, _ => Nat.zero_le _
 | a :: r, l', nd, h => by
  obtain ⟨na, nr⟩ := List.nodup_cons.mp nd
  have ha : a ∈ l' := h a List.mem_cons_self
  have := len_le_of_sub r (l'.erase a) nr fun b hb => by
   have hne : b ≠ a := fun e => na (e ▸ hb)
   exact (List.mem_erase_of_ne hne).mpr (h b (List.mem_cons_of_mem _ hb))
  rw [List.length_erase_of_mem ha] at this
  have hp : 0 < l'.length := List.length_pos_of_mem ha
  rw [List.length_cons]
  omega
theorem met_nodup (val : Nat → Int) : ∀ i, (firstMet val i).Nodup
 | 0 => List.nodup_nil
 | i + 1 => by
  have ih := met_nodup val i
  rw [firstMet_succ]
  unfold step_dedup
  split
  ·exact ih
  ·rename_i h
   refine List.nodup_append.mpr ⟨ih, List.nodup_cons.mpr ⟨by simp, List.nodup_nil⟩, ?_⟩
   intro a ha b hb e
   rw [List.mem_singleton.mp hb] at e
   apply h
   first
    | exact List.any_eq_true.mpr ⟨a, ha, by simp [e]⟩
    | simpa [e] using ha
theorem met_mem (val : Nat → Int) (i : Nat) (k : Int) : k ∈ firstMet val i ↔ ∃ j, j < i ∧ val j = k := by
 have h := firstMet_any val i k
 constructor
 ·intro hk
  have : (firstMet val i).any (· == k) = true := List.any_eq_true.mpr ⟨k, hk, by simp⟩
  rw [h] at this
  obtain ⟨x, hx, e⟩ := List.any_eq_true.mp this
  obtain ⟨j, hj, rfl⟩ := List.mem_map.mp hx
  exact ⟨j, List.mem_range.mp hj, by simpa using e⟩
 ·rintro ⟨j, hj, rfl⟩
  have : ((List.range i).map val).any (· == val j) = true := List.any_eq_true.mpr ⟨val j, List.mem_map.mpr ⟨j, List.mem_range.mpr hj, rfl⟩, by simp⟩
  rw [← h] at this
  obtain ⟨x, hx, e⟩ := List.any_eq_true.mp this
  have : x = val j := by simpa using e
  exact this ▸ hx
theorem metOf_mem (ns : List Int) (k : Int) : k ∈ metOf ns ns.length ↔ k ∈ ns := by
 rw [met_mem]
 constructor
 ·rintro ⟨j, hj, rfl⟩
  rw [List.getD_eq_getElem?_getD, List.getElem?_eq_getElem hj]; exact List.getElem_mem hj
 ·intro h
  obtain ⟨j, hj, e⟩ := List.getElem_of_mem h
  exact ⟨j, hj, by rw [List.getD_eq_getElem?_getD, List.getElem?_eq_getElem hj]; exact e⟩
theorem rngI_nodup (n : Nat) : (rngI 0 n).Nodup := by
 unfold rngI
 rw [List.Nodup, List.pairwise_map]
 exact List.Pairwise.imp (fun h e => h (by omega)) (List.nodup_range (n := n))
theorem rngI_iff {n : Nat} {k : Int} : k ∈ rngI 0 n ↔ 0 ≤ k ∧ k < n := by
 unfold rngI
 rw [List.mem_map]
 constructor
 ·rintro ⟨i, hi, rfl⟩
  have := List.mem_range.mp hi; omega
 ·rintro ⟨h0, h1⟩
  obtain ⟨j, rfl⟩ := Int.eq_ofNat_of_zero_le h0
  exact ⟨j, List.mem_range.mpr (by omega), by simp⟩
theorem perm_iff (ns : List Int) : ((∀ z ∈ ns, 0 ≤ z ∧ z < ns.length) ∧ (metOf ns ns.length).length = ns.length) ↔ ∀ k : Nat, k < ns.length → (k : Int) ∈ ns := by
 constructor
 ·rintro ⟨hr, hl⟩ k hk
  apply Classical.byContradiction
  intro hn
  have h1 := len_le_of_sub (metOf ns ns.length) ((rngI 0 ns.length).erase (k : Int)) (met_nodup _ _) fun a ha => by
   have hm := (metOf_mem ns a).mp ha
   have hne : a ≠ (k : Int) := fun e => hn (e ▸ hm)
   exact (List.mem_erase_of_ne hne).mpr (rngI_iff.mpr (hr a hm))
  rw [List.length_erase_of_mem (rngI_iff.mpr ⟨by omega, by omega⟩), rngI_len, hl] at h1
  omega
 ·intro h
  have hsub : ∀ a ∈ rngI 0 ns.length, a ∈ ns := fun a ha => by
   obtain ⟨h0, h1⟩ := rngI_iff.mp ha
   obtain ⟨j, rfl⟩ := Int.eq_ofNat_of_zero_le h0
   exact h j (by omega)
  refine ⟨fun z hz => ?_, ?_⟩
  ·apply Classical.byContradiction
   intro hn
   have h1 := len_le_of_sub (rngI 0 ns.length) (ns.erase z) (rngI_nodup _) fun a ha => by
    have hne : a ≠ z := fun e => hn (e ▸ rngI_iff.mp ha)
    exact (List.mem_erase_of_ne hne).mpr (hsub a ha)
   have hp : 0 < ns.length := List.length_pos_of_mem hz
   rw [List.length_erase_of_mem hz, rngI_len] at h1
   omega
  ·have h1 := len_le_of_sub (rngI 0 ns.length) (metOf ns ns.length) (rngI_nodup _) fun a ha => (metOf_mem ns a).mpr (hsub a ha)
   have h2 := firstMet_length_le (fun i => ns.getD i 0) ns.length
   rw [rngI_len] at h1
   have h3 : (metOf ns ns.length).length ≤ ns.length := h2
   omega
section
variable {X : Cx}
end
theorem gT {te : TE} {N : St → Hp → Prop} {Kt : St → V → Hp → Prop} {x : V} {v0 : Option V} {cs : St} {H : Hp} (h : te (some x :: cs) H (Kt (some x :: cs))) : gName 0 x (v0 :: cs) H fun σ3 H3 => tTrue σ3 H3 fun b H4 => if b = true then te σ3 H4 (Kt σ3) else N σ3 H4 := by
 show if true = true then te (some x :: cs) H (Kt (some x :: cs)) else N (some x :: cs) H
 rw [if_pos rfl]; exact h
theorem comp_gen {J : It} {own : List Str} {caps : List Nat} {te : TE} {σ : St} {H : Hp} {Q : VK} {xs : List V} (G : Addr → Nat → List V → Hp → Prop) (cs : St) (hcs : capS own caps σ = none :: cs) (hz : xs.length ≤ 1000000)
  (S : ∀ D i ys H', H D = none → H' D = some (.lst ys) → G D i ys H' → (i < xs.length → J.go i H' ∧ ∀ x H2, J.yld i H' x H2 → H2 = H' ∧ xs[i]? = some x) ∧ (i = xs.length → J.stop i H'))
  (h0 : ∀ D, H D = none → G D 0 [] (upd H D (.lst [])))
  (hs : ∀ D (i : Nat) x ys H', H D = none → H' D = some (.lst ys) → xs[i]? = some x → G D i ys H' → ∀ R : VK, (∀ v H5, H5 D = some (.lst ys) → G D (i + 1) (ys ++ [v]) (upd H5 D (.lst (ys ++ [v]))) → R v H5) → te (some x :: cs) H' R)
  (hd : ∀ D ys H', H D = none → H' D = some (.lst ys) → ys.length = xs.length → G D xs.length ys H' → Q (.ref D) H') : CompK own caps (gName 0) tTrue te σ Q J H := by
 intro D hD
 refine ⟨fun i m σ' H' => m = xs.length - i ∧ i ≤ xs.length ∧ (∃ v0, σ' = v0 :: cs) ∧ ∃ ys, H' D = some (.lst ys) ∧ ys.length = i ∧ G D i ys H', ⟨_, rfl, Nat.zero_le _, ⟨none, hcs⟩, [], upd_same, rfl, h0 D hD⟩, ?_⟩
 rintro i m σ' H' ⟨rfl, hi, ⟨v0, rfl⟩, ys, hl, hy, g⟩
 obtain ⟨S1, S2⟩ := S D i ys H' hD hl g
 by_cases hlt : i < xs.length
 ·refine .inr ⟨(S1 hlt).1, _, fun σ2 H2 z => z, fun x H2 y => ?_⟩
  obtain ⟨rfl, hx⟩ := (S1 hlt).2 x H2 y
  refine gT ?_
  refine hs D i x ys H2 hD hl hx g _ fun v H5 h5 g5 => ⟨ys, h5, ?_, xs.length - (i + 1), by omega, rfl, hlt, ⟨_, rfl⟩, ys ++ [v], upd_same, by rw [List.length_append]; simp [hy], g5⟩
  have : (16777216 : Nat) = sizeLine := by decide
  omega
 ·have e : i = xs.length := by omega
  exact .inl ⟨S2 e, hd D ys H' hD hl (by omega) (e ▸ g)⟩
theorem setc {X : Cx} (i : Nat) (own : List Str) (caps : List Nat) (N' : List Str) {scope : Scope} {elt iter tg : Expr} {ifs : List Expr} {pos spos py : Pos} {y : Str} {wi : TI} {g : TG} {tc : TT} {te : TE} (hc : X.calm = true) (hf : X.fn y = true) (hi : PI X tg iter wi)
  (hg : ∀ cl C s H ex, PG (compCx X scope cl N' C s H ex) tg g) (ht : ∀ cl C s H ex, PIf (compCx X scope cl N' C s H ex) ifs tc) (he : ∀ cl C s H ex, PE (compCx X scope cl N' C s H ex) elt te)
  (hS : compOk X.N X.env.scope own caps N' scope = true := by kernel_rfl) (hy : X.N[i]? = some y := by rfl) (hN : nodupS X.N = true := by kernel_rfl) (hx : isLoc X.env.scope y = true := by kernel_rfl)
  (hsw : swapsWith (.ListComp elt [⟨tg, iter, ifs, 0⟩] scope pos) (some (.Name y py)) spos.line X.env = pure true := by rfl) (hs : ∀ x, foldedSetIterable iter X.env x = pure x := by intro _; rfl) :
  PS X (.Assign [.Name y py] (.ListComp elt [⟨tg, iter, ifs, 0⟩] scope pos) spos) (tAsg (tComp own caps wi g tc te) (gName i)) := ps_setComp rfl (.of hS) hc hi hg ht he (nodupS_ok hN) hy (isLoc_ok hx) (.inl hf) hsw hs
end L2
namespace HT
open PySem PyProof.Rows
section
variable {prog : Program} {w : World} {A : Around} {E : Value → Shared → Prop} {s : Shared}
end
end HT
namespace L2
open PySem PySem.Spec PyProof.Rows
section
variable {X : Cx} {e : Expr} {te ts : TE} {st : Expr} {pos p2 : Pos}
end
end L2
namespace HT
open PySem PyProof.Rows
section
variable {prog : Program} {w : World} {A : Around} {E : Value → Shared → Prop} {s : Shared}
end
end HT
namespace L2
open PySem PySem.Spec PyProof.Rows
section
variable {X : Cx}
end
end L2
namespace PyS
open PySem PySem.SetTable
def Rise (p : Array Nat) : Prop := p.toList.Pairwise (· < ·)
theorem Rise.lt {p : Array Nat} (h : Rise p) {i j : Nat} {x y : Nat} (hij : i < j) (hi : p[i]? = some x) (hj : p[j]? = some y) : x < y := by
 rw [← Array.getElem?_toList] at hi hj
 obtain ⟨li, rfl⟩ := List.getElem?_eq_some_iff.mp hi
 obtain ⟨lj, rfl⟩ := List.getElem?_eq_some_iff.mp hj
 exact List.pairwise_iff_getElem.mp h i j li lj hij
structure Cutt (p : Array Nat) (j k : Nat) : Prop where
 le : k ≤ p.size
 lo : ∀ i x, i < k → p[i]? = some x → x < j
 hi : ∀ i x, k ≤ i → p[i]? = some x → j ≤ x
theorem go_cut {p : Array Nat} (h : Rise p) (j : Nat) : ∀ (fuel lo hi : Nat), lo ≤ hi → hi ≤ p.size → hi - lo ≤ fuel → (∀ i x, i < lo → p[i]? = some x → x < j) → (∀ i x, hi ≤ i → p[i]? = some x → j ≤ x) → Cutt p j (below.go p j fuel lo hi)
 | 0, lo, hi, h1, h2, h3, h4, h5 => by
  have : lo = hi := by omega
  subst this
  exact ⟨h2, h4, h5⟩
 | fuel + 1, lo, hi, h1, h2, h3, h4, h5 => by
  unfold below.go
  by_cases hlt : lo < hi
  ·rw [if_pos hlt]
   dsimp only
   have hm : (lo + hi) / 2 < p.size := by omega
   have em : p[(lo + hi) / 2]? = some p[(lo + hi) / 2] := Array.getElem?_eq_getElem hm
   have eg : p.getD ((lo + hi) / 2) j = p[(lo + hi) / 2] := by rw [Array.getD_eq_getD_getElem?, em]; rfl
   rw [eg]
   by_cases hc : p[(lo + hi) / 2] < j
   ·rw [if_pos hc]
    refine go_cut h j fuel _ _ (by omega) h2 (by omega) (fun i x hi' e => ?_) h5
    by_cases e1 : i = (lo + hi) / 2
    ·subst e1
     rw [em] at e
     cases e
     exact hc
    ·exact Nat.lt_trans (h.lt (by omega) e em) hc
   ·rw [if_neg hc]
    refine go_cut h j fuel _ _ (by omega) (by omega) (by omega) h4 fun i x hi' e => ?_
    by_cases e1 : i = (lo + hi) / 2
    ·subst e1
     rw [em] at e
     cases e
     omega
    ·have := h.lt (by omega) em e
     omega
  ·rw [if_neg hlt]
   have : lo = hi := by omega
   subst this
   exact ⟨h2, h4, h5⟩
theorem below_cut {p : Array Nat} (h : Rise p) (j : Nat) : Cutt p j (below p j) := go_cut h j _ _ _ (Nat.zero_le _) (Nat.le_refl _) (by omega) (fun i x hi => absurd hi (Nat.not_lt_zero _)) (fun i x hi e => by
 rw [Array.getElem?_eq_none hi] at e
 cases e)
theorem Cutt.uniq {p : Array Nat} {j k k' : Nat} (a : Cutt p j k) (b : Cutt p j k') : k = k' := by
 have key : ∀ {k k' : Nat}, Cutt p j k → Cutt p j k' → ¬ k < k' := fun {k k'} a b hlt => by
  have hs : k < p.size := Nat.lt_of_lt_of_le hlt b.le
  have e : p[k]? = some p[k] := Array.getElem?_eq_getElem hs
  have h1 := b.lo k _ hlt e
  have h2 := a.hi k _ (Nat.le_refl _) e
  omega
 have := key a b
 have := key b a
 omega
theorem Rise.insert {p : Array Nat} (h : Rise p) {j : Nat} (hn : p[below p j]? ≠ some j) : Rise (insertAt p (below p j) j) := by
 have c := below_cut h j
 generalize below p j = k at c hn
 unfold Rise
 rw [toList_insertAt]
 have hm : ∀ y ∈ p.toList.take k, y < j := fun y hy => by
  obtain ⟨i, hi, rfl⟩ := List.mem_take_iff_getElem.mp hy
  have : i < p.size := by rw [← Array.length_toList]; omega
  exact c.lo i _ (by omega) (by rw [Array.getElem?_eq_getElem this]; simp)
 have hd : ∀ y ∈ p.toList.drop k, j < y := fun y hy => by
  obtain ⟨i, hi, rfl⟩ := List.mem_drop_iff_getElem.mp hy
  have hs : k + i < p.size := by rw [Array.length_toList] at hi; omega
  have h1 := c.hi (k + i) p[k + i] (by omega) (by rw [Array.getElem?_eq_getElem hs])
  have h2 : p[k + i] ≠ j := fun z => by
   by_cases e : i = 0
   ·subst e
    exact hn (by rw [← z]; exact Array.getElem?_eq_getElem (by simpa using hs))
   ·have hk : k < p.size := by omega
    have h3 := h.lt (i := k) (j := k + i) (by omega) (Array.getElem?_eq_getElem hk) (Array.getElem?_eq_getElem hs)
    have h4 := c.hi k _ (Nat.le_refl _) (Array.getElem?_eq_getElem hk)
    omega
  show j < p.toList[k + i]
  rw [Array.getElem_toList]
  omega
 rw [List.pairwise_append]
 refine ⟨List.Pairwise.sublist (List.take_sublist k _) h, ?_, fun a ha b hb => ?_⟩
 ·rw [List.pairwise_cons]
  exact ⟨hd, List.Pairwise.sublist (List.drop_sublist k _) h⟩
 ·rcases List.mem_cons.mp hb with hb | hb
  ·rw [hb]; exact hm a ha
  ·exact Nat.lt_trans (hm a ha) (hd b hb)
structure Wk (t : SetTable) (led : Bool) : Prop where
 rise : Rise t.place
 dum : t.dummies = #[]
 led : t.led = led
theorem pair_fm {n : Nat} (g : Nat → Option Nat) : (((List.range n).filterMap fun j => (g j).map (j, ·)).map (·.1)).Pairwise (· < ·) := by
 have e : ∀ l : List Nat, (l.filterMap fun j => (g j).map (j, ·)).map (·.1) = l.filter fun j => (g j).isSome := fun l => by
  induction l with
  | nil => rfl
  | cons a l ih =>
   rw [List.filterMap_cons, List.filter_cons]
   cases h : g a with
   | none => rw [Option.map_none]; dsimp only; rw [ih]; rfl
   | some b => rw [Option.map_some]; dsimp only; rw [List.map_cons, ih]; rfl
 rw [e]
 exact List.Pairwise.sublist List.filter_sublist List.pairwise_lt_range
theorem next_at {p : Array Nat} (h : Rise p) {i : Nat} {slot : Nat} (hi : i ≤ p.size) (hs : (i = 0 ∧ slot = 0) ∨ (∃ j x, i = j + 1 ∧ p[j]? = some x ∧ slot = x + 1)) : below p slot = i := by
 refine (below_cut h slot).uniq ⟨hi, fun k x hk e => ?_, fun k x hk e => ?_⟩
 ·rcases hs with ⟨rfl, _⟩ | ⟨j, y, rfl, ey, rfl⟩
  ·omega
  ·by_cases e1 : k = j
   ·subst e1
    rw [ey] at e
    cases e
    omega
   ·have := h.lt (by omega) e ey
    omega
 ·rcases hs with ⟨_, rfl⟩ | ⟨j, y, rfl, ey, rfl⟩
  ·omega
  ·have := h.lt (by omega) ey e
   omega
theorem erase_perm {α : Type} : ∀ {l : List α} {i : Nat} {x : α}, l[i]? = some x → List.Perm (x :: l.eraseIdx i) l
 | [], i, x, e => by cases e
 | a :: l, 0, x, e => by cases e; exact List.Perm.refl _
 | a :: l, i + 1, x, e => by
  rw [List.getElem?_cons_succ] at e
  rw [List.eraseIdx_cons_succ]
  exact (List.Perm.swap a x _).trans ((erase_perm e).cons a)
theorem pick_perm {α : Type} (next : Nat → Nat) : ∀ (fuel k : Nat) (left : List α) (out : Array α), left.length ≤ fuel → List.Perm (pickOrder.go next fuel k left out).toList (out.toList ++ left)
 | 0, k, left, out, h => by
  have : left = [] := List.length_eq_zero_iff.mp (by omega)
  subst this
  unfold pickOrder.go
  rw [List.append_nil]
 | fuel + 1, k, left, out, h => by
  unfold pickOrder.go
  split
  ·rename_i x e
   have hl := (List.getElem?_eq_some_iff.mp e).1
   refine (pick_perm next fuel (k + 1) _ _ (by rw [List.length_eraseIdx]; split <;> omega)).trans ?_
   rw [Array.toList_push, List.append_assoc]
   refine List.Perm.append_left _ ?_
   exact erase_perm e
  ·rename_i e
   have : left = [] := by
    rcases left with _ | ⟨a, l⟩
    ·rfl
    ·exfalso
     rw [List.getElem?_eq_none_iff] at e
     have := Nat.mod_lt (next k) (show 0 < (a :: l).length by rw [List.length_cons]; omega)
     omega
   subst this
   rw [List.append_nil]
theorem pickOrder_perm {α : Type} (next : Nat → Nat) (xs : Array α) : List.Perm (pickOrder next xs).toList xs.toList := by
 unfold pickOrder
 have := pick_perm next xs.size 0 xs.toList #[] (by rw [Array.length_toList]; exact Nat.le_refl _)
 simpa using this
end PyS
namespace PyS
open PySem
theorem slot_si_next : Slot "set_iterator" "__next__" "set_iterator.__next__" :=
 .of (owner := "set_iterator") (n := "__next__") (by rw [typeLookup_type, builtinLookup_eq_fast]; kernel_rfl) (by decide +kernel) (by decide +kernel) (by decide +kernel)
  (by first | exact .inl (by decide +kernel) | exact .inr (by decide +kernel)) (by rw [isSubtype_type]; kernel_rfl)
theorem entry_si_next : entryFor table "set_iterator.__next__" = some Builtin.«set_iterator.__next__» := entryFor_of_tree (by kernel_rfl)
theorem owner_si : Manifest.owners.lookup (String.ofList ['r', 'o', 't', 'a', 'r', 'e', 't', 'i', '_', 't', 'e', 's'].reverse) = some Manifest.sig_set_iterator := by kernel_rfl
theorem args_si_next (a : Value) : argsOk "set_iterator.__next__" ⟨[a], []⟩ := by
 unfold argsOk; rw [signature?_of (id := "set_iterator.__next__") (n := ['_', '_', 't', 'x', 'e', 'n', '_', '_']) (o := ['r', 'o', 't', 'a', 'r', 'e', 't', 'i', '_', 't', 'e', 's']) (by kernel_rfl) owner_si]; kernel_rfl
theorem slot_si_iter : Slot "set_iterator" "__iter__" "set_iterator.__iter__" :=
 .of (owner := "set_iterator") (n := "__iter__") (by rw [typeLookup_type, builtinLookup_eq_fast]; kernel_rfl) (by decide +kernel) (by decide +kernel) (by decide +kernel)
  (by first | exact .inl (by decide +kernel) | exact .inr (by decide +kernel)) (by rw [isSubtype_type]; kernel_rfl)
theorem entry_si_iter : entryFor table "set_iterator.__iter__" = some Builtin.«dict_keyiterator.__iter__» := entryFor_alias (id' := "dict_keyiterator.__iter__") (by kernel_rfl) rfl (by decide +kernel) (by kernel_rfl)
theorem args_si_iter (a : Value) : argsOk "set_iterator.__iter__" ⟨[a], []⟩ := by
 unfold argsOk; rw [signature?_of (id := "set_iterator.__iter__") (n := ['_', '_', 'r', 'e', 't', 'i', '_', '_']) (o := ['r', 'o', 't', 'a', 'r', 'e', 't', 'i', '_', 't', 'e', 's']) (by kernel_rfl) owner_si]; kernel_rfl
theorem entry_set_iter : entryFor table "set.__iter__" = some Builtin.«frozenset.__iter__» := entryFor_alias (id' := "frozenset.__iter__") (by kernel_rfl) rfl (by decide +kernel) (by kernel_rfl)
def SAt (h : Heap) (a : Addr) (es : Array (Int × Value)) (ep : Nat) (t : SetTable) : Prop := ∃ o, h.get? a = some o ∧ o.ExactSet ∧ o.data = .set es ep t ∧ t.fits es.size = true
def IsSIt (h : Heap) (I : Addr) (first : Value) (i : Nat) (a : Addr) (n ep : Nat) : Prop := ∃ o, h.get? I = some o ∧ o.cls = .type "set_iterator" ∧ o.data = .fields #[first, .int i 0, .ref a, .int n 0, .int ep 0]
theorem SAt.keep {h h' : Heap} {a : Addr} {es : Array (Int × Value)} {ep : Nat} {t : SetTable} (S : SAt h a es ep t) (k : ∀ o, h.get? a = some o → h'.get? a = some o) : SAt h' a es ep t := let ⟨o, e, r⟩ := S; ⟨o, k o e, r⟩
theorem IsSIt.keep {h h' : Heap} {I : Addr} {first : Value} {i : Nat} {a : Addr} {n ep : Nat} (S : IsSIt h I first i a n ep) (k : ∀ o, h.get? I = some o → h'.get? I = some o) : IsSIt h' I first i a n ep := let ⟨o, e, r⟩ := S; ⟨o, k o e, r⟩
section
variable {prog : Program} {w : World} {A : Around} {E : Value → Shared → Prop} {s : Shared} {I a : Addr} {es : Array (Int × Value)} {ep : Nat} {t : SetTable} {first : Value} {i n : Nat}
theorem IsSIt.typeIs (h : IsSIt s.heap I first i a n ep) : s.TypeIs (.ref I) "set_iterator" := let ⟨o, e, c, _⟩ := h; ⟨o, e, c⟩
theorem SAt.typeIs (h : SAt s.heap a es ep t) : s.TypeIs (.ref a) "set" := let ⟨o, e, c, _⟩ := h; ⟨o, e, c.1⟩
theorem SAt.state (h : SAt s.heap a es ep t) {Q : (Array (Int × Value) × Nat × SetTable) → Shared → Prop} (q : Q (es, ep, t) s) : wpAny (model prog w) A (setState a) Q E s := let ⟨_, e, _, d, f⟩ := h; wpAny_setState_of e d f q
theorem SAt.entries (h : SAt s.heap a es ep t) {Q : Array (Int × Value) → Shared → Prop} (q : Q es s) : wpAny (model prog w) A (setEntries a) Q E s := by
 unfold setEntries
 exact wpAny_bind (h.state (wpAny_pure q))
theorem SAt.epoch (h : SAt s.heap a es ep t) {Q : Nat → Shared → Prop} (q : Q ep s) : wpAny (model prog w) A (setEpoch a) Q E s := by
 unfold setEpoch
 exact wpAny_bind (h.state (wpAny_pure q))
theorem byText {Q : Bool → Shared → Prop} (q : Q (w.params.followText "set-order") s) : wpAny (model prog w) A setsByText Q E s := by
 unfold setsByText
 exact wpAny_bind (wpAny_askSetting (wpAny_pure q))
theorem IsSIt.turn {h : Heap} {o : Obj} (e : h.get? I = some o) (c : o.cls = .type "set_iterator") (d : o.data = .fields #[first, .int i 0, .ref a, .int n 0, .int ep 0]) (next : Value) :
  IsSIt ((h.update I (Obj.mapFields (·.setIfInBounds 0 next))).update I (Obj.mapFields (·.setIfInBounds 1 (rawInt ((i : Int) + 1))))) I next (i + 1) a n ep := by
 have h1 := Heap.get?_update_self (Obj.mapFields (·.setIfInBounds 0 next)) e (Obj.isFreed_of_fields (Obj.data_mapFields d _))
 have d1 := Obj.data_mapFields d (·.setIfInBounds 0 next)
 refine ⟨_, Heap.get?_update_self _ h1 (Obj.isFreed_of_fields (Obj.data_mapFields d1 _)), ?_, ?_⟩
 ·rw [Obj.cls_mapFields, Obj.cls_mapFields, c]
 ·rw [Obj.data_mapFields d1]
  simp [rawInt]
theorem next_int {slot : Nat} {Q : Option Value → Shared → Prop} (hI : IsSIt s.heap I (.int slot 0) i a n ep) (hS : SAt s.heap a es ep t) (hn : es.size = n) {x : Value} {nx : Nat}
  (hN : ∀ {R : Option (Value × Nat) → Shared → Prop} {A' : Around} {E' : Value → Shared → Prop}, R (some (x, nx)) s → wpAny (model prog w) A' (setNext a slot i ep) R E' s)
  (q : ∀ h', IsSIt h' I (.int nx 0) (i + 1) a n ep → Heap.SameBut I s.heap h' → Q (some x) { s with heap := h' }) : wpAny (model prog w) A (pyNext (.ref I)) Q E s := by
 obtain ⟨o, e, c, d⟩ := id hI
 unfold pyNext
 refine wpAny_bind (wpAny_attempt (wpAny_callSpecial?_slot (name := Str.ofString "__next__") hI.typeIs slot_si_next (wpAny_call_entry slot_si_next hI.typeIs entry_si_next ?_ (args_si_next _))))
 unfold Builtin.«set_iterator.__next__»
 refine wpAny_bind (wpAny_pure ?_)
 refine wpAny_bind (wpAny_fieldsOf e d ?_)
 refine wpAny_bind (hS.entries ?_)
 rw [hn]
 rw [if_neg (by simp)]
 show wpAny _ _ (setNext a slot i ep >>= _) _ _ s
 refine wpAny_bind (hN ?_)
 dsimp only
 refine wpAny_bind (wpAny_setField e d (by simp) ?_)
 have h1 := Heap.get?_update_self (Obj.mapFields (·.setIfInBounds 0 (rawInt nx))) e (Obj.isFreed_of_fields (Obj.data_mapFields d _))
 have d1 := Obj.data_mapFields d (·.setIfInBounds 0 (rawInt nx))
 refine wpAny_bind (wpAny_setField h1 d1 (by simp) ?_)
 exact wpAny_pure ⟨_, rfl, wpAny_pure (q _ (IsSIt.turn e c d _) ((Heap.SameBut.update ..).trans (Heap.SameBut.update ..)))⟩
theorem stop_end {h : Heap} {Q : Option Value → Shared → Prop} {F : Fin → Shared → Prop} (hh : A.handled = none) (q : ∀ h', (∀ b o, h.get? b = some o → h'.get? b = some o) → Q none { s with heap := h' }) :
  wpAny (model prog w) A.in1 (do let x ← newExc (.type "StopIteration") []; raiseNew (α := Fin) x) F (fun e s' => wpAny (model prog w) A (do let b ← isInstance e (.type "StopIteration"); if b = true then pure none else throw e) Q E s') { s with heap := h } := by
 refine wpAny_bind ?_
 unfold newExc newTuple
 refine wpAny_bind (wpAny_newObj_type (Q := _) ?_ (by size_fits))
 refine wpAny_bind (m := firstArgMember _ _) (wpAny_of_eq (a := Value.none) (by first | rfl | (unfold firstArgMember; rfl)) ?_)
 refine wpAny_newObj_type (Q := _) ?_ (by size_fits)
 unfold raiseNew
 refine wpAny_bind (wpAny_handled ?_)
 rw [show A.in1.handled = none from hh]
 refine wpAny_bind (wpAny_pure (wpAny_throw ?_))
 refine wpAny_bind (wpAny_isInstance (T := "StopIteration") (b := true) ⟨_, Heap.get?_push_size _ rfl, rfl⟩ isSubtype_stop ?_)
 exact wpAny_pure (q _ fun b o e => Heap.get?_push_of_some _ (Heap.get?_push_of_some _ e))
theorem end_int {slot : Nat} {Q : Option Value → Shared → Prop} (hh : A.handled = none) (hI : IsSIt s.heap I (.int slot 0) i a n ep) (hS : SAt s.heap a es ep t) (hn : es.size = n)
  (hN : ∀ {R : Option (Value × Nat) → Shared → Prop} {A' : Around} {E' : Value → Shared → Prop}, R none s → wpAny (model prog w) A' (setNext a slot i ep) R E' s)
  (q : ∀ h', (∀ b o, b ≠ I → s.heap.get? b = some o → h'.get? b = some o) → Q none { s with heap := h' }) : wpAny (model prog w) A (pyNext (.ref I)) Q E s := by
 obtain ⟨o, e, c, d⟩ := id hI
 unfold pyNext
 refine wpAny_bind (wpAny_attempt (wpAny_callSpecial?_slot (name := Str.ofString "__next__") hI.typeIs slot_si_next (wpAny_call_entry slot_si_next hI.typeIs entry_si_next ?_ (args_si_next _))))
 unfold Builtin.«set_iterator.__next__»
 refine wpAny_bind (wpAny_pure ?_)
 refine wpAny_bind (wpAny_fieldsOf e d ?_)
 refine wpAny_bind (hS.entries ?_)
 rw [hn]
 rw [if_neg (by simp)]
 show wpAny _ _ (setNext a slot i ep >>= _) _ _ s
 refine wpAny_bind (hN ?_)
 dsimp only
 refine wpAny_bind (wpAny_setField e d (by simp) ?_)
 exact stop_end hh fun h' k => q h' fun b o' hb e' => k b o' ((Heap.SameBut.update s.heap I _).extBut b o' hb e')
theorem nx_text (ht : w.params.followText "set-order" = true) (hS : SAt s.heap a es ep t) {slot : Nat} {R : Option (Value × Nat) → Shared → Prop}
  (q : R (((pickOrder (w.params.setOrder a ep) es)[i]?).map fun e => (e.2, slot)) s) : wpAny (model prog w) A (setNext a slot i ep) R E s := by
 unfold setNext
 refine wpAny_bind (hS.state ?_)
 dsimp only
 refine wpAny_bind (byText ?_)
 rw [ht, if_pos rfl, if_neg (by simp)]
 refine wpAny_bind ?_
 unfold setWalk
 refine wpAny_bind (hS.state ?_)
 dsimp only
 refine wpAny_bind (byText ?_)
 rw [ht, if_pos rfl]
 exact wpAny_bind (wpAny_askSetting (wpAny_pure (wpAny_pure q)))
theorem nx_table (ht : w.params.followText "set-order" = false) (hS : SAt s.heap a es ep t) (hd : t.plain = true ∨ es.size ≤ 1) (hl : t.led = true) {slot : Nat} {R : Option (Value × Nat) → Shared → Prop}
  (q : R (match es[SetTable.below t.place slot]?, t.place[SetTable.below t.place slot]? with | some (_, x), some j => some (x, j + 1) | _, _ => none) s) : wpAny (model prog w) A (setNext a slot i ep) R E s := by
 unfold setNext
 refine wpAny_bind (hS.state ?_)
 dsimp only
 refine wpAny_bind (byText ?_)
 rw [ht, if_neg (by decide)]
 show wpAny _ _ (if (!t.plain && decide (es.size > 1)) = true then _ else _) _ _ s
 rw [if_neg (by
  rcases hd with hd | hd
  ·rw [hd]; simp
  ·rw [decide_eq_false (by omega), Bool.and_false]; decide)]
 show wpAny _ _ ((if (!t.led && !es.isEmpty) = true then _ else _) >>= _) _ _ s
 rw [hl]
 exact wpAny_bind (wpAny_pure (wpAny_pure q))
theorem next_drawn {T0 : Addr} {ps : Array Value} {pl : Nat} {Q : Option Value → Shared → Prop} (hI : IsSIt s.heap I (.ref T0) i a n ep) (hT : ∃ o k, s.heap.get? T0 = some o ∧ o.data = .seq ps k) (hS : SAt s.heap a es ep t) (hn : es.size = n) (hp : ps[i]? = some (.int pl 0)) {h : Int} {x : Value} (hx : es[pl]? = some (h, x))
  (q : ∀ h', IsSIt h' I (.ref T0) (i + 1) a n ep → Heap.SameBut I s.heap h' → Q (some x) { s with heap := h' }) : wpAny (model prog w) A (pyNext (.ref I)) Q E s := by
 obtain ⟨o, e, c, d⟩ := id hI
 obtain ⟨ot, k, et, dt⟩ := hT
 unfold pyNext
 refine wpAny_bind (wpAny_attempt (wpAny_callSpecial?_slot (name := Str.ofString "__next__") hI.typeIs slot_si_next (wpAny_call_entry slot_si_next hI.typeIs entry_si_next ?_ (args_si_next _))))
 unfold Builtin.«set_iterator.__next__»
 refine wpAny_bind (wpAny_pure ?_)
 refine wpAny_bind (wpAny_fieldsOf e d ?_)
 refine wpAny_bind (hS.entries ?_)
 rw [hn]
 rw [if_neg (by simp)]
 show wpAny _ _ (seqItems? (.ref T0) >>= _) _ _ s
 refine wpAny_bind (wpAny_seqItems et dt ?_)
 dsimp only
 rw [Int.toNat_natCast, hp]
 show wpAny _ _ (setNextDrawn a pl ep >>= _) _ _ s
 refine wpAny_bind ?_
 unfold setNextDrawn
 refine wpAny_bind (hS.state ?_)
 dsimp only
 rw [if_neg (by simp), hx]
 refine wpAny_pure ?_
 refine wpAny_bind (wpAny_setField e d (by simp) ?_)
 refine wpAny_pure ⟨_, rfl, wpAny_pure (q _ ⟨_, Heap.get?_update_self _ e (Obj.isFreed_of_fields (Obj.data_mapFields d _)), ?_, ?_⟩ (Heap.SameBut.update ..))⟩
 ·rw [Obj.cls_mapFields, c]
 ·rw [Obj.data_mapFields d]
  simp [rawInt]
theorem end_drawn {T0 : Addr} {ps : Array Value} {Q : Option Value → Shared → Prop} (hh : A.handled = none) (hI : IsSIt s.heap I (.ref T0) i a n ep) (hT : ∃ o k, s.heap.get? T0 = some o ∧ o.data = .seq ps k) (hS : SAt s.heap a es ep t) (hn : es.size = n) (hp : ps[i]? = none)
  (q : ∀ h', (∀ b o, b ≠ I → s.heap.get? b = some o → h'.get? b = some o) → Q none { s with heap := h' }) : wpAny (model prog w) A (pyNext (.ref I)) Q E s := by
 obtain ⟨o, e, c, d⟩ := id hI
 obtain ⟨ot, k, et, dt⟩ := hT
 unfold pyNext
 refine wpAny_bind (wpAny_attempt (wpAny_callSpecial?_slot (name := Str.ofString "__next__") hI.typeIs slot_si_next (wpAny_call_entry slot_si_next hI.typeIs entry_si_next ?_ (args_si_next _))))
 unfold Builtin.«set_iterator.__next__»
 refine wpAny_bind (wpAny_pure ?_)
 refine wpAny_bind (wpAny_fieldsOf e d ?_)
 refine wpAny_bind (hS.entries ?_)
 rw [hn]
 rw [if_neg (by simp)]
 show wpAny _ _ (seqItems? (.ref T0) >>= _) _ _ s
 refine wpAny_bind (wpAny_seqItems et dt ?_)
 dsimp only
 rw [Int.toNat_natCast, hp]
 dsimp only
 refine wpAny_bind (wpAny_setField e d (by simp) ?_)
 have h1 := Heap.get?_update_self (Obj.mapFields (·.setIfInBounds 0 (rawInt 0))) e (Obj.isFreed_of_fields (Obj.data_mapFields d _))
 have d1 := Obj.data_mapFields d (·.setIfInBounds 0 (rawInt 0))
 refine wpAny_bind (wpAny_setField h1 d1 (by simp) ?_)
 exact stop_end hh fun h' k => q h' fun b o' hb e' => k b o' (((Heap.SameBut.update s.heap I _).trans (Heap.SameBut.update _ I _)).extBut b o' hb e')
theorem choose_ok {src : Source} {m : Nat} {Q : Nat → Shared → Prop} (hm : m ≠ 0) (q : ∀ k dr, k < m → Q k { s with drawn := dr }) : wpAny (model prog w) A (choose src m) Q E s := fun _ _ _ => ⟨hm, q _ _ (Nat.mod_lt _ (by omega))⟩
theorem draw_perm {α : Type} : ∀ (m : Nat) (xs : List α) {s : Shared} {Q : List α → Shared → Prop}, xs.length ≤ m → (∀ ys dr, List.Perm ys xs → Q ys { s with drawn := dr }) → wpAny (model prog w) A (drawOrder m xs) Q E s
 | 0, xs, s, Q, h, q => by
  have : xs = [] := List.length_eq_zero_iff.mp (by omega)
  subst this
  unfold drawOrder
  exact wpAny_pure (q [] s.drawn (List.Perm.refl _))
 | m + 1, [], s, Q, h, q => by
  unfold drawOrder
  exact wpAny_pure (q [] s.drawn (List.Perm.refl _))
 | m + 1, x :: xs, s, Q, h, q => by
  unfold drawOrder
  refine wpAny_bind (choose_ok (by rw [List.length_cons]; omega) fun k dr hk => ?_)
  rw [List.getElem?_eq_getElem hk]
  dsimp only
  refine wpAny_bind (draw_perm m _ (by rw [List.length_eraseIdx, if_pos hk]; omega) fun ys dr' hp => wpAny_pure ?_)
  exact q _ dr' ((hp.cons _).trans (erase_perm (List.getElem?_eq_getElem hk)))
end
section
variable {prog : Program} {w : World} {A : Around} {E : Value → Shared → Prop} {s : Shared} {I a : Addr} {es : Array (Int × Value)} {ep : Nat} {t : SetTable} {first : Value} {i n : Nat}
theorem self_si {Q : Value → Shared → Prop} (hI : IsSIt s.heap I first i a n ep) (q : Q (.ref I) s) : wpAny (model prog w) A (pyIter (.ref I)) Q E s := by
 refine wpAny_pyIter_slot hI.typeIs slot_si_iter (wpAny_call_entry slot_si_iter hI.typeIs entry_si_iter ?_ (args_si_iter _))
 show wpAny _ _ (ret (.ref I)) _ _ s
 exact wpAny_pure ⟨_, rfl, "set_iterator", _, hI.typeIs, slot_si_next.lookup, q⟩
def vals (es : Array (Int × Value)) : List Value := es.toList.map (·.2)
theorem walk_text (hh : A.handled = none) (ht : w.params.followText "set-order" = true) (hne : a ≠ I) :
  Walks prog w A I [I, a] [I] es.size (fun i v => ((pickOrder (w.params.setOrder a ep) es).toList.map (·.2))[i]? = some v) (fun i h => IsSIt h I (.int 0 0) i a es.size ep ∧ SAt h a es ep t) where
 sub := fun b hb => by simp at hb; simp [hb]
 frame := fun _ _ _ st k => ⟨st.1.keep fun o e => k I (by simp) o e, st.2.keep fun o e => k a (by simp) o e⟩
 item := fun i s Q E hi st hQ => by
  have hp := pickOrder_perm (w.params.setOrder a ep) es
  have hl : (pickOrder (w.params.setOrder a ep) es).size = es.size := by rw [← Array.length_toList, hp.length_eq, Array.length_toList]
  have e : (pickOrder (w.params.setOrder a ep) es)[i]? = some ((pickOrder (w.params.setOrder a ep) es)[i]'(by omega)) := Array.getElem?_eq_getElem (by omega)
  generalize (pickOrder (w.params.setOrder a ep) es)[i]'(by omega) = y at e
  refine next_int (slot := 0) (x := y.2) (nx := 0) st.1 st.2 rfl (fun {R A' E'} r => nx_text ht st.2 (by rw [e]; exact r)) fun h' i' sb => ?_
  refine hQ y.2 h' s.toks ?_ ⟨i', st.2.keep fun o e => sb.extBut a o hne e⟩ fun b o hb e => sb.extBut b o (fun z => hb (by simp [z])) e
  rw [List.getElem?_map, Array.getElem?_toList, e]
  rfl
 done := fun s Q E st hQ => by
  have hp := pickOrder_perm (w.params.setOrder a ep) es
  have hl : (pickOrder (w.params.setOrder a ep) es).size = es.size := by rw [← Array.length_toList, hp.length_eq, Array.length_toList]
  refine end_int (slot := 0) hh st.1 st.2 rfl (fun {R A' E'} r => nx_text ht st.2 (by rw [Array.getElem?_eq_none (by omega)]; exact r)) fun h' k => hQ h' s.toks fun b o hb e => k b o (fun z => hb (by simp [z])) e
 self := fun _ _ _ _ st hQ => self_si st.1 hQ
theorem walk_table (hh : A.handled = none) (ht : w.params.followText "set-order" = false) (hd : t.plain = true ∨ es.size ≤ 1) (W : Wk t true) (hne : a ≠ I) :
  Walks prog w A I [I, a] [I] es.size (fun i v => (vals es)[i]? = some v) (fun i h => ∃ slot : Nat, ((i = 0 ∧ slot = 0) ∨ (∃ j x, i = j + 1 ∧ t.place[j]? = some x ∧ slot = x + 1)) ∧ IsSIt h I (.int slot 0) i a es.size ep ∧ SAt h a es ep t) where
 sub := fun b hb => by simp at hb; simp [hb]
 frame := fun _ _ _ st k => by
  obtain ⟨slot, h1, h2, h3⟩ := st
  exact ⟨slot, h1, h2.keep fun o e => k I (by simp) o e, h3.keep fun o e => k a (by simp) o e⟩
 item := fun i s Q E hi st hQ => by
  obtain ⟨slot, h1, h2, h3⟩ := st
  have hf : t.place.size = es.size := by
   obtain ⟨_, _, _, _, f⟩ := h3
   simp only [SetTable.fits, Bool.and_eq_true, beq_iff_eq] at f
   exact f.1
  have hb := next_at W.rise (i := i) (slot := slot) (by omega) h1
  have e1 : es[i]? = some es[i] := Array.getElem?_eq_getElem hi
  have e2 : t.place[i]? = some (t.place[i]'(by omega)) := Array.getElem?_eq_getElem (by omega)
  generalize es[i] = y at e1
  generalize t.place[i]'(by omega) = j at e2
  refine next_int (slot := slot) (x := y.2) (nx := j + 1) h2 h3 rfl (fun {R A' E'} r => nx_table ht h3 hd W.led (by rw [hb, e1, e2]; exact r)) fun h' i' sb => ?_
  refine hQ y.2 h' s.toks ?_ ⟨j + 1, .inr ⟨i, j, rfl, e2, rfl⟩, i', h3.keep fun o e => sb.extBut a o hne e⟩ fun b o hb e => sb.extBut b o (fun z => hb (by simp [z])) e
  show (es.toList.map (·.2))[i]? = some y.2
  rw [List.getElem?_map, Array.getElem?_toList, e1]
  rfl
 done := fun s Q E st hQ => by
  obtain ⟨slot, h1, h2, h3⟩ := st
  have hf : t.place.size = es.size := by
   obtain ⟨_, _, _, _, f⟩ := h3
   simp only [SetTable.fits, Bool.and_eq_true, beq_iff_eq] at f
   exact f.1
  have hb := next_at W.rise (i := es.size) (slot := slot) (by omega) h1
  refine end_int (slot := slot) hh h2 h3 rfl (fun {R A' E'} r => nx_table ht h3 hd W.led (by rw [hb, Array.getElem?_eq_none (Nat.le_refl _)]; exact r)) fun h' k => hQ h' s.toks fun b o hb e => k b o (fun z => hb (by simp [z])) e
 self := fun _ _ _ _ st hQ => by
  obtain ⟨slot, h1, h2, h3⟩ := st
  exact self_si h2 hQ
theorem walk_drawn (hh : A.handled = none) {T0 : Addr} {ps : List Nat} (hp : List.Perm ps (List.range es.size)) (hne : a ≠ I) (hnT : T0 ≠ I) :
  Walks prog w A I [I, a, T0] [I] es.size (fun i v => (ps.filterMap fun p => (es[p]?).map (·.2))[i]? = some v) (fun i h => IsSIt h I (.ref T0) i a es.size ep ∧ SAt h a es ep t ∧ ∃ o k, h.get? T0 = some o ∧ o.data = .seq (ps.map fun (p : Nat) => rawInt p).toArray k) where
 sub := fun b hb => by simp at hb; simp [hb]
 frame := fun _ _ _ st k => by
  obtain ⟨h1, h2, o, k0, h3, h4⟩ := st
  exact ⟨h1.keep fun o e => k I (by simp) o e, h2.keep fun o e => k a (by simp) o e, o, k0, k T0 (by simp) o h3, h4⟩
 item := fun i s Q E hi st hQ => by
  obtain ⟨h1, h2, h3⟩ := st
  have hl : ps.length = es.size := by rw [hp.length_eq, List.length_range]
  have e0 : ps[i]? = some (ps[i]'(by omega)) := List.getElem?_eq_getElem (by omega)
  have hm : ps[i]'(by omega) < es.size := List.mem_range.mp (hp.mem_iff.mp (List.getElem_mem _))
  generalize ps[i]'(by omega) = pl at e0 hm
  have e1 : es[pl]? = some es[pl] := Array.getElem?_eq_getElem hm
  generalize es[pl] = y at e1
  obtain ⟨hv, x⟩ := y
  refine next_drawn (pl := pl) h1 h3 h2 rfl (by simp [e0, rawInt]) e1 fun h' i' sb => ?_
  obtain ⟨o, k0, h3, h4⟩ := h3
  refine hQ x h' s.toks ?_ ⟨i', h2.keep fun o e => sb.extBut a o hne e, o, k0, sb.extBut T0 o hnT h3, h4⟩ fun b o hb e => sb.extBut b o (fun z => hb (by simp [z])) e
  have all : ∀ (l : List Nat), (∀ p ∈ l, p < es.size) → (l.filterMap fun p => (es[p]?).map (·.2)) = l.map fun p => (es.getD p (0, .none)).2 := fun l => by
   induction l with
   | nil => intro _; rfl
   | cons p l ih =>
    intro h
    have hp := h p List.mem_cons_self
    rw [List.filterMap_cons, Array.getElem?_eq_getElem hp, Option.map_some, List.map_cons, ih fun q hq => h q (List.mem_cons_of_mem _ hq)]
    dsimp only
    rw [Array.getD_eq_getD_getElem?, Array.getElem?_eq_getElem hp]
    rfl
  rw [all ps fun p hm => List.mem_range.mp (hp.mem_iff.mp hm), List.getElem?_map, e0, Option.map_some, Array.getD_eq_getD_getElem?, e1]
  rfl
 done := fun s Q E st hQ => by
  obtain ⟨h1, h2, h3⟩ := st
  have hl : ps.length = es.size := by rw [hp.length_eq, List.length_range]
  refine end_drawn hh h1 h3 h2 rfl (by rw [Array.getElem?_eq_none (by simp [hl])]) fun h' k => hQ h' s.toks fun b o hb e => k b o (fun z => hb (by simp [z])) e
 self := fun _ _ _ _ st hQ => self_si st.1 hQ
theorem set_iter (hz : es.size ≤ sizeLine) (hS : SAt s.heap a es ep t) (W : Wk t (!w.params.followText "set-order")) {Q : Value → Shared → Prop}
  (q : ∀ (I : Addr) (fp : List Addr) (h' : Heap) (dr : Drawn) (L : List Value) (St : Nat → Heap → Prop), s.heap.objs.size ≤ I → (∀ b ∈ fp, b = a ∨ s.heap.objs.size ≤ b) → (∀ b o, s.heap.get? b = some o → h'.get? b = some o) → List.Perm L (vals es) →
   (∀ A' : Around, A'.handled = none → Walks prog w A' I fp [I] es.size (fun i v => L[i]? = some v) St) → St 0 h' → Q (.ref I) { s with heap := h', drawn := dr }) :
  wpAny (model prog w) A (pyIter (.ref a)) Q E s := by
 have ha : a < s.heap.objs.size := let ⟨o, e, _⟩ := hS; Heap.lt_size e
 refine wpAny_pyIter_slot hS.typeIs F.slot_set_iter (wpAny_call_entry F.slot_set_iter hS.typeIs entry_set_iter ?_ (F.args_set_iter_1 _))
 unfold Builtin.«frozenset.__iter__»
 show wpAny _ _ (pure a >>= _) _ _ s
 refine wpAny_bind (wpAny_pure ?_)
 refine wpAny_bind ?_
 unfold Builtin.Frozenset.sizeOf
 refine wpAny_bind (hS.entries (wpAny_pure ?_))
 refine wpAny_bind ?_
 unfold setDrawn
 refine wpAny_bind (hS.state ?_)
 dsimp only
 refine wpAny_bind (byText (wpAny_pure ?_))
 show wpAny _ _ (if (!w.params.followText "set-order" && (!t.plain && decide (es.size > 1))) = true then _ else _) _ _ s
 by_cases hdr : (!w.params.followText "set-order" && (!t.plain && decide (es.size > 1))) = true
 ·rw [if_pos hdr]
  refine wpAny_bind (draw_perm _ _ (by rw [List.length_range]; exact Nat.le_refl _) fun ps dr hp => ?_)
  have hl : ps.length = es.size := by rw [hp.length_eq, List.length_range]
  unfold newTuple
  refine wpAny_bind (wpAny_newObj_type ?_ (by show (List.map (fun (i : Nat) => rawInt i) ps).toArray.size ≤ sizeLine; rw [List.size_toArray, List.length_map, hl]; exact hz))
  have h1 : (s.heap.push { cls := .type "tuple", data := .seq (List.map (fun (i : Nat) => rawInt i) ps).toArray }).get? s.heap.objs.size = some { cls := .type "tuple", data := .seq (List.map (fun (i : Nat) => rawInt i) ps).toArray } := Heap.get?_push_size _ rfl
  have hk1 : ∀ b o, s.heap.get? b = some o → (s.heap.push { cls := .type "tuple", data := .seq (List.map (fun (i : Nat) => rawInt i) ps).toArray }).get? b = some o := fun b o e => Heap.get?_push_of_some _ e
  have hz1 : (s.heap.push { cls := .type "tuple", data := .seq (List.map (fun (i : Nat) => rawInt i) ps).toArray }).objs.size = s.heap.objs.size + 1 := Heap.size_push ..
  generalize s.heap.push { cls := .type "tuple", data := .seq (List.map (fun (i : Nat) => rawInt i) ps).toArray } = g1 at h1 hk1 hz1 ⊢
  have hS1 : SAt g1 a es ep t := hS.keep fun o e => hk1 a o e
  refine wpAny_bind (SAt.epoch (s := { s with heap := g1, drawn := dr }) hS1 ?_)
  refine wpAny_bind ?_
  unfold newFields
  refine wpAny_newObj_type (wpAny_pure ⟨_, rfl, "set_iterator", _, ⟨_, Heap.get?_push_size _ rfl, rfl⟩, slot_si_next.lookup, ?_⟩) (by size_fits)
  refine q g1.objs.size [g1.objs.size, a, s.heap.objs.size] _ dr _ (fun i h => IsSIt h g1.objs.size (.ref s.heap.objs.size) i a es.size ep ∧ SAt h a es ep t ∧ ∃ o k, h.get? s.heap.objs.size = some o ∧ o.data = .seq (ps.map fun (p : Nat) => rawInt p).toArray k) (by omega) (fun b hb => ?_) (fun b o e => Heap.get?_push_of_some _ (hk1 b o e)) ?_
   (fun A' hh => walk_drawn hh hp (Nat.ne_of_lt (by rw [hz1]; exact Nat.lt_succ_of_lt ha)) (Nat.ne_of_lt (by rw [hz1]; exact Nat.lt_succ_self _))) ⟨⟨_, Heap.get?_push_size _ rfl, rfl, rfl⟩, hS1.keep fun o e => Heap.get?_push_of_some _ e, _, _, Heap.get?_push_of_some _ h1, rfl⟩
  ·simp only [List.mem_cons, List.not_mem_nil, or_false] at hb
   rcases hb with rfl | rfl | rfl
   ·right; omega
   ·left; rfl
   ·right; omega
  ·refine (hp.filterMap _).trans ?_
   have e : ((List.range es.size).filterMap fun p => (es[p]?).map (·.2)) = vals es := by
    unfold vals
    rw [← filterMap_getElem?_range es, List.map_filterMap]
   rw [e]
 ·rw [if_neg hdr]
  refine wpAny_bind (wpAny_pure ?_)
  refine wpAny_bind (hS.epoch ?_)
  refine wpAny_bind ?_
  unfold newFields
  refine wpAny_newObj_type (wpAny_pure ⟨_, rfl, "set_iterator", _, ⟨_, Heap.get?_push_size _ rfl, rfl⟩, slot_si_next.lookup, ?_⟩) (by size_fits)
  have fpok : ∀ b ∈ [s.heap.objs.size, a], b = a ∨ s.heap.objs.size ≤ b := fun b hb => by
   simp only [List.mem_cons, List.not_mem_nil, or_false] at hb
   rcases hb with rfl | rfl
   ·right; omega
   ·left; rfl
  cases ht : w.params.followText "set-order" with
  | true =>
   refine q s.heap.objs.size [s.heap.objs.size, a] _ s.drawn _ (fun i h => IsSIt h s.heap.objs.size (.int 0 0) i a es.size ep ∧ SAt h a es ep t) (Nat.le_refl _) fpok (fun b o e => Heap.get?_push_of_some _ e) ?_
    (fun A' hh => walk_text hh ht (Nat.ne_of_lt ha)) ⟨⟨_, Heap.get?_push_size _ rfl, rfl, rfl⟩, hS.keep fun o e => Heap.get?_push_of_some _ e⟩
   exact (pickOrder_perm _ es).map _
  | false =>
   rw [ht] at W hdr
   refine q s.heap.objs.size [s.heap.objs.size, a] _ s.drawn _ (fun i h => ∃ slot : Nat, ((i = 0 ∧ slot = 0) ∨ (∃ j x, i = j + 1 ∧ t.place[j]? = some x ∧ slot = x + 1)) ∧ IsSIt h s.heap.objs.size (.int slot 0) i a es.size ep ∧ SAt h a es ep t) (Nat.le_refl _) fpok (fun b o e => Heap.get?_push_of_some _ e) (List.Perm.refl _)
    (fun A' hh => walk_table hh ht ?_ W (Nat.ne_of_lt ha)) ⟨0, .inl ⟨rfl, rfl⟩, ⟨_, Heap.get?_push_size _ rfl, rfl, rfl⟩, hS.keep fun o e => Heap.get?_push_of_some _ e⟩
   cases hp : t.plain with
   | true => exact .inl rfl
   | false =>
    rw [hp] at hdr
    right
    by_cases h1 : es.size > 1
    ·exfalso
     apply hdr
     simp [h1]
    ·omega
end
end PyS
namespace PyS
open PySem PySem.W PyProof.Rows PySem.Calls PyProof.V PySem.Spec
section
variable {prog : Program} {w : World} {A : Around} {E : Value → Shared → Prop} {s : Shared} {a : Addr} {es : Array (Int × Value)} {ep : Nat} {t : SetTable}
theorem hint_set {r : Addr} {Q : Bool → Shared → Prop} (hT : s.TypeIs (.ref r) "set") (h : Q false s) : wpAny (model prog w) A (Builtin.List.listLengthHint (.ref r)) Q E s := by
 unfold Builtin.List.listLengthHint
 refine wpAny_bind (wpAny_specialOf hT PySem.F.slot_set_len.lookup ?_)
 generalize hid : ("set.__len__" : String) = id0
 wp_delta
 rw [show splitId id0 = some ("set", "__len__") from by subst hid; decide +kernel]
 subst hid
 refine wpAny_bind (wpAny_isInstance (T := "set") (b := true) hT (by rw [isSubtype_type]; kernel_rfl) ?_)
 refine wpAny_ite_split (fun hab => absurd hab (by decide)) (fun _ => ?_)
 refine wpAny_ite_split (fun _ => ?_) (fun hab => absurd (by decide +kernel) hab)
 refine wpAny_bind (wpAny_typeOf hT ?_)
 exact wpAny_pure h
theorem items_eq {L : List Value} {acc : Array Value} {n : Nat} (hl : L.length = n) (h : ItemsOf (fun i v => L[i]? = some v) acc n) : acc.toList = L := by
 refine List.ext_getElem? fun i => ?_
 by_cases hi : i < n
 ·have e : acc[i]? = some (acc[i]'(by rw [h.1]; exact hi)) := Array.getElem?_eq_getElem _
  rw [Array.getElem?_toList, e]
  exact (h.2 i _ e).symm
 ·rw [List.getElem?_eq_none (by rw [Array.length_toList, h.1]; omega), List.getElem?_eq_none (by omega)]
structure Src (prog : Program) (w : World) (T : String) (a : Addr) (n : Nat) (Good : (Nat → Value → Prop) → Prop) (OK : Heap → Prop) : Prop where
 type : ∀ s : Shared, OK s.heap → s.TypeIs (.ref a) T
 keep : ∀ h h' : Heap, OK h → (∀ o, h.get? a = some o → h'.get? a = some o) → OK h'
 notList : (Value.type T == Value.type "list") = false
 notTuple : (Value.type T == Value.type "tuple") = false
 hint : ∀ (A : Around) (E : Value → Shared → Prop) (s : Shared) (Q : Bool → Shared → Prop), OK s.heap → Q false s → wpAny (model prog w) A (Builtin.List.listLengthHint (.ref a)) Q E s
 iter : ∀ (A : Around) (E : Value → Shared → Prop) (s : Shared) (Q : Value → Shared → Prop), OK s.heap →
  (∀ (I : Addr) (fp : List Addr) (h' : Heap) (dr : Drawn) (P : Nat → Value → Prop) (St : Nat → Heap → Prop), s.heap.objs.size ≤ I → (∀ b ∈ fp, b = a ∨ s.heap.objs.size ≤ b) → (∀ b o, s.heap.get? b = some o → h'.get? b = some o) → Good P →
   (∀ A' : Around, A'.handled = none → Walks prog w A' I fp [I] n P St) → St 0 h' → Q (.ref I) { s with heap := h', drawn := dr }) → wpAny (model prog w) A (pyIter (.ref a)) Q E s
section
variable {T : String} {n : Nat} {Good : (Nat → Value → Prop) → Prop} {OK : Heap → Prop}
theorem src_extend {R : Result → Shared → Prop} (C : Src prog w T a n Good OK) (hh : A.handled = none) (hz : n ≤ sizeLine) (hok : OK s.heap) (S : Addr) (hSa : S ≠ a) (res : Value) (c₀ : Nat) (hL : s.heap.get? S = some { cls := .type "list", data := .seq #[] c₀ })
  (hR : ∀ h' dr tk (acc' : Array Value) c' P, (∀ b o, b ≠ S → s.heap.get? b = some o → h'.get? b = some o) → h'.get? S = some { cls := .type "list", dict := none, data := .seq acc' c', slots := #[] } → Good P → ItemsOf P acc' n → R (.ok (.ret res)) { s with heap := h', drawn := dr, toks := tk }) :
  wpAny (model prog w) A.in1 (Builtin.List.listExtendWith (.ref S) (.ref a) res)
   (fun fin s' => match fin with | .done f => R (.ok f) s' | .again c' => c'.quiet = true ∧ codeAny (model prog w) A c' R s') (fun e s' => R (.error e) s') s := by
 have hlt : S < s.heap.objs.size := Heap.lt_size hL
 unfold Builtin.List.listExtendWith
 refine wpAny_bind (wpAny_typeOf (T := T) (C.type s hok) ?_)
 have h1 : Builtin.List.listSameRef (.ref S) (.ref a) = false := by simp [Builtin.List.listSameRef, hSa]
 simp only [h1, C.notList, C.notTuple, Bool.or_false, Bool.false_eq_true, if_false]
 refine wpAny_bind (C.iter _ _ _ _ hok fun I fp h' dr P St hI hfp hk hp Wk' st => ?_)
 have hSf : S ∉ fp := fun z => by
  rcases hfp S z with e | e
  ·exact hSa e
  ·exact absurd hlt (Nat.not_lt.mpr e)
 have key : ∀ (h : Heap) (c₁ tk : Nat), St 0 h → (∀ b o, b ≠ S → s.heap.get? b = some o → h.get? b = some o) →
   h.get? S = some { cls := .type "list", data := .seq #[] c₁ } → codeAny (model prog w) A (.builtin "list.extend.loop" ⟨[.ref S, .ref I, res], []⟩) R { s with heap := h, drawn := dr, toks := tk } := by
  intro h c₁ tk hst hk hS₁
  refine codeAny_extend_loopS (Wk' A.in1 hh).toS hz S hSf res n 0 _ #[] c₁ rfl (Nat.zero_le _) hst hS₁ (ItemsOf.nil _) fun s' acc' c' hm hS' hacc => ?_
  rw [Moved.eq_with hm]
  refine hR s'.heap dr s'.toks acc' c' P (fun b o hb e => hm.heap b o (fun hmem => ?_) (hk b o hb e)) hS' hp hacc
  rcases List.mem_cons.mp hmem with e' | hmem
  ·exact hb e'
  ·exact absurd (Heap.lt_size e) (by rw [List.mem_singleton.mp hmem]; exact Nat.not_lt.mpr hI)
 have hS₁ := hk S _ hL
 refine wpAny_bind (wpAny_holding (C.hint _ _ { s with heap := h', drawn := dr } _ (C.keep _ _ hok fun o e => hk a o e) ?_))
 refine wpAny_ite_split (fun _ => ?_) (fun _ => wpAny_pure ⟨plainId_quiet PySem.F.plain_extend_loop _, key _ c₀ _ st (fun b o _ e => hk b o e) hS₁⟩)
 refine wpAny_bind (wpAny_rule ?_)
 refine wpAny_bind ?_
 show wpAny _ _ (updateSeq S (·.push .none) >>= fun _ => updateSeq S (·.pop)) _ _ _
 refine wpAny_bind (wpAny_updateSeq hS₁ rfl ?_)
 have hS₂ := Heap.get?_update_self (Obj.mapSeq (·.push Value.none)) hS₁ rfl
 refine wpAny_updateSeq (hz := by seq_fits) hS₂ rfl ?_
 have hS₃ := Heap.get?_update_self (Obj.mapSeq (·.pop)) hS₂ rfl
 refine wpAny_pure ⟨plainId_quiet PySem.F.plain_extend_loop _, key _ _ _ ?_ (fun b o hb e => ?_) hS₃⟩
 ·refine (Wk' A.in1 hh).frame 0 _ _ st fun b hb o e => ?_
  have hbS : b ≠ S := fun h => hSf (h ▸ hb)
  exact (Heap.get?_update_other _ _ (Ne.symm hbS)).trans ((Heap.get?_update_other _ _ (Ne.symm hbS)).trans e)
 ·exact (Heap.get?_update_other _ _ (Ne.symm hb)).trans ((Heap.get?_update_other _ _ (Ne.symm hb)).trans (hk b o e))
theorem src_collect {R : List Value → Shared → Prop} (C : Src prog w T a n Good OK) (hh : A.handled = none) (hz : n ≤ sizeLine) (hok : OK s.heap)
  (h : ∀ (h' : Heap) (dr : Drawn) (tk : Nat) (acc : Array Value) (P : Nat → Value → Prop), s.heap.objs.size < h'.objs.size → (∀ b o, s.heap.get? b = some o → h'.get? b = some o) → Good P → ItemsOf P acc n → R acc.toList { s with heap := h', drawn := dr, toks := tk }) :
  wpAny (model prog w) A (collect (.ref a)) R E s := by
 have ha : a < s.heap.objs.size := let ⟨o, e, _⟩ := C.type s hok; Heap.lt_size e
 unfold collect
 refine wpAny_bind (wpAny_runValue (codeAny_builtin entry_proto_collect' ?_))
 rw [Around.under_plainId PySem.F.plain_proto_collect _]
 show wpAny _ A.in1 (newList [] >>= fun l => again (.builtin "list.__iadd__" ⟨[l, .ref a], []⟩)) _ _ s
 refine wpAny_bind (wpAny_newObj_type ?_)
 refine wpAny_pure ⟨plainId_quiet PySem.F.plain_list_iadd _, codeAny_builtin entry_list_iadd' ?_⟩
 rw [Around.under_plainId PySem.F.plain_list_iadd _]
 have hS₁ : (s.heap.push { cls := .type "list", data := .seq ([] : List Value).toArray }).get? s.heap.objs.size = some { cls := .type "list", data := .seq #[] } := Heap.get?_push_size _ rfl
 show wpAny _ A.in1 (Builtin.List.listExtendWith (.ref s.heap.objs.size) (.ref a) (.ref s.heap.objs.size)) _ _ _
 have key := src_extend (prog := prog) (w := w) (A := A) (s := { s with heap := s.heap.push { cls := .type "list", data := .seq ([] : List Value).toArray } })
  (R := fun (q : Result) (s' : Shared) => ∃ (h' : Heap) (dr : Drawn) (tk : Nat) (acc' : Array Value) (c' : Nat) (P : Nat → Value → Prop), q = .ok (.ret (.ref s.heap.objs.size)) ∧ s' = { s with heap := h', drawn := dr, toks := tk } ∧
   (∀ b o, s.heap.get? b = some o → h'.get? b = some o) ∧ h'.get? s.heap.objs.size = some { cls := .type "list", dict := none, data := .seq acc' c', slots := #[] } ∧ Good P ∧ ItemsOf P acc' n)
  C hh hz (C.keep _ _ hok fun o e => Heap.get?_push_of_some _ e) s.heap.objs.size (Nat.ne_of_gt ha) (.ref s.heap.objs.size) 0 hS₁
  (fun h' dr tk acc' c' P hk hS' hg hacc => ⟨h', dr, tk, acc', c', P, rfl, rfl, fun b o e => hk b o (Nat.ne_of_lt (Heap.lt_size e)) (Heap.get?_push_of_some _ e), hS', hg, hacc⟩)
 refine wpAny_mono key (fun fin s' x => ?_) fun e s' x => ?_
 ·cases fin with
  | done f =>
   obtain ⟨h', dr, tk, acc', c', P, e, rfl, hk, hS', hg, hacc⟩ := x
   cases e
   show wpAny _ A (load s.heap.objs.size >>= _) _ _ _
   refine wpAny_bind (wpAny_load hS' ?_)
   exact wpAny_pure (h h' dr tk acc' P (Heap.lt_size hS') hk hg hacc)
  | again c₁ =>
   refine ⟨x.1, codeAny_mono x.2 fun q s₂ y => ?_⟩
   obtain ⟨h', dr, tk, acc', c', P, rfl, rfl, hk, hS', hg, hacc⟩ := y
   show wpAny _ A (load s.heap.objs.size >>= _) _ _ _
   refine wpAny_bind (wpAny_load hS' ?_)
   exact wpAny_pure (h h' dr tk acc' P (Heap.lt_size hS') hk hg hacc)
 ·obtain ⟨_, _, _, _, _, _, e', _⟩ := x
  cases e'
def numV : Value → Int
 | .int k _ => k
 | _ => 0
theorem ia_of : ∀ {l : List Value}, (∀ v ∈ l, ∃ k t, v = .int k t) → IntsAre l (l.map numV)
 | [], _ => .nil
 | v :: l, h => by
  obtain ⟨k, t, rfl⟩ := h v List.mem_cons_self
  exact .cons k t (ia_of fun u hu => h u (List.mem_cons_of_mem _ hu))
theorem src_sorted {Q : Value → Shared → Prop} (C : Src prog w T a n Good OK) (hh : A.handled = none) (h64 : n < 64) (hok : OK s.heap) {ns : List Int} (hi : ∀ P acc, Good P → ItemsOf P acc n → IntsAre acc.toList (acc.toList.map numV) ∧ List.Perm (acc.toList.map numV) ns)
    (q : ∀ (D : Addr) (h' : Heap) (dr : Drawn) (tk : Nat) (out : List Value) (ns' : List Int) (c : Nat), s.heap.objs.size ≤ D → (∀ b o, s.heap.get? b = some o → h'.get? b = some o) → h'.get? D = some (seqObj "list" out.toArray c) → IntsAre out ns' → List.Perm ns' ns → ns'.Pairwise (· ≤ ·) → Q (.ref D) { s with heap := h', drawn := dr, toks := tk }) :
    wpAny (model prog w) A (call (.builtin "sorted") [.ref a]) Q E s := by
  have hz : n ≤ sizeLine := by have : (16777216 : Nat) = sizeLine := by decide
                               omega
  refine call_function_entry kind_sorted plain_sorted entry_sorted (args_sorted1 _) ?_
  unfold Builtin.«sorted»
  refine wpAny_bind (m := checkCount "sorted" 1 1 _) (wpAny_pure ?_)
  refine wpAny_bind (src_collect (A := A.in1) C hh hz hok fun h' dr tk acc P hgt hk hg hacc => ?_)
  obtain ⟨i1, i2⟩ := hi P acc hg hacc
  have hl : acc.toList.length = n := by rw [Array.length_toList]; exact hacc.1
  generalize acc.toList = vs at i1 i2 hl ⊢
  refine wpAny_bind (wpAny_newList ?_ (by rw [hl]; exact hz))
  have ho : (h'.push { cls := .type "list", data := .seq vs.toArray }).get? h'.objs.size = some (seqObj "list" vs.toArray 0) := Heap.get?_push_size _ rfl
  have hkk : ∀ b o, s.heap.get? b = some o → (h'.push { cls := .type "list", data := .seq vs.toArray }).get? b = some o := fun b o e => Heap.get?_push_of_some _ (hk b o e)
  refine wpAny_bind (wpAny_holding ?_)
  refine wpAny_call_entry slot_list_sort ⟨_, ho, rfl⟩ entry_list_sort (list_sort_tree (n := 0) (vs := vs) ho i1 (by omega) fun out ns' hI hpp hP => ⟨.none, rfl, ?_⟩) (args_list_sort _)
  refine wpAny_pure ⟨_, rfl, ?_⟩
  have o1 := get?_update_seq ho (fun _ => (#[] : Array Value))
  have o2 := Heap.get?_push_of_some (seqObj "tuple" vs.toArray 0) o1
  have o3 := Heap.get?_push_of_some (seqObj "list" #[] 0) o2
  have o4 := get?_update_seq o3 (fun _ => out)
  refine q h'.objs.size _ dr tk out.toList ns' _ (Nat.le_of_lt hgt) (fun b o e => ?_) (by rw [Array.toArray_toList]; exact o4) hI (hpp.trans i2) hP
  have hb : b ≠ h'.objs.size := Nat.ne_of_lt (Nat.lt_trans (Heap.lt_size e) hgt)
  unfold sortedHeap
  rw [Heap.get?_update_other _ _ (Ne.symm hb)]
  refine Heap.get?_push_of_some _ (Heap.get?_push_of_some _ ?_)
  rw [Heap.get?_update_other _ _ (Ne.symm hb)]
  exact hkk b o e
end
theorem src_set (hz : es.size ≤ sizeLine) (W : Wk t (!w.params.followText "set-order")) : Src prog w "set" a es.size (fun P => ∃ L : List Value, List.Perm L (vals es) ∧ P = fun i v => L[i]? = some v) (fun h => SAt h a es ep t) where
 type := fun s h => SAt.typeIs h
 keep := fun h h' S k => S.keep k
 notList := by decide
 notTuple := by decide
 hint := fun A E s Q S q => hint_set (SAt.typeIs S) q
 iter := fun A E s Q S q => set_iter hz S W fun I fp h' dr L St hI hfp hk hp Wk' st => q I fp h' dr _ St hI hfp hk ⟨L, hp, rfl⟩ Wk' st
section
variable {K : Type} [DecidableEq K] {knd : PySem.KeyKind prog w K} {kvs : List (K × Value)}
theorem src_dict (lo : (a == sysModules) = false) : Src prog w "dict" a kvs.length (fun P => P = fun i v => ∃ k x, kvs[i]? = some (k, x) ∧ knd.is k v = true) (fun h => h.DictAt knd a kvs ep) where
 type := fun _ hm => hm.dictOf.typeIs
 keep := fun _ _ hm hk => hm.at' hk
 notList := by decide
 notTuple := by decide
 hint := fun _ _ _ _ hm hq => kdl_hint_dict hm.dictOf.typeIs hq
 iter := fun A E s Q hm q => by
  refine wpAny_pyIter_dict lo hm ?_
  refine q s.heap.objs.size [s.heap.objs.size, a] _ s.drawn _ (fun i h => h.IsKeyIter s.heap.objs.size a i kvs.length ep ∧ h.DictAt knd a kvs ep) (Nat.le_refl _) (fun b hb => ?_) (fun b o e => Heap.get?_push_of_some _ e) rfl
   (fun A' hh => Walks.dictKeys hh _ a (Nat.ne_of_lt hm.lt_size) kvs ep) ⟨⟨_, Heap.get?_push_size _ rfl, rfl, rfl⟩, hm.push _⟩
  simp only [List.mem_cons, List.not_mem_nil, or_false] at hb
  rcases hb with rfl | rfl
  ·right; exact Nat.le_refl _
  ·left; rfl
end
end
section
variable {prog : Program} {w : World} {A : Around} {E : Value → Shared → Prop} {s : Shared} {a : Addr}
theorem stored {h : Heap} {es es' : Array (Int × Value)} {ep : Nat} {t t' : SetTable} (S : SAt h a es ep t) (hf : t'.fits es'.size = true) : SAt (h.update a (Obj.putSet es' t')) a es' (ep + 1) t' := by
 obtain ⟨o, e, x, d, _⟩ := S
 have hg := Heap.get?_update_self (Obj.putSet es' t') e (by rw [putSet_of es' t' d]; rfl)
 rw [putSet_of es' t' d] at hg
 exact ⟨_, hg, x, rfl, hf⟩
theorem store_ok {es es' : Array (Int × Value)} {ep : Nat} {t t' : SetTable} {Q : Unit → Shared → Prop} (S : SAt s.heap a es ep t) (hz : es'.size ≤ sizeLine) (q : Q () { s with heap := s.heap.update a (Obj.putSet es' t') }) : wpAny (model prog w) A (storeSet a es' t') Q E s := by
 obtain ⟨o, e, x, d, _⟩ := S
 exact wpAny_storeSet_of e d q hz
end
section
variable {prog : Program} {w : World} {A : Around} {R : Result → Shared → Prop} {I : Addr} {fp wr : List Addr} {G : Array GenState → Array GenState → Prop} {n : Nat} {P : Nat → Value → Prop} {St : Nat → Shared → Prop}
end
section
variable {prog : Program} {w : World} {A : Around} {E : Value → Shared → Prop} {s : Shared}
theorem set_new (a : Value) {Q₁ : Value → Shared → Prop}
  (h : Q₁ (.ref s.heap.objs.size) { s with heap := s.heap.push { cls := .type "set", dict := none, data := .set #[] 0 (.fresh 0 0 (!w.params.followText "set-order")) } }) :
  codeAny (model prog w) A (.call (.builtin "set.__new__") ⟨[.type "set", a], []⟩) (wants Q₁ E) s := by
 refine codeAny_of_tree ?_
 show wpAny _ A.in1 (do checkBuiltinCall "set.__new__" ⟨[.type "set", a], []⟩; again (.builtin "set.__new__" ⟨[.type "set", a], []⟩)) _ _ s
 refine wpAny_bind (wpAny_of_eq (PySem.F.newCall_set_1 a) (wpAny_pure ⟨plainId_quiet PySem.F.plain_set_new _, codeAny_builtin PySem.F.entry_set_new ?_⟩))
 rw [Around.under_plainId PySem.F.plain_set_new _]
 unfold Builtin.«set.__new__» Builtin.Frozenset.newClass
 have hsub := sub_set_self
 obtain ⟨hp, g, d, tk, os⟩ := s
 dsimp only
 wp_walk
 refine wpAny_askSetting (wpAny_pure ?_)
 dsimp only
 simp only [newObj]
 refine wpAny_bind (wpAny_alloc (wpAny_pure ?_))
 exact wpAny_pure h
end
end PyS
namespace L2
open PySem PySem.Spec PyProof.Rows
theorem vals_ia : ∀ {out : List Value} {ns : List Int}, IntsAre out ns → Vals (ns.map V.int) out
 | _, _, .nil => .nil
 | _, _, .cons n t r => .cons ⟨t, rfl⟩ (vals_ia r)
section
variable {X : Cx} {pins : List (Addr × Obj)} {σ : L2.St} {H : Hp} {s : Shared}
theorem Inv.drawn (I : Inv X pins σ H s) (d : Drawn) : Inv X pins σ H { s with drawn := d } := ⟨I.ok, I.os, I.bare, I.base, I.loc, I.cell, I.free, I.freeC, I.pin, I.hok, I.len⟩
end
section
variable {X : Cx} {pins : List (Addr × Obj)} {σ : L2.St} {H : Hp} {s : Shared}
theorem call_sortD (hc : X.calm = true) : CallR X (.builtin "sorted") (fun xs H Q => ∃ (a : Addr) (kvs : List (Key × V)) (ks : List Int), xs = [.ref a] ∧ H a = some (.dK kvs) ∧ kvs.map (·.1) = ks.map Sum.inl ∧ ks.length < 64 ∧ ∀ l ns, H l = none → List.Perm ns ks → ns.Pairwise (· ≤ ·) → Q (.ref l) (upd H l (.lst (ns.map V.int)))) := by
 intro pins s σ H xs us Q I r h
 obtain ⟨a, kvs, ks, rfl, ha, hk, h64, q⟩ := h
 obtain ⟨u, rfl, ru⟩ := vals1 r
 cases ru
 obtain ⟨z, lo, vs, kv, hD⟩ := dk_of I.hok ha
 obtain ⟨ep, hat⟩ := hD.dictAt
 have hl : vs.length = ks.length := by rw [← kv.length, ← List.length_map (f := fun p : Key × V => p.1), hk, List.length_map]
 have hvk : vs.map (·.1) = ks.map Sum.inl := by rw [← kv.keys]; exact hk
 refine PyS.src_sorted (PyS.src_dict (knd := mixKind X.prog X.w) (kvs := vs) (ep := ep) lo) (I.ok.hd hc) (by omega) hat (ns := ks) (fun P acc hg hacc => ?_) fun D h' dr tk out ns' c hD' kp hD2 hi hpp hP => ?_
 ·subst hg
  have key : ∀ i v, acc.toList[i]? = some v → ∃ t, v = .int (ks.getD i 0) t ∧ i < ks.length := fun i v e => by
   rw [Array.getElem?_toList] at e
   obtain ⟨k, x, e1, e2⟩ := hacc.2 i v e
   have e3 : (vs.map (·.1))[i]? = some k := by rw [List.getElem?_map, e1]; rfl
   rw [hvk, List.getElem?_map] at e3
   cases hki : ks[i]? with
   | none => rw [hki] at e3; cases e3
   | some j =>
    rw [hki] at e3
    cases e3
    obtain ⟨t, et⟩ := Value.isInt_shape (show Value.isInt j v = true from e2)
    exact ⟨t, by rw [et, List.getD_eq_getElem?_getD, hki]; rfl, (List.getElem?_eq_some_iff.mp hki).1⟩
  have e : acc.toList.map PyS.numV = ks := by
   refine List.ext_getElem? fun i => ?_
   rw [List.getElem?_map]
   by_cases hi : i < ks.length
   ·have hs : i < acc.toList.length := by rw [Array.length_toList, hacc.1]; omega
    obtain ⟨t, e1, _⟩ := key i _ (List.getElem?_eq_getElem hs)
    rw [List.getElem?_eq_getElem hs, e1, Option.map_some, List.getElem?_eq_getElem hi, List.getD_eq_getElem?_getD, List.getElem?_eq_getElem hi]
    rfl
   ·rw [List.getElem?_eq_none (by rw [Array.length_toList, hacc.1]; omega), List.getElem?_eq_none (by omega)]
    rfl
  refine ⟨PyS.ia_of fun v hv => ?_, by rw [e]⟩
  obtain ⟨i, hi⟩ := List.getElem?_of_mem hv
  obtain ⟨t, e1, _⟩ := key i v hi
  exact ⟨_, t, e1⟩
 ·have hl2 : Vals (ns'.map V.int) out := vals_ia hi
  have sz : (16777216 : Nat) = sizeLine := by decide
  have hll : ns'.length = ks.length := hpp.length_eq
  exact ⟨.ref D, _, (I.laid (a := D) (o := .lst (ns'.map V.int)) (t' := tk) kp hD' ⟨by rw [List.length_map]; omega, out, c, hl2, hD2⟩).drawn dr, rfl, q _ ns' (I.hok.fresh hD') hpp hP⟩
end
end L2
namespace C28
open PySem L2 PySem.Spec PyProof.Rows
def top (i : Nat) : Stmt := PySem.Challenge.pw_classtab_k28_deeds_on_sides.main.body.getD i (.Pass ⟨0, 0, 0, 0⟩)
abbrev sTape : Stmt := top 15
abbrev sPick : Stmt := top 16
structure BlB (mg : Str → Option Value) : Prop where
 list : mg "list" = none
 len : mg "len" = none
 range : mg "range" = none
 tuple : mg "tuple" = none
 max : mg "max" = none
 sorted : mg "sorted" = none
def tpK (c l n : Int) : List (Key × V) := [(.inr "cell", .int c), (.inr "left", .int l), (.inr "turn", .int n)]
def Tape (H : Hp) (p : Addr) (b : Nat) : Prop := ∃ c l n : Int, H p = some (.dK (tpK c l n)) ∧ 0 ≤ l ∧ 0 ≤ n ∧ n ≤ b
theorem Tape.mono {H H' : Hp} {p : Addr} {b : Nat} (s : Same H H') (h : Tape H p b) : Tape H' p b := by
 obtain ⟨c, l, n, h1, h2⟩ := h
 exact ⟨c, l, n, s _ _ h1, h2⟩
theorem Tape.le {H : Hp} {p : Addr} {b b' : Nat} (h : Tape H p b) (hb : b ≤ b') : Tape H p b' := by
 obtain ⟨c, l, n, h1, h2, h3, h4⟩ := h
 exact ⟨c, l, n, h1, h2, h3, by omega⟩
theorem g_cell {H : Hp} {p : Addr} {c l n : Int} (h : H p = some (.dK (tpK c l n))) : DGet H p (.str "cell") (some (.int c)) := DGet.k (k := .inr "cell") h
theorem g_left {H : Hp} {p : Addr} {c l n : Int} (h : H p = some (.dK (tpK c l n))) : DGet H p (.str "left") (some (.int l)) := DGet.k (k := .inr "left") h
theorem g_turn {H : Hp} {p : Addr} {c l n : Int} (h : H p = some (.dK (tpK c l n))) : DGet H p (.str "turn") (some (.int n)) := DGet.k (k := .inr "turn") h
theorem p_left {H : Hp} {p : Addr} {c l n l' : Int} (h : H p = some (.dK (tpK c l n))) : DPut H p (.str "left") (.int l') (upd H p (.dK (tpK c l' n))) := DPut.k (k := .inr "left") h (by rw [sizeLine_eq]; show 3 < _; omega)
theorem p_turn {H : Hp} {p : Addr} {c l n n' : Int} (h : H p = some (.dK (tpK c l n))) : DPut H p (.str "turn") (.int n') (upd H p (.dK (tpK c l n'))) := DPut.k (k := .inr "turn") h (by rw [sizeLine_eq]; show 3 < _; omega)
theorem _root_.L2.Same.upd2 {H : Hp} {p : Addr} {o o' : HO} (h : H p = none) : Same H (upd (upd H p o) p o') := fun b u e => by
 have hb : b ≠ p := fun z => by rw [z, h] at e; cases e
 rw [upd_ne hb, upd_ne hb]
 exact e
def Tk (p : Addr) (H H' : Hp) : Prop := ∀ b o, H b = some o → b ≠ p → H' b = some o
theorem Tk.of {p : Addr} {H H' : Hp} (s : Same H H') : Tk p H H' := fun b o e _ => s b o e
theorem Tk.trans {p : Addr} {H H1 H2 : Hp} (a : Tk p H H1) (b : Tk p H1 H2) : Tk p H H2 := fun c o e n => b c o (a c o e n) n
theorem Tape.ne {H : Hp} {p a : Addr} {b : Nat} {o : HO} (h : Tape H p b) (e : H a = some o) (hd : ∀ kvs, o ≠ .dK kvs) : a ≠ p := fun z => by
 obtain ⟨c, l, n, h1, _⟩ := h
 rw [z, h1] at e
 exact hd _ (Option.some.inj e).symm
theorem Tape.neN {H : Hp} {p a : Addr} {b : Nat} (h : Tape H p b) (e : H a = none) : a ≠ p := fun z => by
 obtain ⟨c, l, n, h1, _⟩ := h
 rw [z, h1] at e
 cases e
theorem Tk.tup {p a : Addr} {H H' : Hp} {b : Nat} {xs : List V} (d : Tk p H H') (T : Tape H p b) (h : H a = some (.tup xs)) : H' a = some (.tup xs) := d a _ h (T.ne h fun _ z => by cases z)
theorem Tk.lst {p a : Addr} {H H' : Hp} {b : Nat} {xs : List V} (d : Tk p H H') (T : Tape H p b) (h : H a = some (.lst xs)) : H' a = some (.lst xs) := d a _ h (T.ne h fun _ z => by cases z)
def spTape (K : PySem.W.Frag) : Sp := fun vs H Q _ => ∃ (a : Addr) (ns : List Int) (i : Nat), vs = [.ref a, .int i] ∧ SqL K H a (ns.map V.int) ∧ ns.length ≤ 63 ∧ ∀ p H', Same H H' → H p = none → Tape H' p 0 → Q (.ref p) H'
def spPick : Sp := fun vs H Q _ => ∃ (p : Addr) (m : Int) (b : Nat), vs = [.ref p, .int m] ∧ Tape H p b ∧ b < 2 ^ 60 ∧ 0 < m ∧ m < 1073741824 ∧ ∀ r H', 0 ≤ r → r < m → Tk p H H' → Tape H' p (b + 1) → Q (.int r) H'
section
variable {P : Program} {w : World} {K : PySem.W.Frag} {mg : Str → Option Value} {base : Heap}
theorem scTape : FnScope ["_law_script", "_law_at", "_law_cell"] ["_law_script", "_law_at"] (defScope sTape) := FS
theorem scPick : FnScope ["_law_tape_here", "_law_many", "_law_turn", "_law_found", "_law_stirred"] ["_law_tape_here", "_law_many"] (defScope sPick) := FS
theorem ok_pick {f : Addr} {fd : FuncData} (F : Fun K "_law_pick" "_law_pick" sPick f fd) : FnOk P w K mg base CX0 1 f fd ["_law_tape_here", "_law_many"] spPick := by
 refine F.ok scPick (fun vs H Q E h => ?_) (fun cdv A outer s H vs Q E hr h => ?_)
 ·obtain ⟨p, m, b, rfl, _⟩ := h; rfl
 ·obtain ⟨p, m, b, rfl, ⟨c, l, n, h1, l0, n0, nb⟩, hb, m0, m1, q⟩ := h
  have hu : (A.deeper (envOfC "_law_pick" (defScope sPick) s.heap.objs.size f cdv)).units + 1 < cLine := by have := hr.un; omega
  refine ⟨_, pss_cons (sset 2 rfl (pe_op op_add (pe_dget hu (vn 0) pe_str (fun _ _ => rfl)) pe_int))
   (pss_cons (ps_dput hu (vn 0) pe_str (vn 2) (by rfl))
   (pss_cons (ps_if (pt_cmpR op_gt (pe_dget hu (vn 0) pe_str (fun _ _ => rfl)) pe_int (nomark _))
    (pss_cons (sset 3 rfl (pe_op op_mod (pe_dget hu (vn 0) pe_str (fun _ _ => rfl)) (vn 1)))
    (pss_cons (ps_dput hu (vn 0) pe_str (pe_op op_fdiv (pe_dget hu (vn 0) pe_str (fun _ _ => rfl)) (vn 1)) (by rfl))
    (pss_one (ps_ret (vn 3))))) pss_nil)
   (pss_cons (sset 4 rfl (pe_op op_mul (pe_op op_add (pe_op op_add (pe_op op_mod (pe_dget hu (vn 0) pe_str (fun _ _ => rfl)) pe_int) (pe_op op_mul (pe_op op_mul pe_int (vn 2)) (vn 2))) pe_int) pe_int))
   (pss_cons (sset 4 rfl (pe_op op_mul (pe_op op_add (pe_op op_mod (vn 4) pe_int) (pe_op op_mul pe_int (vn 2))) pe_int))
   (pss_one (ps_ret (pe_op op_mod (pe_op op_fdiv (pe_op op_mod (vn 4) pe_int) pe_int) (vn 1)))))))), ?_⟩
  refine ⟨_, rfl, p, _, rfl, g_turn h1, _, _, rfl, rfl, ?_⟩
  refine ⟨_, rfl, _, rfl, p, _, rfl, p_turn h1, ?_⟩
  have h2 : upd H p (.dK (tpK c l (n + 1))) p = some (.dK (tpK c l (n + 1))) := upd_same
  have k2 : Tk p H (upd H p (.dK (tpK c l (n + 1)))) := fun b o e hb => by rw [upd_ne hb]; exact e
  generalize upd H p (.dK (tpK c l (n + 1))) = H2 at h2 k2 ⊢
  refine ⟨_, rfl, p, _, rfl, g_left h2, _, _, rfl, rfl, _, rfl, ?_⟩
  refine ite2 (fun h => ?_) (fun h => ?_)
  ·refine ⟨_, rfl, p, _, rfl, g_left h2, _, rfl, _, _, rfl, rfl, m0, ?_⟩
   refine ⟨_, rfl, p, _, rfl, g_left h2, _, rfl, _, _, rfl, rfl, ⟨m0, m1⟩, _, rfl, p, _, rfl, p_left h2, ?_⟩
   refine ⟨_, rfl, q _ _ (Int.emod_nonneg _ (by omega)) (Int.emod_lt_of_pos _ m0) (k2.trans fun b o e hb => by rw [upd_ne hb]; exact e) ⟨c, l / m, n + 1, upd_same, Int.ediv_nonneg l0 (by omega), by omega, by omega⟩⟩
  ·refine ⟨_, rfl, p, _, rfl, g_cell h2, _, _, rfl, rfl, (by show (0 : Int) < _; decide), _, rfl, _, _, rfl, rfl, .inl ⟨by decide, by decide⟩, _, rfl, _, _, rfl, rfl, .inr ⟨by omega, by omega⟩, _, _, rfl, rfl, _, _, rfl, rfl, _, _, rfl, rfl, .inr ⟨by decide, by decide⟩, ?_⟩
   refine ⟨_, rfl, _, _, rfl, rfl, (by show (0 : Int) < _; decide), _, rfl, _, _, rfl, rfl, .inl ⟨by decide, by decide⟩, _, _, rfl, rfl, _, _, rfl, rfl, .inr ⟨by decide, by decide⟩, ?_⟩
   refine ⟨_, rfl, _, _, rfl, rfl, (by show (0 : Int) < _; decide), _, _, rfl, rfl, ⟨by decide, by decide⟩, _, rfl, _, _, rfl, rfl, m0, ?_⟩
   exact q _ _ (Int.emod_nonneg _ (by omega)) (Int.emod_lt_of_pos _ m0) k2 ⟨c, l, n + 1, h2, l0, by omega, by omega⟩
theorem ok_tape {f : Addr} {fd : FuncData} (F : Fun K "_law_tape" "_law_tape" sTape f fd) (T : BlB mg) : FnOk P w K mg base CX0 1 f fd ["_law_script", "_law_at"] (spTape K) := by
 refine F.ok scTape (fun vs H Q E h => ?_) (fun cdv A outer s H vs Q E hr h => ?_)
 ·obtain ⟨a, ns, i, rfl, _⟩ := h; rfl
 ·obtain ⟨a, ns, i, rfl, hS, hn, q⟩ := h
  refine ⟨_, pss_cons (sset 2 rfl (vn 1))
   (pss_cons (ps_if (pt_cmpR op_gt (cb (lenK K) T.len (pc (vn 0) pa_nil)) pe_int (nomark _))
    (pss_one (sset 2 rfl (pe_op op_add (pe_ix (ixL K) (vn 0) (pe_op op_mod (vn 1) (cb (lenK K) T.len (pc (vn 0) pa_nil))) (fun _ _ => rfl)) (pe_op op_fdiv (vn 1) (cb (lenK K) T.len (pc (vn 0) pa_nil)))))) pss_nil)
   (pss_one (ps_ret (pe_disp (pps_cons pe_str (vn 2) (pps_cons pe_str (cb (call_max2 rfl) T.max (pc pe_int (pc (pe_op op_sub (vn 2) (pe_op op_pow pe_int pe_int)) pa_nil))) (pps_cons pe_str pe_int pps_nil))) rfl rfl (by simp) (by decide))))), ?_⟩
  have len : (ns.map V.int).length = ns.length := List.length_map ..
  refine ⟨_, rfl, _, rfl, a, _, rfl, .inl hS, _, _, rfl, rfl, _, rfl, ?_⟩
  refine ite2 (fun h => ?_) (fun h => ?_)
  ·have h : (0 : Int) < (ns.map V.int).length := of_decide_eq_true h
   rw [len] at h
   have m0 := Int.emod_nonneg (i : Int) (show (ns.length : Int) ≠ 0 by omega)
   have m1 := Int.emod_lt_of_pos (i : Int) h
   obtain ⟨j, ej⟩ := Int.eq_ofNat_of_zero_le m0
   have hj : j < ns.length := by omega
   have at1 : atI (ns.map V.int) (j : Int) = some (.int (ns[j])) := atI_nat (by rw [List.getElem?_map, List.getElem?_eq_getElem hj]; rfl)
   refine ⟨_, rfl, _, rfl, _, rfl, a, _, rfl, .inl hS, ?_⟩
   rw [len]
   refine ⟨_, _, rfl, rfl, h, ?_⟩
   dsimp only
   rw [ej]
   refine ⟨a, _, _, _, rfl, rfl, hS, at1, _, rfl, _, rfl, a, _, rfl, .inl hS, ?_⟩
   rw [len]
   refine ⟨_, _, rfl, rfl, ⟨h, by omega⟩, _, _, rfl, rfl, ?_⟩
   intro p np
   refine ⟨_, rfl, _, rfl, _, _, rfl, rfl, ⟨by decide, by decide, by decide⟩, _, _, rfl, rfl, _, _, rfl, upd_same, tpK (ns[j] + (i : Int) / (ns.length : Int)) (if (ns[j] + (i : Int) / (ns.length : Int)) - 10 ^ (18 : Int).toNat > 0 then (ns[j] + (i : Int) / (ns.length : Int)) - 10 ^ (18 : Int).toNat else 0) 0, rfl, (show 3 ≤ 15 by decide), ?_⟩
   refine q p _ (Same.upd2 np) np ⟨_, _, 0, upd_same, ?_, by decide, by decide⟩
   split <;> omega
  ·generalize (i : Int) = c
   intro p np
   refine ⟨_, rfl, _, rfl, _, _, rfl, rfl, ⟨by decide, by decide, by decide⟩, _, _, rfl, rfl, _, _, rfl, upd_same, tpK c (if c - 10 ^ (18 : Int).toNat > 0 then c - 10 ^ (18 : Int).toNat else 0) 0, rfl, (show 3 ≤ 15 by decide), ?_⟩
   refine q p _ (Same.upd2 np) np ⟨_, _, 0, upd_same, ?_, by decide, by decide⟩
   split <;> omega
end
end C28
namespace Tb
def mul (t : List (List Nat)) (a b : Nat) : Nat := (t.getD a []).getD b 0
def it (t : List (List Nat)) (a : Nat) : Nat → Nat
 | 0 => 0
 | k + 1 => mul t (it t a k) a
structure Rd (t : List (List Nat)) (a r : Nat) : Prop where
 r1 : 1 ≤ r
 rn : r ≤ t.length
 dv : t.length % r = 0
 z : it t a r = 0
 nz : ∀ k, 1 ≤ k → k < r → it t a k ≠ 0
 bk : mul t a (it t a (r - 1)) = 0
 un : ∀ b, b < t.length → mul t a b = 0 → b = it t a (r - 1)
structure PW (t : List (List Nat)) : Prop where
 n1 : 1 ≤ t.length
 n60 : t.length ≤ 60
 len : ∀ row ∈ t, row.length = t.length
 lt : ∀ a b, a < t.length → b < t.length → mul t a b < t.length
 one : ∀ a, a < t.length → mul t 0 a = a
 rd : ∀ a, a < t.length → ∃ r, Rd t a r
 oneR : ∀ a, a < t.length → mul t a 0 = a
 ass : ∀ a b c, a < t.length → b < t.length → c < t.length → mul t (mul t a b) c = mul t a (mul t b c)
section
variable {t : List (List Nat)} {a r : Nat}
theorem it_lt (P : PW t) (ha : a < t.length) : ∀ k, it t a k < t.length
 | 0 => P.n1
 | k + 1 => P.lt _ _ (it_lt P ha k) ha
end
def rdB (t : List (List Nat)) (n a : Nat) : Nat → Nat → Nat → Bool
 | 0, _, _ => false
 | f + 1, k, prev =>
  let x := mul t prev a
  match x with
  | 0 => decide (n % (k + 1) = 0) && decide (k + 1 ≤ n) && decide (mul t a prev = 0) && ((List.range n).all fun b => decide (b = prev) || !decide (mul t a b = 0))
  | y + 1 => rdB t n a f (k + 1) (y + 1)
def fq1 {β : Type} (m : Nat) (k : Nat → β) : β := match m with
 | 0 => k 0
 | m + 1 => k (m + 1)
theorem fq1_eq {β : Type} (m : Nat) (k : Nat → β) : fq1 m k = k m := by cases m <;> rfl
def fql {β : Type} : List Nat → (List Nat → β) → β
 | [], k => k []
 | x :: xs, k => fq1 x fun y => fql xs fun ys => k (y :: ys)
theorem fql_eq {β : Type} : ∀ (a : List Nat) (k : List Nat → β), fql a k = k a
 | [], k => rfl
 | x :: xs, k => by rw [fql, fq1_eq, fql_eq xs]
def addY (acc : List Nat) (y : Nat) : List Nat := if acc.contains y then acc else acc ++ [y]
def bfsT (t : List (List Nat)) (gens : List Nat) : Nat → Nat → List Nat → List Nat
 | 0, _, acc => acc
 | f + 1, i, acc => match acc[i]? with
  | none => acc
  | some x => fql (gens.foldl (fun acc g => fq1 (mul t x g) fun y => addY acc y) acc) fun acc => bfsT t gens f (i + 1) acc
def gensT (t : List (List Nat)) : Nat → Nat → List Nat → List Nat → List Nat
 | 0, _, gens, _ => gens
 | f + 1, a, gens, acc => if acc.contains a then gensT t f (a + 1) gens acc else fql (bfsT t (gens ++ [a]) t.length 0 [0]) fun acc => gensT t f (a + 1) (gens ++ [a]) acc
def liB (t : List (List Nat)) (g : Nat) : Bool := decide (g < t.length) && t.all fun rx => (t.getD (rx.getD g 0) [] == (t.getD g []).map fun c => rx.getD c 0)
def asG (t : List (List Nat)) (gens : List Nat) : Bool := gens.all (liB t) && fql (bfsT t gens t.length 0 [0]) fun acc => (List.range t.length).all fun a => acc.contains a
def asB (t : List (List Nat)) : Bool := fql (gensT t t.length 0 [] [0]) (asG t)
def pwB0 (t : List (List Nat)) : Bool := decide (1 ≤ t.length) && decide (t.length ≤ 60) && (t.all fun row => decide (row.length = t.length) && row.all fun x => decide (x < t.length)) && ((List.range t.length).all fun a => decide (mul t 0 a = a) && rdB t t.length a t.length 0 0)
def pwB (t : List (List Nat)) : Bool := pwB0 t && ((List.range t.length).all fun a => decide (mul t a 0 = a)) && asB t
def Pr (t : List (List Nat)) (a : Nat) : Prop := a < t.length ∧ ∀ x y, x < t.length → y < t.length → mul t (mul t x a) y = mul t x (mul t a y)
theorem li_of {t : List (List Nat)} (hl : ∀ row ∈ t, row.length = t.length) {g : Nat} (h : liB t g = true) : Pr t g := by
 unfold liB at h
 simp only [List.all_eq_true, Bool.and_eq_true, beq_iff_eq, decide_eq_true_eq] at h
 obtain ⟨hg, h⟩ := h
 refine ⟨hg, fun x y hx hy => ?_⟩
 have hm : t.getD x [] ∈ t := by
  rw [List.getD_eq_getElem?_getD, List.getElem?_eq_getElem hx]
  exact List.getElem_mem hx
 have hmg : t.getD g [] ∈ t := by
  rw [List.getD_eq_getElem?_getD, List.getElem?_eq_getElem hg]
  exact List.getElem_mem hg
 have h1 := h _ hm
 unfold mul
 rw [h1]
 have hlb := hl _ hmg
 generalize t.getD g [] = rb at *
 have hc' : y < rb.length := by omega
 rw [List.getD_eq_getElem?_getD, List.getElem?_map, List.getElem?_eq_getElem hc', List.getD_eq_getElem?_getD (l := rb), List.getElem?_eq_getElem hc']
 rfl
theorem Pr.times {t : List (List Nat)} (lt : ∀ a b, a < t.length → b < t.length → mul t a b < t.length) {a g : Nat} (ha : Pr t a) (hg : Pr t g) : Pr t (mul t a g) := by
 refine ⟨lt _ _ ha.1 hg.1, fun x y hx hy => ?_⟩
 rw [← ha.2 x g hx hg.1, hg.2 _ y (lt _ _ hx ha.1) hy, ha.2 x _ hx (lt _ _ hg.1 hy), hg.2 a y ha.1 hy]
theorem bfs_all {t : List (List Nat)} (lt : ∀ a b, a < t.length → b < t.length → mul t a b < t.length) {gens : List Nat} (hg : ∀ g ∈ gens, Pr t g) : ∀ (f i : Nat) (acc : List Nat), (∀ a ∈ acc, Pr t a) → ∀ a ∈ bfsT t gens f i acc, Pr t a
 | 0, i, acc, h => by unfold bfsT; exact h
 | f + 1, i, acc, h => by
  unfold bfsT
  split
  ·exact h
  ·rename_i x hx
   rw [fql_eq]
   refine bfs_all lt hg f (i + 1) _ ?_
   have hxp := h x (List.mem_of_getElem? hx)
   have key : ∀ (gs acc : List Nat), (∀ g ∈ gs, Pr t g) → (∀ a ∈ acc, Pr t a) → ∀ a ∈ gs.foldl (fun acc g => fq1 (mul t x g) fun y => addY acc y) acc, Pr t a := fun gs => by
    induction gs with
    | nil => intro acc _ h; exact h
    | cons g gs ih =>
     intro acc hgs hacc
     rw [List.foldl_cons]
     refine ih _ (fun g' hg' => hgs g' (List.mem_cons_of_mem _ hg')) fun a ha => ?_
     rw [fq1_eq] at ha
     unfold addY at ha
     split at ha
     ·exact hacc a ha
     ·rcases List.mem_append.mp ha with ha | ha
      ·exact hacc a ha
      ·rw [List.mem_singleton.mp ha]
       exact hxp.times lt (hgs g List.mem_cons_self)
   exact key gens acc hg h
theorem asB_of {t : List (List Nat)} (n1 : 1 ≤ t.length) (hl : ∀ row ∈ t, row.length = t.length) (lt : ∀ a b, a < t.length → b < t.length → mul t a b < t.length) (one : ∀ a, a < t.length → mul t 0 a = a) (oneR : ∀ a, a < t.length → mul t a 0 = a) (h : asB t = true) : ∀ a b c, a < t.length → b < t.length → c < t.length → mul t (mul t a b) c = mul t a (mul t b c) := by
 intro a b c ha hb hc
 unfold asB at h
 rw [fql_eq] at h
 generalize gensT t t.length 0 [] [0] = gens at h
 unfold asG at h
 rw [fql_eq, Bool.and_eq_true, List.all_eq_true, List.all_eq_true] at h
 have h0 : Pr t 0 := ⟨by omega, fun x y hx hy => by rw [oneR x hx, one y hy]⟩
 have hb' := bfs_all lt (fun g hg => li_of hl (h.1 g hg)) t.length 0 [0] (fun a ha => by rw [List.mem_singleton.mp ha]; exact h0) b (List.contains_iff_mem.mp (h.2 b (List.mem_range.mpr hb)))
 exact hb'.2 a c ha hc
theorem rdB_of {t : List (List Nat)} {a : Nat} : ∀ (f k prev : Nat), prev = it t a k → (∀ j, 1 ≤ j → j ≤ k → it t a j ≠ 0) → rdB t t.length a f k prev = true → ∃ r, Rd t a r
 | 0, k, prev, _, _, h => by cases h
 | f + 1, k, prev, e, hz, h => by
  unfold rdB at h
  have ex : it t a (k + 1) = mul t prev a := by rw [it, e]
  cases hx : mul t prev a with
  | zero =>
   simp only [hx, Bool.and_eq_true, decide_eq_true_eq, List.all_eq_true, Bool.or_eq_true, Bool.not_eq_true', decide_eq_false_iff_not] at h
   obtain ⟨⟨⟨h1, h2⟩, h3⟩, h4⟩ := h
   refine ⟨k + 1, by omega, h2, h1, by rw [ex, hx], fun j j1 jk => hz j j1 (by omega), by rw [Nat.add_sub_cancel, ← e]; exact h3, fun b hb hm => ?_⟩
   rw [Nat.add_sub_cancel, ← e]
   exact (h4 b (List.mem_range.mpr hb)).resolve_right fun z => z hm
  | succ y =>
   simp only [hx] at h
   refine rdB_of f (k + 1) (y + 1) (by rw [ex, hx]) (fun j j1 jk => ?_) h
   by_cases ej : j = k + 1
   ·rw [ej, ex, hx]
    exact Nat.succ_ne_zero _
   ·exact hz j j1 (by omega)
theorem pwB_of {t : List (List Nat)} (h : pwB t = true) : PW t := by
 unfold pwB at h
 rw [Bool.and_eq_true, Bool.and_eq_true] at h
 obtain ⟨⟨h, hr1⟩, hr2⟩ := h
 unfold pwB0 at h
 simp only [Bool.and_eq_true, decide_eq_true_eq, List.all_eq_true] at h
 obtain ⟨⟨⟨h1, h2⟩, h3⟩, h4⟩ := h
 have lt : ∀ a b, a < t.length → b < t.length → mul t a b < t.length := fun a b ha hb => by
  unfold mul
  have hm : t.getD a [] ∈ t := by
   rw [List.getD_eq_getElem?_getD, List.getElem?_eq_getElem ha]
   exact List.getElem_mem ha
  obtain ⟨hl, hx⟩ := h3 _ hm
  generalize t.getD a [] = row at *
  have hb' : b < row.length := by omega
  refine hx _ ?_
  rw [List.getD_eq_getElem?_getD, List.getElem?_eq_getElem hb']
  exact List.getElem_mem hb'
 have oneR : ∀ a, a < t.length → mul t a 0 = a := fun a ha => of_decide_eq_true (List.all_eq_true.mp hr1 a (List.mem_range.mpr ha))
 have one : ∀ a, a < t.length → mul t 0 a = a := fun a ha => (h4 a (List.mem_range.mpr ha)).1
 refine ⟨h1, h2, fun row hr => (h3 row hr).1, lt, one, fun a ha => ?_, oneR, asB_of h1 (fun row hr => (h3 row hr).1) lt one oneR hr2⟩
 ·exact rdB_of _ 0 0 rfl (fun j j1 j0 => by omega) (h4 a (List.mem_range.mpr ha)).2
def pos (o : List Nat) (v : Nat) : Nat := o.findIdx (· == v)
def ren (t : List (List Nat)) (o : List Nat) : List (List Nat) := o.map fun a => o.map fun b => pos o (mul t a b)
structure Ord (n : Nat) (o : List Nat) : Prop where
 len : o.length = n
 nd : o.Nodup
 all : ∀ v, v < n → v ∈ o
 lt : ∀ v ∈ o, v < n
 z : o.getD 0 0 = 0
section
variable {t : List (List Nat)} {o : List Nat}
theorem getD_lt {o : List Nat} {i : Nat} (h : i < o.length) : o[i]? = some (o.getD i 0) := by
 rw [List.getD_eq_getElem?_getD, List.getElem?_eq_getElem h]
 rfl
theorem pos_lt {n v : Nat} (O : Ord n o) (hv : v < n) : pos o v < n ∧ o.getD (pos o v) 0 = v := by
 have hm := O.all v hv
 have h1 : o.findIdx (· == v) < o.length := List.findIdx_lt_length_of_exists ⟨v, hm, by simp⟩
 refine ⟨by rw [← O.len]; exact h1, ?_⟩
 have h2 := List.findIdx_getElem (w := h1)
 have h3 : o[o.findIdx (· == v)] = v := by simpa using h2
 unfold pos
 rw [List.getD_eq_getElem?_getD, List.getElem?_eq_getElem h1]
 exact h3
theorem inj {n i j : Nat} (O : Ord n o) (hi : i < n) (hj : j < n) (e : o.getD i 0 = o.getD j 0) : i = j := by
 have h1 := getD_lt (o := o) (i := i) (by rw [O.len]; exact hi)
 have h2 := getD_lt (o := o) (i := j) (by rw [O.len]; exact hj)
 rw [e] at h1
 exact (List.getElem?_inj (by rw [O.len]; exact hi) O.nd).mp (h1.trans h2.symm)
theorem o_lt {n i : Nat} (O : Ord n o) (hi : i < n) : o.getD i 0 < n := O.lt _ (List.mem_of_getElem? (getD_lt (by rw [O.len]; exact hi)))
theorem ren_len : (ren t o).length = o.length := by unfold ren; rw [List.length_map]
theorem mul_ren {n i j : Nat} (O : Ord n o) (hi : i < n) (hj : j < n) : mul (ren t o) i j = pos o (mul t (o.getD i 0) (o.getD j 0)) := by
 unfold mul ren
 have h1 := getD_lt (o := o) (i := i) (by rw [O.len]; exact hi)
 have h2 := getD_lt (o := o) (i := j) (by rw [O.len]; exact hj)
 rw [List.getD_eq_getElem?_getD (l := o.map _), List.getElem?_map, h1]
 show (o.map fun b => pos o ((t.getD (o.getD i 0) []).getD b 0)).getD j 0 = _
 rw [List.getD_eq_getElem?_getD, List.getElem?_map, h2]
 rfl
theorem pw_ren (P : PW t) (O : Ord t.length o) : PW (ren t o) := by
 have L : (ren t o).length = t.length := by rw [ren_len, O.len]
 have back : ∀ i j, i < t.length → j < t.length → o.getD (mul (ren t o) i j) 0 = mul t (o.getD i 0) (o.getD j 0) := fun i j hi hj => by
  rw [mul_ren O hi hj]
  exact (pos_lt O (P.lt _ _ (o_lt O hi) (o_lt O hj))).2
 have lt : ∀ i j, i < t.length → j < t.length → mul (ren t o) i j < t.length := fun i j hi hj => by
  rw [mul_ren O hi hj]
  exact (pos_lt O (P.lt _ _ (o_lt O hi) (o_lt O hj))).1
 have n1 := P.n1
 have itb : ∀ a, a < t.length → ∀ k, it (ren t o) a k < t.length ∧ o.getD (it (ren t o) a k) 0 = it t (o.getD a 0) k := fun a ha k => by
  induction k with
  | zero => exact ⟨n1, O.z⟩
  | succ k ih =>
   rw [it, it]
   exact ⟨lt _ _ ih.1 ha, by rw [back _ _ ih.1 ha, ih.2]⟩
 have zz : ∀ i, i < t.length → (i = 0 ↔ o.getD i 0 = 0) := fun i hi => by
  constructor
  ·intro e; rw [e, O.z]
  ·intro e; exact inj O hi n1 (by rw [e, O.z])
 refine ⟨by omega, by have := P.n60; omega, fun row hr => ?_, fun a b ha hb => by rw [L]; exact lt a b (by omega) (by omega), fun a ha => ?_, fun a ha => ?_, fun a ha => ?_, fun a b c ha hb hc => ?_⟩
 ·unfold ren at hr
  obtain ⟨a, _, rfl⟩ := List.mem_map.mp hr
  rw [List.length_map, ren_len]
 ·refine inj O (lt 0 a n1 (by omega)) (by omega) ?_
  rw [back 0 a n1 (by omega), O.z, P.one _ (o_lt O (by omega))]
 ·have ha' : a < t.length := by omega
  obtain ⟨r, R⟩ := P.rd _ (o_lt O ha')
  have key : ∀ k, it (ren t o) a k = 0 ↔ it t (o.getD a 0) k = 0 := fun k => by
   rw [zz _ (itb a ha' k).1, (itb a ha' k).2]
  refine ⟨r, R.r1, by rw [L]; exact R.rn, by rw [L]; exact R.dv, (key r).mpr R.z, fun k k1 kr z => R.nz k k1 kr ((key k).mp z), ?_, fun b hb hm => ?_⟩
  ·refine (zz _ (lt _ _ ha' (itb a ha' _).1)).mpr ?_
   rw [back _ _ ha' (itb a ha' _).1, (itb a ha' _).2]
   exact R.bk
  ·have hb' : b < t.length := by omega
   refine inj O hb' (itb a ha' _).1 ?_
   rw [(itb a ha' _).2]
   refine R.un _ (o_lt O hb') ?_
   rw [← back a b ha' hb', hm, O.z]
 ·refine inj O (lt a 0 (by omega) n1) (by omega) ?_
  rw [back a 0 (by omega) n1, O.z, P.oneR _ (o_lt O (by omega))]
 ·have ha' : a < t.length := by omega
  have hb' : b < t.length := by omega
  have hc' : c < t.length := by omega
  refine inj O (lt _ _ (lt _ _ ha' hb') hc') (lt _ _ ha' (lt _ _ hb' hc')) ?_
  rw [back _ _ (lt _ _ ha' hb') hc', back _ _ ha' hb', back _ _ ha' (lt _ _ hb' hc'), back _ _ hb' hc']
  exact P.ass _ _ _ (o_lt O ha') (o_lt O hb') (o_lt O hc')
end
end Tb
namespace L2
open PySem PySem.Spec PyProof.Rows
section
variable {X : Cx}
def rInD (K : PySem.W.Frag) (neg : Bool) : R2 := fun x y H Q => ∃ p xs ds dx, y = .ref p ∧ (SqL K H p xs ∨ SqT K H p xs) ∧ RdDs K H xs ds ∧ RdD K H x dx ∧ PyData.canLayAll0 ds = true ∧ dx.canLay0 = true ∧ dx.depth ≤ 60 ∧ Q (.bl (if neg then !(ds.any fun y => y.eqv dx) else ds.any fun y => y.eqv dx)) H
theorem op_notInD (hu : X.A.units + 64 < cLine) : OpR X (compareOp .NotIn) (rInD X.K true) := by
 intro pins s σ H x y v u Q I rx ry h
 obtain ⟨p, xs, ds, dx, rfl, hq, hs, hd, c1, c2, dp, q⟩ := h
 cases ry
 obtain ⟨bs, r1⟩ := I.reads hd rx
 rcases hq with hq | hq
 ·obtain ⟨its, r, pl, hz⟩ := I.list hq
  obtain ⟨as, ra⟩ := I.readsAll hs r
  refine SeqAt.notIn_listAt _ pl.isList (SeqAt.items_eqAt (by simpa using ra) r1 c1 c2 (by omega)) ⟨.bl _, H, I, rfl, ?_⟩
  rw [SeqAt.any_by_data (by simpa using ra) c1]
  exact q
 ·obtain ⟨its, r, pl, hz⟩ := I.tuple hq
  obtain ⟨as, ra⟩ := I.readsAll hs r
  refine SeqAt.notIn_tupleAt _ pl (SeqAt.items_eqAt (by simpa using ra) r1 c1 c2 (by omega)) ⟨.bl _, H, I, rfl, ?_⟩
  rw [SeqAt.any_by_data (by simpa using ra) c1]
  exact q
theorem ninDK (K : PySem.W.Frag) (hu : X.A.units + 64 < cLine) (hK : X.K = K := by rfl) : OpR X (compareOp .NotIn) (rInD K true) := hK ▸ op_notInD hu
end
theorem canLay_ints : ∀ ns : List Int, PyData.canLayAll0 (ns.map PyData.int) = true
 | [] => rfl
 | n :: ns => by
  show (PyData.canLay0 (.int n) && PyData.canLayAll0 (ns.map PyData.int)) = true
  rw [canLay_ints ns]
  rfl
theorem canLay_tup (ns : List Int) : PyData.canLay0 (.tuple (ns.map PyData.int)) = true := canLay_ints ns
theorem depth_ints : ∀ ns : List Int, PyData.depthAll (ns.map PyData.int) ≤ 1
 | [] => by decide
 | n :: ns => by
  have := depth_ints ns
  show max (PyData.depth (.int n)) (PyData.depthAll (ns.map PyData.int)) ≤ 1
  have e : PyData.depth (.int n) ≤ 1 := by simp [PyData.depth]
  omega
end L2
namespace L2
open PySem
theorem depth_tup (ns : List Int) : PyData.depth (.tuple (ns.map PyData.int)) ≤ 60 := by
 have := depth_ints ns
 show PyData.depthAll (ns.map PyData.int) + 1 ≤ 60
 omega
end L2
namespace PyZ
open PySem
end PyZ
namespace L2
open PySem PySem.Spec PyProof.Rows
section
variable {X : Cx}
end
end L2
namespace PyZ
open PySem PyProof PyProof.Rows
def runB (n : Nat) (cmp : Nat → Nat → Bool) {α : Type} : W.KasT α → Option α
 | .ret a => some a
 | .ask i j k => if i < n ∧ j < n then runB n cmp (k (cmp i j)) else none
theorem kasWp_run {α : Type} {n : Nat} {cmp : Nat → Nat → Bool} {ask : Nat → Nat → (Bool → Shared → Prop) → Shared → Prop} {s : Shared} (h : ∀ i j C, i < n → j < n → C (cmp i j) s → ask i j C s) : ∀ (t : W.KasT α) (a : α) (Q : α → Shared → Prop), runB n cmp t = some a → Q a s → W.KasT.kasWp ask t Q s
 | .ret b, a, Q, e, q => by
  cases (Option.some.inj e)
  exact q
 | .ask i j k, a, Q, e, q => by
  rw [runB] at e
  by_cases hh : i < n ∧ j < n
  ·rw [if_pos hh] at e
   exact h i j _ hh.1 hh.2 (kasWp_run h (k (cmp i j)) a Q e q)
  ·rw [if_neg hh] at e
   cases e
def lexB (fin : Bool) : List Int → List Int → Bool
 | [], _ => fin
 | _ :: _, [] => fin
 | x :: xs, y :: ys => if x = y then lexB fin xs ys else decide (x < y)
def ltB (xs ys : List Int) : Bool := lexB (decide (xs.length < ys.length)) xs ys
section
variable {prog : Program} {w : World} {A : Around} {E : Value → Shared → Prop} {s : Shared}
theorem katLex {fin : Bool} {Q : Bool → Shared → Prop} : ∀ (us vs : List Value) (xs ys : List Int) (i : Nat), IntsAre us xs → IntsAre vs ys → Q (lexB fin xs ys) s → W.KatLex prog w A true fin Q (us.zip vs) i s
 | [], vs, xs, ys, i, h1, h2, q => by
  cases h1
  exact W.kat_nil q
 | _ :: _, [], xs, ys, i, h1, h2, q => by
  cases h2
  cases xs with
  | nil => exact W.kat_nil q
  | cons x xs => exact W.kat_nil q
 | u :: us, v :: vs, xs, ys, i, h1, h2, q => by
  cases h1 with
  | cons x t1 r1 =>
   cases h2 with
   | cons y t2 r2 =>
    rename_i xs ys
    rw [List.zip_cons_cons]
    refine W.kat_cons ?_
    refine SeqAt.EqAt.int_int _ _ _ _ prog w _ _ ?_
    rw [lexB] at q
    by_cases e : x = y
    ·rw [if_pos e] at q
     rw [show (x == y) = true from beq_iff_eq.mpr e]
     exact W.kat_yes (katLex us vs xs ys (i + 1) r1 r2 q)
    ·rw [if_neg e] at q
     rw [show (x == y) = false from beq_eq_false_iff_ne.mpr e]
     refine W.kat_no ?_
     by_cases hi : i = 0
     ·subst hi
      exact oneLt_int q
     ·have : (true && i == 0) = false := by simp [hi]
      rw [this]
      exact W.kat_one _ _ (lt_int q)
def cutH (h : Heap) (L : Addr) : Heap := { h with objs := h.objs.extract 0 L }
theorem cutH_get {h : Heap} {L b : Addr} (hb : b < L) : (cutH h L).get? b = h.get? b := by
 unfold cutH Heap.get?
 have : (h.objs.extract 0 L)[b]? = h.objs[b]? := by
  rw [Array.getElem?_extract]
  by_cases h1 : b < h.objs.size
  ·simp only [Nat.sub_zero, Nat.zero_add]
   rw [if_pos (show b < min L h.objs.size from Nat.lt_min.mpr ⟨hb, h1⟩)]
  ·rw [Array.getElem?_eq_none (Nat.le_of_not_lt h1)]
   split <;> simp_all
 simp only [this]
theorem cutH_none {h : Heap} {L b : Addr} (hb : L ≤ b) : (cutH h L).get? b = none := by
 unfold cutH Heap.get?
 have : (h.objs.extract 0 L)[b]? = none := by
  apply Array.getElem?_eq_none
  rw [Array.size_extract]
  exact Nat.le_trans (by rw [Nat.sub_zero]; exact Nat.min_le_left ..) hb
 simp only [this]
def behind (h : Heap) (L : Addr) : List (Addr × Obj) := (List.range h.objs.size).filterMap fun a => if L < a then (h.get? a).map fun o => (a, o) else none
theorem mem_behind {h : Heap} {L : Addr} {p : Addr × Obj} : p ∈ behind h L ↔ L < p.1 ∧ h.get? p.1 = some p.2 := by
 unfold behind
 rw [List.mem_filterMap]
 constructor
 ·rintro ⟨a, ha, e⟩
  by_cases hl : L < a
  ·rw [if_pos hl] at e
   cases q : h.get? a with
   | none => rw [q] at e; cases e
   | some o =>
    rw [q] at e
    cases (Option.some.inj e)
    exact ⟨hl, q⟩
  ·rw [if_neg hl] at e
   cases e
 ·rintro ⟨hl, e⟩
  refine ⟨p.1, List.mem_range.mpr (Heap.lt_size e), ?_⟩
  rw [if_pos hl, e]
  rfl
theorem katTups {h : Heap} : ∀ (as : List Addr) (yss : List (List Int)), as.length = yss.length → (∀ (i : Nat) a, as[i]? = some a → ∃ (us : List Value) (ys : List Int), yss[i]? = some ys ∧ h.IsTuple a us.toArray ∧ IntsAre us ys ∧ ys ≠ []) →
  ∃ fs : List Value, W.KatTups h (as.map Value.ref) fs ∧ fs.length = as.length ∧ ∀ v ∈ fs, ∃ n t, v = Value.int n t
 | [], [], _, _ => ⟨[], W.KatTups.nil, rfl, fun v hv => by cases hv⟩
 | [], _ :: _, h, _ => by cases h
 | _ :: _, [], h, _ => by cases h
 | a :: as, ys :: yss, hl, g => by
  obtain ⟨us, ys', e, ⟨o, e1, c, n, d⟩, ia, ne⟩ := g 0 a rfl
  cases e
  obtain ⟨fs, k, l, f⟩ := katTups as yss (Nat.succ.inj hl) fun i a' hi => g (i + 1) a' hi
  cases ia with
  | nil => exact absurd rfl ne
  | cons z t r =>
   refine ⟨Value.int z t :: fs, W.KatTups.cons e1 c d (by simp) k, by rw [List.length_cons, List.length_cons, l], fun v hv => ?_⟩
   rcases List.mem_cons.mp hv with rfl | hv
   ·exact ⟨_, _, rfl⟩
   ·exact f v hv
theorem sorted_tups {l L : Addr} {m : Str → Option Value} {as : List Addr} {yss : List (List Int)} {p : Array Nat} {Q : Value → Shared → Prop} (hNs : s.heap.Ns L m) (hl : s.heap.IsList l (as.map Value.ref).toArray) (n2 : 2 ≤ as.length) (n64 : as.length < 64) (hy : as.length = yss.length)
  (ht : ∀ (i : Nat) a, as[i]? = some a → a ≠ L ∧ ∃ (us : List Value) (ys : List Int), yss[i]? = some ys ∧ s.heap.IsTuple a us.toArray ∧ IntsAre us ys ∧ ys ≠ [])
  (hp : runB as.length (fun i j => ltB (yss.getD i []) (yss.getD j [])) (W.kas_sort as.length) = some p)
  (q : ∀ D c h', s.heap.get? D = none → D ≠ L → (∀ b o, b ≠ L → s.heap.get? b = some o → h'.get? b = some o) → h'.Ns L m → h'.get? D = some (W.listOf (p.toList.map fun i => (as.map Value.ref).getD i Value.none).toArray c) → Q (.ref D) { s with heap := h' }) :
  wpAny (model prog w) A (call (.builtin "sorted") [.ref l]) Q E s := by
 have fr : Fr (cutH s.heap L) L s.heap m := by
  refine ⟨hNs, fun b o e => ?_, ?_⟩
  ·by_cases hb : b < L
   ·rw [cutH_get hb] at e; exact e
   ·rw [cutH_none (Nat.le_of_not_lt hb)] at e
    cases e
  ·show (s.heap.objs.extract 0 L).size ≤ L
   rw [Array.size_extract, Nat.sub_zero]
   exact Nat.min_le_left ..
 have nw : News (cutH s.heap L) L s.heap (behind s.heap L) := fun x hx => by
  obtain ⟨h1, h2⟩ := mem_behind.mp hx
  exact ⟨h2, Nat.ne_of_gt h1, cutH_none (Nat.le_of_lt h1)⟩
 have lv : (as.map Value.ref).length = as.length := List.length_map ..
 refine W.kat_sorted fr nw hl (by rw [lv]; exact n2) (by rw [lv]; exact n64) fun D e1 h' fr' nw' big => ?_
 have kept : ∀ b o, b ≠ L → s.heap.get? b = some o → h'.get? b = some o := fun b o hb e => by
  rcases Nat.lt_or_ge b L with h1 | h1
  ·exact fr'.keep b o (by rw [cutH_get h1]; exact e)
  ·exact (nw' (b, o) (List.mem_cons_of_mem _ (mem_behind.mpr ⟨Nat.lt_of_le_of_ne h1 (Ne.symm hb), e⟩))).1
 have dn : s.heap.get? D = none := by
  cases e : s.heap.get? D with
  | none => rfl
  | some o =>
   obtain ⟨_, dL, dc⟩ := nw' _ (List.mem_cons_self ..)
   rcases Nat.lt_or_ge D L with h1 | h1
   ·rw [cutH_get h1] at dc
    rw [dc] at e
    cases e
   ·exact absurd (big (D, o) (mem_behind.mpr ⟨Nat.lt_of_le_of_ne h1 (Ne.symm dL), e⟩)) (Nat.lt_irrefl _)
 have dL : D ≠ L := (nw' _ (List.mem_cons_self ..)).2.1
 have ht' : ∀ (i : Nat) a, as[i]? = some a → ∃ (us : List Value) (ys : List Int), yss[i]? = some ys ∧ h'.IsTuple a us.toArray ∧ IntsAre us ys ∧ ys ≠ [] := fun i a hi => by
  obtain ⟨aL, us, ys, e, ⟨o, g1, g2⟩, ia, ne⟩ := ht i a hi
  exact ⟨us, ys, e, ⟨o, kept a o aL g1, g2⟩, ia, ne⟩
 obtain ⟨fs, kt, fl, fi⟩ := katTups as yss hy ht'
 refine W.kat_kind (T := Value.type "int") kt (by omega) (fun v hv => ?_) (by decide +kernel) ?_
 ·obtain ⟨n, t, rfl⟩ := fi v hv
  intro A Q E s' _ q
  exact wpAny_pure q
 ·rw [lv]
  have kb : (Value.type "int" != Value.type "tuple") = true := by decide +kernel
  rw [kb]
  refine kasWp_run (cmp := fun i j => ltB (yss.getD i []) (yss.getD j [])) (fun i j C hi hj c => ?_) _ p _ hp ?_
  ·unfold W.kas_ask
   obtain ⟨us, ys, e, ⟨o, g1, g2, n1, g3⟩, ia, _⟩ := ht' i as[i] (List.getElem?_eq_getElem hi)
   obtain ⟨us2, ys2, e2, ⟨o2, k1, k2, n2', k3⟩, ia2, _⟩ := ht' j as[j] (List.getElem?_eq_getElem hj)
   have v1 : (as.map Value.ref).getD i Value.none = .ref as[i] := by
    rw [List.getD_eq_getElem?_getD, List.getElem?_map, List.getElem?_eq_getElem hi]
    rfl
   have v2 : (as.map Value.ref).getD j Value.none = .ref as[j] := by
    rw [List.getD_eq_getElem?_getD, List.getElem?_map, List.getElem?_eq_getElem hj]
    rfl
   have w1 : yss.getD i [] = ys := by rw [List.getD_eq_getElem?_getD, e]; rfl
   have w2 : yss.getD j [] = ys2 := by rw [List.getD_eq_getElem?_getD, e2]; rfl
   rw [v1, v2]
   refine W.kat_lt g1 g3 k1 k3 ?_
   have il : ∀ {us : List Value} {ys : List Int}, IntsAre us ys → us.length = ys.length := fun {us ys} h => by
    induction h with
    | nil => rfl
    | cons _ _ _ ih => rw [List.length_cons, List.length_cons, ih]
   refine katLex us us2 ys ys2 0 ia ia2 ?_
   rw [w1, w2] at c
   unfold ltB at c
   rw [List.size_toArray, List.size_toArray, il ia, il ia2]
   exact c
  ·refine ⟨_, _, fr', nw', W.UpdF.head (fun x hx => Nat.ne_of_lt (big x hx)), fun h'' c fr'' nw'' => ?_⟩
   refine q D c h'' dn dL (fun b o hb e => ?_) fr''.ns (nw'' _ (List.mem_cons_self ..)).1
   rcases Nat.lt_or_ge b L with h1 | h1
   ·exact fr''.keep b o (by rw [cutH_get h1]; exact e)
   ·exact (nw'' (b, o) (List.mem_cons_of_mem _ (mem_behind.mpr ⟨Nat.lt_of_le_of_ne h1 (Ne.symm hb), e⟩))).1
end
end PyZ
namespace L2
open PySem PySem.Spec PyProof.Rows
theorem ObjOk.there {P : Program} {w : World} {H : Hp} {h : Heap} {a : Addr} {o : HO} (x : ObjOk P w H h a o) : ∃ ob, h.get? a = some ob := by
 cases o with
 | lst xs => obtain ⟨_, _, _, _, e⟩ := x; exact ⟨_, e⟩
 | tup xs => obtain ⟨_, _, _, ob, e, _⟩ := x; exact ⟨_, e⟩
 | dK kvs => obtain ⟨_, _, _, _, o, _, _, e, _⟩ := x; exact ⟨_, e⟩
 | dT kvs => obtain ⟨_, _, _, _, o, _, _, e, _⟩ := x; exact ⟨_, e⟩
 | set S n => obtain ⟨o, _, _, _, e, _⟩ := x; exact ⟨_, e⟩
 | ins C dx fs => obtain ⟨_, _, _, e, _⟩ := x; exact ⟨_, e⟩
 | own y => obtain ⟨_, e⟩ := x; exact ⟨_, e⟩
 | xd fs => obtain ⟨_, ⟨_, _, _, e, _⟩, _⟩ := x; exact ⟨_, e⟩
 | rng lo hi => obtain ⟨_, _, _, e⟩ := x; exact ⟨_, e⟩
 | frz ob u => obtain ⟨e, _⟩ := x; exact ⟨_, e⟩
 | tbl ps => exact ⟨_, (show h.get? a = some _ from x)⟩
 | met f y => exact ⟨_, (show h.get? a = some _ from x)⟩
 | ext φ => obtain ⟨_, ⟨_, e⟩, _⟩ := x; exact ⟨_, e⟩
section
variable {X : Cx} {pins : List (Addr × Obj)} {σ : St} {H : Hp} {s : Shared}
theorem Inv.newL {D : Addr} {c : Nat} {h' : Heap} {m : Str → Option Value} {ys : List V} {its : List Value} (I : Inv X pins σ H s) (hm : s.heap.Ns X.env.locals m)
  (hl : ∀ (i : Nat) (x : Str) (v : V), X.N[i]? = some x → σ[i]? = some (some v) → Vis X.env.scope x → ∃ u, RelV v u ∧ Look X.env s.heap m x u)
  (dn : s.heap.get? D = none) (dL : D ≠ X.env.locals) (kept : ∀ b o, b ≠ X.env.locals → s.heap.get? b = some o → h'.get? b = some o) (hn' : h'.Ns X.env.locals m) (hz : ys.length ≤ sizeLine) (hv : Vals ys its) (hD : h'.get? D = some { cls := .type "list", data := .seq its.toArray c }) :
  Inv X pins σ (upd H D (.lst ys)) { s with heap := h' } ∧ H D = none := by
 have hHD : H D = none := by
  cases e : H D with
  | none => rfl
  | some o =>
   obtain ⟨ob, e2⟩ := (I.hok D o e).there
   rw [dn] at e2
   cases e2
 have neD : ∀ {b : Addr} {o : Obj}, s.heap.get? b = some o → b ≠ D := fun {b o} e z => by rw [z, dn] at e; cases e
 have neH : ∀ {b : Addr} {o : HO}, H b = some o → b ≠ D := fun {b o} e z => by rw [z, hHD] at e; cases e
 have neL : ∀ {b : Addr} {o : HO}, H b = some o → b ≠ X.env.locals := fun {b o} e z => by rw [z, I.free] at e; cases e
 have bL : ∀ {b : Addr} {o : Obj}, X.s₀.heap.get? b = some o → b ≠ X.env.locals := fun {b o} e => Nat.ne_of_lt (Nat.lt_of_lt_of_le (Heap.lt_size e) I.ok.above)
 refine ⟨⟨I.ok, I.os, I.bare, ⟨fun b o e n hb hx => ?_, fun b o e n hb hx => ?_, fun b o e n hx => ?_, fun b o e hx => ?_, fun b xs e => ?_, fun b o u e => ?_, fun b ps e => ?_⟩, ⟨m, hn', fun j y v e1 e2 e3 => ?_⟩, fun y c' e => ?_, ?_, fun y c' e => ?_, fun p hp => ?_, fun b ob e => ?_, I.len⟩, hHD⟩
 ·exact kept b o (bL e) (I.base.keep b o e n hb hx)
 ·obtain ⟨sl, e1⟩ := I.base.slot b o e n hb hx
  exact ⟨sl, kept b _ (bL e) e1⟩
 ·obtain ⟨o', e1⟩ := I.base.there b o e hx
  rw [upd_ne (neD e1)]
  exact I.base.free b o e n hx
 ·obtain ⟨o', e1⟩ := I.base.there b o e hx
  exact ⟨o', kept b _ (bL e) e1⟩
 ·have := I.base.tups b xs e
  rw [upd_ne (neH this)]
  exact this
 ·have := I.base.frzs b o u e
  rw [upd_ne (neH this)]
  exact this
 ·obtain ⟨more, this⟩ := I.base.tbls b ps e
  exact ⟨more, by rw [upd_ne (neH this)]; exact this⟩
 ·obtain ⟨u, r, q⟩ := hl j y v e1 e2 e3
  refine ⟨u, r, ?_⟩
  rcases q with ⟨k, e⟩ | ⟨k, c', e, z⟩
  ·exact .inl ⟨k, e⟩
  ·obtain ⟨o, g, rest⟩ := z
   exact .inr ⟨k, c', e, o, kept c' o (I.cne y c' e) g, rest⟩
 ·obtain ⟨w', o, g, rest⟩ := I.cell y c' e
  exact ⟨w', o, kept c' o (I.cne y c' e) g, rest⟩
 ·rw [upd_ne (Ne.symm dL)]
  exact I.free
 ·obtain ⟨w', o, g, rest⟩ := I.cell y c' e
  rw [upd_ne (neD g)]
  exact I.freeC y c' e
 ·obtain ⟨e, n, ne, nf, d⟩ := I.pin p hp
  exact ⟨kept p.1 _ ne e, by rw [upd_ne (neD e)]; exact n, ne, nf, d⟩
 ·by_cases hb : b = D
  ·subst hb
   rw [upd_same] at e
   cases (Option.some.inj e)
   exact ⟨hz, its, c, hv, hD⟩
  ·rw [upd_ne hb] at e
   refine (I.hok b ob e).stay (fun c' w' hc q => kept c' w' ?_ q) (fun c' q => ?_) fun c' xs q => ?_
   ·rcases hc with rfl | hc
    ·exact neL e
    ·exact neL hc
   ·rw [upd_ne (neH q)]
    exact q
   ·rw [upd_ne (neH q)]
    exact q
theorem vals_refs : ∀ {as : List Addr} {us : List Value}, Vals (as.map V.ref) us → us = as.map Value.ref
 | [], _, h => by cases h; rfl
 | a :: as, _, h => by
  cases h with
  | cons r t => rw [show _ = Value.ref a from r, vals_refs t]; rfl
theorem vals_intsA : ∀ {ns : List Int} {us : List Value}, Vals (ns.map V.int) us → IntsAre us ns
 | [], _, h => by cases h; exact .nil
 | n :: ns, _, h => by
  cases h with
  | cons r t =>
   obtain ⟨k, rfl⟩ := r
   exact .cons n k (vals_intsA t)
theorem refs_vals : ∀ as : List Addr, Vals (as.map V.ref) (as.map Value.ref)
 | [] => .nil
 | a :: as => .cons rfl (refs_vals as)
end
section
variable {X : Cx}
def Tz (H : Hp) (a : Addr) (ys : List V) : Prop := ∃ o : Obj, H a = some (.frz o (.tup ys)) ∧ o.cls = .type "tuple" ∧ o.dict = none
theorem Tz.sq {K : PySem.W.Frag} {H : Hp} {a : Addr} {ys : List V} (h : Tz H a ys) : SqT K H a ys := by
 obtain ⟨o, h, _⟩ := h
 exact .inl (.inr ⟨o, h⟩)
theorem Tz.mono {H H' : Hp} {a : Addr} {ys : List V} (s : Same H H') (h : Tz H a ys) : Tz H' a ys := by
 obtain ⟨o, h, r⟩ := h
 exact ⟨o, s _ _ h, r⟩
theorem call_tupleZ : CallR X (.type "tuple") (fun xs H Q => ∃ p ys, xs = [.ref p] ∧ SqL X.K H p ys ∧ ∀ l H', H l = none → Same H H' → Tz H' l ys → Q (.ref l) H') := by
 intro pins s σ H xs us Q I r h
 obtain ⟨p, ys, rfl, hq, q⟩ := h
 obtain ⟨u, rfl, rx⟩ := vals1 r
 cases rx
 obtain ⟨its, r', pl, hz⟩ := I.list hq
 have hlen := r'.length
 refine call_tuple_list pl.isList (fun h' kp => ?_) (by simp only [List.size_toArray] <;> omega)
 have I1 : Inv X pins σ H { s with heap := h' } := I.kept (t' := s.toks) kp
 have hf := I1.hok.fresh (Nat.le_refl _)
 have I2 : Inv X pins σ (upd H h'.objs.size (.frz { cls := .type "tuple", data := .seq its.toArray } (.tup ys))) { s with heap := h'.push { cls := .type "tuple", data := .seq its.toArray } } :=
  I1.laid (t' := s.toks) (fun b o e => Heap.get?_push_of_some _ e) (Nat.le_refl _) ⟨Heap.get?_push_size _ rfl, hz, its, r', IsTup.new _ _⟩
 exact ⟨.ref h'.objs.size, _, I2, rfl, q _ _ hf (Same.upd hf) ⟨_, upd_same, rfl, rfl⟩⟩
variable {o e : Expr} {es : List Expr} {to : TE} {t : TA} {name : Str} {apos cpos : Pos} {id : String} {r : V → List V → Hp → VK → Prop}
end
end L2
namespace PyZ
open PySem PySem.Spec PyProof.Rows
section
variable {prog : Program} {w : World} {A : Around} {E : Value → Shared → Prop} {s : Shared}
theorem collect_range {R : List Value → Shared → Prop} {r : Addr} {a b c : Int} {t u v : Tok} {n : Nat} (hh : A.handled = none) (hr : IsRange s.heap r a b c t u v) (hsmall : Builtin.Range.small a b c = true)
  (hn : Builtin.Range.rangeSize a b c = n) (hlen : n ≤ 2 ^ 24)
  (h : ∀ (h' : Heap) (tk : Nat) (acc : Array Value), (∀ b o, s.heap.get? b = some o → h'.get? b = some o) → ItemsOf (fun i v => ∃ t, v = .int (a + i * c) t) acc n → R acc.toList { s with heap := h', toks := tk }) :
  wpAny (model prog w) A (collect (.ref r)) R E s := by
 unfold collect
 refine wpAny_bind (wpAny_runValue (codeAny_builtin PySem.F.entry_proto_collect ?_))
 rw [Around.under_plainId PySem.F.plain_proto_collect _]
 show wpAny _ A.in1 (newList [] >>= fun l => again (.builtin "list.__iadd__" ⟨[l, .ref r], []⟩)) _ _ s
 refine wpAny_bind (wpAny_newObj_type ?_)
 refine wpAny_pure ⟨plainId_quiet PySem.F.plain_list_iadd _, codeAny_builtin PySem.F.entry_list_iadd ?_⟩
 rw [Around.under_plainId PySem.F.plain_list_iadd _]
 have hS₁ : (s.heap.push { cls := .type "list", data := .seq ([] : List Value).toArray }).get? s.heap.objs.size = some { cls := .type "list", data := .seq #[] } := Heap.get?_push_size _ rfl
 show wpAny _ A.in1 (Builtin.List.listExtendWith (.ref s.heap.objs.size) (.ref r) (.ref s.heap.objs.size)) _ _ _
 have key := wpAny_extend_range (prog := prog) (w := w) (A := A) (s := { s with heap := s.heap.push { cls := .type "list", data := .seq ([] : List Value).toArray } })
  (R := fun (q : Result) (s' : Shared) => ∃ (h' : Heap) (tk : Nat) (acc' : Array Value) (c' : Nat), q = .ok (.ret (.ref s.heap.objs.size)) ∧ s' = { s with heap := h', toks := tk } ∧
   (∀ b o, s.heap.get? b = some o → h'.get? b = some o) ∧ h'.get? s.heap.objs.size = some { cls := .type "list", dict := none, data := .seq acc' c', slots := #[] } ∧ ItemsOf (fun i v => ∃ t, v = .int (a + i * c) t) acc' n)
  hh (Heap.get?_push_of_some _ hr) hsmall hn hlen s.heap.objs.size (.ref s.heap.objs.size) 0 hS₁
  (fun h' tk acc' c' hk hS' hacc => ⟨h', tk, acc', c', rfl, rfl, fun b o e => hk b o (Nat.ne_of_lt (Heap.lt_size e)) (Heap.get?_push_of_some _ e), hS', hacc⟩)
 refine wpAny_mono key (fun fin s' x => ?_) fun e s' x => ?_
 ·cases fin with
  | done f =>
   obtain ⟨h', tk, acc', c', e, rfl, hk, hS', hacc⟩ := x
   cases e
   show wpAny _ A (load s.heap.objs.size >>= _) _ _ _
   refine wpAny_bind (wpAny_load hS' ?_)
   exact wpAny_pure (h h' tk acc' hk hacc)
  | again c₁ =>
   refine ⟨x.1, codeAny_mono x.2 fun q s₂ y => ?_⟩
   obtain ⟨h', tk, acc', c', rfl, rfl, hk, hS', hacc⟩ := y
   show wpAny _ A (load s.heap.objs.size >>= _) _ _ _
   refine wpAny_bind (wpAny_load hS' ?_)
   exact wpAny_pure (h h' tk acc' hk hacc)
 ·obtain ⟨_, _, _, _, e', _⟩ := x
  cases e'
theorem code_tuple_new_range {Q₁ : Value → Shared → Prop} {r : Addr} {a b c : Int} {t u v : Tok} {n : Nat} (hh : A.handled = none) (hr : IsRange s.heap r a b c t u v) (hsmall : Builtin.Range.small a b c = true)
  (hn : Builtin.Range.rangeSize a b c = n) (hlen : n ≤ 2 ^ 24)
  (h : ∀ (h' : Heap) (tk : Nat) (acc : Array Value), (∀ b o, s.heap.get? b = some o → h'.get? b = some o) → ItemsOf (fun i v => ∃ t, v = .int (a + i * c) t) acc n →
   Q₁ (.ref h'.objs.size) { s with heap := h'.push { cls := .type "tuple", data := .seq acc }, toks := tk }) :
  codeAny (model prog w) A (.call (.builtin "tuple.__new__") ⟨[.type "tuple", .ref r], []⟩) (wants Q₁ E) s := by
 refine codeAny_of_tree ?_
 show wpAny _ A.in1 (do checkBuiltinCall "tuple.__new__" ⟨[.type "tuple", .ref r], []⟩; again (.builtin "tuple.__new__" ⟨[.type "tuple", .ref r], []⟩)) _ _ s
 refine wpAny_bind (wpAny_of_eq (PySem.F.newCall_tuple_1 _) (wpAny_pure ⟨plainId_quiet (show plainId "tuple.__new__" = true by decide +kernel) _, codeAny_builtin PySem.F.entry_tuple_new ?_⟩))
 rw [Around.under_plainId (show plainId "tuple.__new__" = true by decide +kernel) _]
 have hsub := sub_tuple_self
 have hinit := init_tuple_lookup
 have hmh := madeHere_tuple
 have hTI : s.TypeIs (.ref r) "range" := ⟨_, hr, rfl⟩
 have hsz : n ≤ sizeLine := by
  have : (16777216 : Nat) = sizeLine := by decide
  omega
 wp_walk using wpAny_typeOf hTI, collect_range (A := A.in1) hh hr hsmall hn hlen
 intro h' tk acc hm hacc
 show wpAny _ _ (Builtin.Tuple.tupleExact acc.toList.toArray >>= fun v => ret v) _ _ _
 unfold Builtin.Tuple.tupleExact
 refine wpAny_bind (wpAny_newObj_type ?_ (by show acc.toList.toArray.size ≤ sizeLine; simp only [Array.toArray_toList]; rw [hacc.1]; exact hsz))
 refine wpAny_pure ?_
 have e : acc.toList.toArray = acc := by simp
 rw [e]
 exact h h' tk acc hm hacc
theorem call_tuple_range {Q : Value → Shared → Prop} {r : Addr} {a b c : Int} {t u v : Tok} {n : Nat} (hh : A.handled = none) (hr : IsRange s.heap r a b c t u v) (hsmall : Builtin.Range.small a b c = true)
  (hn : Builtin.Range.rangeSize a b c = n) (hlen : n ≤ 2 ^ 24)
  (h : ∀ (h' : Heap) (tk : Nat) (acc : Array Value), (∀ b o, s.heap.get? b = some o → h'.get? b = some o) → ItemsOf (fun i v => ∃ t, v = .int (a + i * c) t) acc n →
   Q (.ref h'.objs.size) { s with heap := h'.push { cls := .type "tuple", data := .seq acc }, toks := tk }) :
  wpAny (model prog w) A (call (.type "tuple") [.ref r]) Q E s := by
 refine callType_codes (Q₁ := fun obj s₁ => s₁.TypeIs obj "tuple" ∧ Q obj s₁) PySem.F.called_tuple (PySem.F.typeCall_tuple_1 _) PySem.F.entry_object_init
  (code_tuple_new_range (A := A.in1) hh hr hsmall hn hlen fun h' tk acc hk hacc => ⟨⟨_, Heap.get?_push_size _ rfl, rfl⟩, h h' tk acc hk hacc⟩) fun obj s₁ h₁ => ?_
 exact ⟨h₁.1, PySem.F.args_object_init_2 obj _, object_init_meets PySem.F.called_tuple.init.lookup PySem.F.called_tuple.made (by decide) prog w A.in1 _ s₁ ⟨h₁.1, rfl, h₁.2⟩⟩
end
end PyZ
namespace L2
open PySem PySem.Spec PyProof.Rows
section
variable {X : Cx}
theorem call_tuple_rng (hc : X.calm = true) : CallR X (.type "tuple") (fun xs H Q => ∃ (a : Addr) (lo hi : Int), xs = [.ref a] ∧ H a = some (.rng lo hi) ∧ (-(2 ^ 62) ≤ lo ∧ lo < 2 ^ 62 ∧ -(2 ^ 62) ≤ hi ∧ hi < 2 ^ 62) ∧ (hi - lo).toNat ≤ sizeLine ∧
  ∀ l, H l = none → Q (.ref l) (upd H l (.tup ((rngI lo (hi - lo).toNat).map V.int)))) := by
 intro pins s σ H xs us Q I r h
 obtain ⟨a, lo, hi, rfl, ha, ⟨b1, b2, b3, b4⟩, hz, q⟩ := h
 obtain ⟨u, rfl, ru⟩ := vals1 r
 cases ru
 obtain ⟨t, u, v, e⟩ := (show ∃ t u v, s.heap.get? a = some { cls := .type "range", data := .fields #[.int lo t, .int hi u, .int 1 v] } from I.hok a _ ha)
 refine PyZ.call_tuple_range (n := (hi - lo).toNat) (I.ok.hd hc) e (small_one b1 b2 b3 b4) (by rw [rangeSize_one]; split <;> omega) hz fun h' tk acc hk hit => ?_
 have I1 : Inv X pins σ H { s with heap := h', toks := tk } := I.kept (t' := tk) hk
 have I2 : Inv X pins σ (upd H h'.objs.size (.tup ((rngI lo (hi - lo).toNat).map V.int))) { s with heap := h'.push { cls := .type "tuple", data := .seq acc }, toks := tk } :=
  I1.laid (t' := tk) (fun b o e => Heap.get?_push_of_some _ e) (Nat.le_refl _) (show ObjOk X.prog X.w _ _ _ (.tup ((rngI lo (hi - lo).toNat).map V.int)) from ⟨by rw [List.length_map, rngI_len]; exact hz, acc.toList, vals_rngI hit, by simpa using IsTup.new _ _⟩)
 exact ⟨.ref h'.objs.size, _, I2, rfl, q _ (I1.hok.fresh (Nat.le_refl _))⟩
end
end L2
namespace PyY
open PySem
open AutoSeq1 (wpAny_loadPart')
section
variable {prog : Program} {w : World} {A : Around} {E : Value → Shared → Prop} {s : Shared}
theorem nextT_item {j a : Addr} {k : Nat} {us : Array Value} {y : Value} {Q : Value → Shared → Prop} (c : s.heap.IsTupleIter j a k) (d : s.heap.IsTuple a us) (e : us[k]? = some y)
  (q : ∀ g, g.IsTupleIter j a (k + 1) → Heap.SameBut j s.heap g → Q y { s with heap := g }) : wpAny (model prog w) A (Builtin.SmallTypes.nextOf (.ref j)) Q E s := by
 obtain ⟨oj, hj, cj, dj⟩ := id c
 obtain ⟨oa, ha, _, na, da⟩ := d
 unfold Builtin.SmallTypes.nextOf
 refine wpAny_bind (wpAny_callSpecial?_slot (name := Str.ofString "__next__") c.typeIs F.slot_tuple_iterator_next (wpAny_call_entry F.slot_tuple_iterator_next c.typeIs F.entry_tuple_iterator_next ?_ (F.args_tuple_iterator_next_1 _)))
 show wpAny _ _ (field (.ref j) 0 >>= _) _ _ s
 refine wpAny_bind (wpAny_field hj dj (x := .ref a) rfl ?_)
 show wpAny _ _ (if (Value.ref a == Value.none) = true then _ else _) _ _ s
 rw [if_neg (show ¬ ((Value.ref a == Value.none) = true) from Bool.false_ne_true)]
 show wpAny _ _ (field (.ref j) 1 >>= _) _ _ s
 refine wpAny_bind (wpAny_field hj dj (x := .int k 0) rfl ?_)
 show wpAny _ _ (seqItems? (.ref a) >>= _) _ _ s
 refine wpAny_bind (wpAny_seqItems ha da ?_)
 simp only [Int.toNat_natCast, e]
 refine wpAny_bind (wpAny_setField hj dj (by simp) (wpAny_pure ⟨y, rfl, wpAny_pure (q _ ?_ (Heap.SameBut.update ..))⟩))
 refine ⟨_, Heap.get?_update_self _ hj (Obj.isFreed_of_fields (Obj.data_mapFields dj _)), (Obj.cls_mapFields ..).trans cj, ?_⟩
 rw [Obj.data_mapFields dj]
 simp [rawInt]
theorem nextT_end {j a : Addr} {k : Nat} {us : Array Value} {Q : Value → Shared → Prop} (hn : A.handled = none) (c : s.heap.IsTupleIter j a k) (d : s.heap.IsTuple a us) (e : us[k]? = none)
  (q : ∀ g x, Heap.ExtBut j s.heap g → (∃ o, g.get? x = some o ∧ o.cls = .type "StopIteration") → E (.ref x) { s with heap := g }) : wpAny (model prog w) A (Builtin.SmallTypes.nextOf (.ref j)) Q E s := by
 obtain ⟨oj, hj, cj, dj⟩ := id c
 obtain ⟨oa, ha, _, na, da⟩ := d
 unfold Builtin.SmallTypes.nextOf
 refine wpAny_bind (wpAny_callSpecial?_slot (name := Str.ofString "__next__") c.typeIs F.slot_tuple_iterator_next (wpAny_call_entry F.slot_tuple_iterator_next c.typeIs F.entry_tuple_iterator_next ?_ (F.args_tuple_iterator_next_1 _)))
 show wpAny _ _ (field (.ref j) 0 >>= _) _ _ s
 refine wpAny_bind (wpAny_field hj dj (x := .ref a) rfl ?_)
 show wpAny _ _ (if (Value.ref a == Value.none) = true then _ else _) _ _ s
 rw [if_neg (show ¬ ((Value.ref a == Value.none) = true) from Bool.false_ne_true)]
 show wpAny _ _ (field (.ref j) 1 >>= _) _ _ s
 refine wpAny_bind (wpAny_field hj dj (x := .int k 0) rfl ?_)
 show wpAny _ _ (seqItems? (.ref a) >>= _) _ _ s
 refine wpAny_bind (wpAny_seqItems ha da ?_)
 simp only [Int.toNat_natCast, e]
 refine wpAny_bind (wpAny_rule (wpAny_bind (wpAny_setField hj dj (by simp) ?_)))
 show wpAny _ _ (newExc (.type "StopIteration") [] >>= _) _ _ { s with heap := _ }
 refine wpAny_bind ?_
 unfold newExc newTuple
 refine wpAny_bind (wpAny_newObj_type (Q := _) ?_ (by size_fits))
 refine wpAny_bind (m := firstArgMember _ _) (wpAny_of_eq (a := Value.none) (by first | rfl | (unfold firstArgMember; rfl)) ?_)
 refine wpAny_newObj_type (Q := _) ?_ (by size_fits)
 unfold raiseNew
 refine wpAny_bind (wpAny_handled ?_)
 have hn' : A.in1.handled = none := hn
 rw [hn']
 refine wpAny_bind (wpAny_pure (wpAny_throw (E := E) ?_))
 exact q _ _ (((Heap.SameBut.update ..).extBut.push _).push _) ⟨_, Heap.get?_push_size _ rfl, rfl⟩
theorem enumT_item {n j a : Addr} {k : Nat} {us : Array Value} {y old : Value} {Q : Option Value → Shared → Prop} (b : IsEnum s.heap n j k old) (c : s.heap.IsTupleIter j a k) (d : s.heap.IsTuple a us) (e : us[k]? = some y) (nj : n ≠ j)
  (q : ∀ g, IsEnumOut g n j ((k : Int) + 1) y s.heap.objs.size → g.IsTupleIter j a (k + 1) → g.get? s.heap.objs.size = some { cls := .type "tuple", data := .seq #[.int k s.toks, y] } → g.objs.size = s.heap.objs.size + 1 →
   (∀ x o, x ≠ n → x ≠ j → s.heap.get? x = some o → g.get? x = some o) → Q (some (.ref s.heap.objs.size)) { s with heap := g, toks := s.toks + 1 }) : wpAny (model prog w) A (pyNext (.ref n)) Q E s := by
 have tn : s.TypeIs (.ref n) "enumerate" := ⟨_, b, rfl⟩
 unfold pyNext
 refine wpAny_bind (wpAny_attempt (wpAny_callSpecial?_slot (name := Str.ofString "__next__") tn F.slot_enumerate_next (wpAny_call_entry F.slot_enumerate_next tn F.entry_enumerate_next ?_ (F.args_enumerate_next_1 _))))
 obtain ⟨g0, gs, dr, tk, os⟩ := s
 show wpAny _ _ (field (.ref n) 2 >>= _) _ _ _
 refine wpAny_bind (wpAny_field b rfl (x := .ref j) rfl ?_)
 refine wpAny_bind (nextT_item c d e fun g1 c1 s1 => ?_)
 replace s1 : Heap.SameBut j g0 g1 := s1
 have b1 : IsEnum g1 n j k old := (s1.2 n nj).trans b
 show wpAny _ _ (field (.ref n) 3 >>= _) _ _ ⟨g1, gs, dr, tk, os⟩
 refine wpAny_bind (wpAny_field b1 rfl (x := rawInt k) rfl ?_)
 show wpAny _ _ (field (.ref n) 4 >>= _) _ _ ⟨g1, gs, dr, tk, os⟩
 refine wpAny_bind (wpAny_field b1 rfl (x := .none) rfl ?_)
 show wpAny _ _ (mkInt k >>= _) _ _ ⟨g1, gs, dr, tk, os⟩
 refine wpAny_bind (wpAny_mkInt ?_)
 show wpAny _ _ (setField (.ref n) 3 (rawInt ((k : Int) + 1)) >>= _) _ _ ⟨g1, gs, dr, tk + 1, os⟩
 refine wpAny_bind (wpAny_setField_rec b1 (by simp) fun g2 b2 s2 => ?_)
 replace s2 : Heap.SameBut n g1 g2 := s2
 replace b2 : IsEnum g2 n j ((k : Int) + 1) old := b2
 show wpAny _ _ (setField (.ref n) 4 .none >>= _) _ _ ⟨g2, gs, dr, tk + 1, os⟩
 refine wpAny_bind (wpAny_setField_rec b2 (by simp) fun g3 b3 s3 => ?_)
 replace s3 : Heap.SameBut n g2 g3 := s3
 replace b3 : IsEnum g3 n j ((k : Int) + 1) old := b3
 show wpAny _ _ (newTuple [.int k tk, y] >>= _) _ _ ⟨g3, gs, dr, tk + 1, os⟩
 refine wpAny_bind (wpAny_newTuple ?_)
 have b4 : IsEnum (g3.push { cls := .type "tuple", data := .seq #[.int k tk, y] }) n j ((k : Int) + 1) old := Heap.get?_push_of_some _ b3
 generalize z4 : g3.push { cls := .type "tuple", data := .seq #[.int k tk, y] } = g4 at b4
 have sz : g3.objs.size = g0.objs.size := by rw [s3.1, s2.1, s1.1]
 have nl : n < g0.objs.size := Heap.lt_size b
 have t4 : g4.get? g0.objs.size = some { cls := .type "tuple", data := .seq #[.int k tk, y] } := by
  rw [← z4, ← sz]
  exact Heap.get?_push_size _ rfl
 have w4 : g4.objs.size = g0.objs.size + 1 := by
  rw [← z4, Heap.size_push, sz]
 have k4 : ∀ x o, x ≠ n → x ≠ j → g0.get? x = some o → g4.get? x = some o := fun x o xn xj hx => by
  rw [← z4]
  exact Heap.get?_push_of_some _ (s3.extBut x o xn (s2.extBut x o xn (s1.extBut x o xj hx)))
 have c4 : g4.IsTupleIter j a (k + 1) := by
  obtain ⟨o, ho, r⟩ := (c1.extBut s2.extBut (Ne.symm nj)).extBut s3.extBut (Ne.symm nj)
  rw [← z4]
  exact ⟨o, Heap.get?_push_of_some _ ho, r⟩
 show wpAny _ _ (Builtin.SmallTypes.ownedTupleIsFree (.ref n) >>= _) _ _ ⟨g4, gs, dr, tk + 1, os⟩
 rw [sz]
 clear z4 b3 s3 b2 s2 b1 s1 c1 sz g3 g2 g1
 refine wpAny_bind ?_
 unfold Builtin.SmallTypes.ownedTupleIsFree
 refine wpAny_bind (wpAny_field b4 rfl (x := .none) rfl (wpAny_pure ?_))
 rw [if_pos rfl]
 refine wpAny_bind (wpAny_rule (wpAny_bind (wpAny_field b4 rfl (x := old) rfl ?_)))
 refine wpAny_bind (wpAny_setField_rec b4 (by simp) fun g5 b5 s5 => ?_)
 replace s5 : Heap.SameBut n g4 g5 := s5
 replace b5 : IsEnum g5 n j ((k : Int) + 1) y := b5
 show wpAny _ _ (Builtin.SmallTypes.ownedTupleHandOut (.ref n) (.ref g0.objs.size) >>= _) _ _ ⟨g5, gs, dr, tk + 1, os⟩
 refine wpAny_bind ?_
 unfold Builtin.SmallTypes.ownedTupleHandOut
 refine wpAny_bind (wpAny_setField_rec b5 (by simp) fun g6 b6 s6 => ?_)
 replace s6 : Heap.SameBut n g5 g6 := s6
 replace b6 : IsEnumOut g6 n j ((k : Int) + 1) y g0.objs.size := b6
 refine wpAny_setField_rec b6 (by simp) fun g7 b7 s7 => ?_
 replace s7 : Heap.SameBut n g6 g7 := s7
 replace b7 : IsEnumOut g7 n j ((k : Int) + 1) y g0.objs.size := b7
 refine wpAny_bind (wpAny_letGo (wpAny_pure ⟨_, rfl, wpAny_pure (q g7 b7 ?_ ?_ ?_ ?_)⟩))
 ·exact ((c4.extBut s5.extBut (Ne.symm nj)).extBut s6.extBut (Ne.symm nj)).extBut s7.extBut (Ne.symm nj)
 ·exact s7.extBut _ _ (Nat.ne_of_gt nl) (s6.extBut _ _ (Nat.ne_of_gt nl) (s5.extBut _ _ (Nat.ne_of_gt nl) t4))
 ·rw [s7.1, s6.1, s5.1, w4]
 ·exact fun x o xn xj hx => s7.extBut x o xn (s6.extBut x o xn (s5.extBut x o xn (k4 x o xn xj hx)))
theorem enumT_end {n j a : Addr} {k : Nat} {us : Array Value} {old : Value} {Q : Option Value → Shared → Prop} (hn : A.handled = none) (b : IsEnum s.heap n j k old) (c : s.heap.IsTupleIter j a k) (d : s.heap.IsTuple a us) (e : us[k]? = none)
  (q : ∀ g, Heap.ExtBut j s.heap g → Q none { s with heap := g }) : wpAny (model prog w) A (pyNext (.ref n)) Q E s := by
 have tn : s.TypeIs (.ref n) "enumerate" := ⟨_, b, rfl⟩
 unfold pyNext
 refine wpAny_bind (wpAny_attempt (wpAny_callSpecial?_slot (name := Str.ofString "__next__") tn F.slot_enumerate_next (wpAny_call_entry F.slot_enumerate_next tn F.entry_enumerate_next ?_ (F.args_enumerate_next_1 _))))
 show wpAny _ _ (field (.ref n) 2 >>= _) _ _ _
 refine wpAny_bind (wpAny_field b rfl (x := .ref j) rfl ?_)
 refine wpAny_bind (nextT_end hn c d e fun g x xe xs => ?_)
 obtain ⟨o, ho, hc⟩ := xs
 refine wpAny_bind (wpAny_isInstance (T := "StopIteration") (b := true) ⟨o, ho, hc⟩ isSubtype_stop ?_)
 exact wpAny_pure (q _ xe)
theorem enumT_new (a : Addr) (us : Array Value) (n : Nat) (dd : Option Addr) (sl : Array (Option Value)) :
  Meets (Builtin.«enumerate.__new__» ⟨[.type "enumerate", .ref a], []⟩) (fun _ R s => s.heap.get? a = some { cls := .type "tuple", dict := dd, data := .seq us n, slots := sl } ∧
   R (.ok (.ret (.ref (s.heap.push { cls := .type "tuple_iterator", data := .fields #[.ref a, .int 0 0] }).objs.size)))
    { s with heap := (s.heap.push { cls := .type "tuple_iterator", data := .fields #[.ref a, .int 0 0] }).push { cls := .type "enumerate", data := .fields #[.none, .bool false, .ref s.heap.objs.size, rawInt 0, .none, .none] } }) :=
 .of_wp fun prog w A R s h => by
  obtain ⟨hh, gg, dr, tk, os⟩ := s
  obtain ⟨ha, h⟩ := h
  have sub := sub_enumerate
  have hT : Heap.IsTuple (Shared.heap ⟨hh, gg, dr, tk, os⟩) a us := ⟨_, ha, rfl, n, rfl⟩
  wp_walk using wpAny_loadPart' ha
  refine wpAny_stack_any fun st => wpAny_pure ?_
  split
  ·rename_i c1 _ _ _ _ _
   cases (c1 == Value.type "enumerate") <;> (wp_walk using wpAny_loadPart' ha, wpAny_pyIter_tuple hT) <;> exact ⟨_, rfl, h⟩
  ·wp_walk using wpAny_loadPart' ha, wpAny_pyIter_tuple hT
   exact ⟨_, rfl, h⟩
theorem call_enumT {a : Addr} {us : Array Value} {Q : Value → Shared → Prop} (hT : s.heap.IsTuple a us)
  (h : ∀ g, IsEnum g (s.heap.objs.size + 1) s.heap.objs.size 0 .none → g.IsTupleIter s.heap.objs.size a 0 → g.objs.size = s.heap.objs.size + 2 → (∀ b o, s.heap.get? b = some o → g.get? b = some o) → Q (.ref (s.heap.objs.size + 1)) { s with heap := g }) :
  wpAny (model prog w) A (call (.type "enumerate") [.ref a]) Q E s := by
 obtain ⟨⟨cc, dd, dt, sl⟩, ha, hc, n, hd⟩ := hT
 have hc' : cc = .type "tuple" := hc
 have hd' : dt = .seq us n := hd
 subst hc' hd'
 refine callType_new F.called_enumerate (by decide) (F.typeCall_enumerate_1 _) (F.newCall_enumerate_1 _) (fun obj => F.args_object_init_2 obj _) F.entry_enumerate_new (enumT_new a us n dd sl) ⟨ha, ?_⟩
 have hz : (s.heap.push { cls := .type "tuple_iterator", data := .fields #[.ref a, .int 0 0] }).objs.size = s.heap.objs.size + 1 := Heap.size_push ..
 show _ ∧ _
 rw [hz]
 have he : IsEnum ((s.heap.push { cls := .type "tuple_iterator", data := .fields #[.ref a, .int 0 0] }).push { cls := .type "enumerate", data := .fields #[.none, .bool false, .ref s.heap.objs.size, rawInt 0, .none, .none] }) (s.heap.objs.size + 1) s.heap.objs.size 0 .none := by
  have z := Heap.get?_push_size (s.heap.push { cls := .type "tuple_iterator", data := .fields #[.ref a, .int 0 0] }) (o := { cls := .type "enumerate", data := .fields #[.none, .bool false, .ref s.heap.objs.size, rawInt 0, .none, .none] }) rfl
  rw [hz] at z
  exact z
 exact ⟨⟨_, he, rfl⟩, h _ he ⟨_, Heap.get?_push_of_some _ (Heap.get?_push_size _ rfl), rfl, rfl⟩ (by rw [Heap.size_push, hz]) fun b o y => Heap.get?_push_of_some _ (Heap.get?_push_of_some _ y)⟩
end
end PyY
namespace L2
open PySem PySem.Spec PyProof.Rows
section
variable {X : Cx} {pins : List (Addr × Obj)} {σ : St} {H : Hp} {s : Shared} {h' : Heap}
theorem Inv.turnLay {t' : Nat} {ts : List Addr} {T : Addr} {o : HO} (I : Inv X pins σ H s) (k : ∀ b u, b ∉ ts → s.heap.get? b = some u → h'.get? b = some u) (ht : ∀ b ∈ ts, ∃ u, h'.get? b = some u) (hf : ∀ b ∈ ts, FpOk X pins H b) (hT : s.heap.objs.size ≤ T)
  (new : ObjOk X.prog X.w (upd H T o) h' T o) : Inv X pins σ (upd H T o) { s with heap := h', toks := t' } := by
 have fT : H T = none := I.hok.fresh hT
 have nts : ∀ b u, H b = some u → b ∉ ts := fun b u e z => by
  have := (hf b z).1
  rw [e] at this
  cases this
 refine I.call (ch := ts) (g' := s.gens) (d' := s.drawn) ⟨fun b u e _ _ nx => k b u nx e, fun b u e _ _ nx => ⟨u.slots, k b u nx e⟩, fun b u e n _ => ?_, fun b u e nx => ⟨u, k b u nx e⟩, fun b ys q => ?_, fun b u v q => ?_, fun b ps q => ⟨#[], ?_⟩⟩
  (fun b u e => ?_) I.bare fun b hb => ?_
 ·rw [upd_ne (Nat.ne_of_lt (Nat.lt_of_lt_of_le (Heap.lt_size e) hT))]
  exact n
 ·rw [upd_ne (ne_of_none q fT)]
  exact q
 ·rw [upd_ne (ne_of_none q fT)]
  exact q
 ·rw [upd_ne (ne_of_none q fT), q]
  simp
 ·by_cases hb : b = T
  ·subst hb
   rw [upd_same] at e
   cases e
   exact new
  ·rw [upd_ne hb] at e
   refine (I.hok b u e).stay (fun c v hc q => k c v ?_ q) (fun c r => by rw [upd_ne (ne_of_none r fT)]; exact r) fun c ys r => by rw [upd_ne (ne_of_none r fT)]; exact r
   rcases hc with z | z
   ·rw [z]
    exact nts b u e
   ·exact nts c _ z
 ·obtain ⟨f0, f1, f2, f3, f4, f5⟩ := hf b hb
  exact ⟨f3, f1, f4, f5⟩
theorem Inv.turnedL {t' : Nat} {ts : List Addr} (I : Inv X pins σ H s) (k : ∀ b u, b ∉ ts → s.heap.get? b = some u → h'.get? b = some u) (hf : ∀ b ∈ ts, FpOk X pins H b) : Inv X pins σ H { s with heap := h', toks := t' } := by
 have nts : ∀ b u, H b = some u → b ∉ ts := fun b u e z => by
  have := (hf b z).1
  rw [e] at this
  cases this
 refine I.call (ch := ts) (g' := s.gens) (d' := s.drawn) ⟨fun b u e _ _ nx => k b u nx e, fun b u e _ _ nx => ⟨u.slots, k b u nx e⟩, fun b u e n _ => n, fun b u e nx => ⟨u, k b u nx e⟩, fun b ys q => q, fun b u v q => q, fun b ps q => ⟨#[], by rw [q]; simp⟩⟩
  (fun b u e => ?_) I.bare fun b hb => ?_
 ·refine (I.hok b u e).stay (fun c v hc q => k c v ?_ q) (fun c r => r) fun c ys r => r
  rcases hc with z | z
  ·rw [z]
   exact nts b u e
  ·exact nts c _ z
 ·obtain ⟨f0, f1, f2, f3, f4, f5⟩ := hf b hb
  exact ⟨f3, f1, f4, f5⟩
end
def Itle (K : PySem.W.Frag) (a : Addr) : It :=
 ⟨fun i H => ∃ xs x, SqL K H a xs ∧ xs[i]? = some x, fun i H x H' => ∃ T y, x = .ref T ∧ H T = none ∧ H' = upd H T (.tup [.int i, y]) ∧ ∀ xs, SqL K H a xs → xs[i]? = some y, fun i H => ∃ xs, SqL K H a xs ∧ xs.length ≤ i⟩
def Itte (K : PySem.W.Frag) (a : Addr) : It :=
 ⟨fun i H => ∃ xs x, SqT K H a xs ∧ xs[i]? = some x, fun i H x H' => ∃ T y, x = .ref T ∧ H T = none ∧ H' = upd H T (.tup [.int i, y]) ∧ ∀ xs, SqT K H a xs → xs[i]? = some y, fun i H => ∃ xs, SqT K H a xs ∧ xs.length ≤ i⟩
theorem turn_enumL {P : Program} {w : World} {K : PySem.W.Frag} {elts : List Expr} {x1} {pos : Pos} (a e it : Addr) (ne : e ≠ it) :
  Turn P w K (.Tuple elts x1 pos) (Itle K a) [e, it] e (fun i h => (∃ old, IsEnum h e it i old) ∧ h.IsListIter it a i) where
 mem := by simp
 obj := fun i h st b hb => by
  obtain ⟨⟨old, se⟩, ⟨o, e1, c, d⟩⟩ := st
  rcases List.mem_cons.mp hb with rfl | hb
  ·exact ⟨_, se, fun v z => by
    have z' : Data.fields _ = Data.cell v := z
    cases z'⟩
  ·have q : b = it := by simpa using hb
   subst q
   exact ⟨o, e1, fun v z => by rw [d] at z; cases z⟩
 keep := fun i h h' st k => by
  obtain ⟨⟨old, se⟩, si⟩ := st
  exact ⟨⟨old, k e (by simp) _ se⟩, si.at fun o q => k it (by simp) o q⟩
 item := by
  intro X hP hw hK hc i pins s σ H E I hf st hg
  subst hP hw hK
  obtain ⟨⟨old, se⟩, si⟩ := st
  obtain ⟨xs, x, hq, hx⟩ := hg
  obtain ⟨its, rv, p, hz⟩ := I.list hq
  obtain ⟨u, hu, ru⟩ := rv.get hx
  refine wpAny_pyNext_enum_item se si p.isList (x := u) (by simpa using hu) ne fun h1 ho hi1 hT hsz hk => ?_
  refine ⟨_, rfl, wpAny_letOwnedTupleGo_enum ho fun h2 he2 hs2 => ?_⟩
  have le : e < s.heap.objs.size := Heap.lt_size se
  have hs3 : Heap.SameBut e h1 h2 := hs2
  have hT2 : h2.get? s.heap.objs.size = some { cls := .type "tuple", data := .seq #[.int i s.toks, u] } := (hs3.2 _ (Nat.ne_of_gt le)).trans hT
  have hi2 : h2.IsListIter it a (i + 1) := hi1.at fun o q => (hs3.2 it (Ne.symm ne)).trans q
  have he3 : IsEnum h2 e it ((i + 1 : Nat) : Int) u := by
   have := he2
   simpa using this
  have nT : H s.heap.objs.size = none := I.hok.fresh (Nat.le_refl _)
  have I2 := I.turnLay (t' := s.toks + 1) (h' := h2) (ts := [e, it]) (T := s.heap.objs.size) (o := .tup [.int i, x]) (fun b v hb q => ?_) (fun b hb => ?_) hf (Nat.le_refl _) ⟨by show 2 ≤ sizeLine; decide, [.int i s.toks, u], .cons ⟨_, rfl⟩ (.cons ru .nil), _, hT2, rfl, 0, rfl⟩
  ·refine ⟨.ref s.heap.objs.size, _, I2, rfl, ⟨_, x, rfl, nT, rfl, fun ys hy => by rw [I.list_inj hy hq]; exact hx⟩, ⟨⟨u, he3⟩, hi2⟩, fun b hb => ?_⟩
   have fb := (hf b hb).1
   have lb : b < s.heap.objs.size := by
    rcases List.mem_cons.mp hb with rfl | hb
    ·exact le
    ·have q : b = it := by simpa using hb
     subst q
     obtain ⟨o, e1, _⟩ := si
     exact Heap.lt_size e1
   rw [upd_ne (Nat.ne_of_lt lb)]
   exact fb
  ·have q1 : b ≠ e := fun z => hb (by simp [z])
   have q2 : b ≠ it := fun z => hb (by simp [z])
   exact (hs3.2 b q1).trans (hk b v q1 q2 q)
  ·rcases List.mem_cons.mp hb with rfl | hb
   ·exact ⟨_, he3⟩
   ·have q : b = it := by simpa using hb
    subst q
    obtain ⟨o, e1, _⟩ := hi2
    exact ⟨o, e1⟩
 done := by
  intro X hP hw hK hc i pins s σ H E I hf st hg
  subst hP hw hK
  obtain ⟨⟨old, se⟩, si⟩ := st
  obtain ⟨xs, hq, hx⟩ := hg
  obtain ⟨its, rv, p, hz⟩ := I.list hq
  have hl := rv.length
  exact wpAny_pyNext_enum_end (I.ok.hd hc) se si p.isList (by simp; omega) fun h1 eb => ⟨rfl, I.turnedL (t' := s.toks) (ts := [e, it]) (fun b o hb q => eb b o (fun z => hb (by simp [z])) q) hf⟩
 self := fun _ _ _ _ _ st h => by
  obtain ⟨⟨old, se⟩, si⟩ := st
  exact wpAny_pyIter_enum se h
theorem turn_enumT {P : Program} {w : World} {K : PySem.W.Frag} {elts : List Expr} {x1} {pos : Pos} (a e it : Addr) (ne : e ≠ it) :
  Turn P w K (.Tuple elts x1 pos) (Itte K a) [e, it] e (fun i h => (∃ old, IsEnum h e it i old) ∧ h.IsTupleIter it a i) where
 mem := by simp
 obj := fun i h st b hb => by
  obtain ⟨⟨old, se⟩, ⟨o, e1, c, d⟩⟩ := st
  rcases List.mem_cons.mp hb with rfl | hb
  ·exact ⟨_, se, fun v z => by
    have z' : Data.fields _ = Data.cell v := z
    cases z'⟩
  ·have q : b = it := by simpa using hb
   subst q
   exact ⟨o, e1, fun v z => by rw [d] at z; cases z⟩
 keep := fun i h h' st k => by
  obtain ⟨⟨old, se⟩, si⟩ := st
  exact ⟨⟨old, k e (by simp) _ se⟩, si.at fun o q => k it (by simp) o q⟩
 item := by
  intro X hP hw hK hc i pins s σ H E I hf st hg
  subst hP hw hK
  obtain ⟨⟨old, se⟩, si⟩ := st
  obtain ⟨xs, x, hq, hx⟩ := hg
  obtain ⟨its, rv, p, hz⟩ := I.tuple hq
  obtain ⟨u, hu, ru⟩ := rv.get hx
  refine PyY.enumT_item se si (show s.heap.IsTuple a its.toArray from p) (y := u) (by simpa using hu) ne fun h1 ho hi1 hT hsz hk => ?_
  refine ⟨_, rfl, wpAny_letOwnedTupleGo_enum ho fun h2 he2 hs2 => ?_⟩
  have le : e < s.heap.objs.size := Heap.lt_size se
  have hs3 : Heap.SameBut e h1 h2 := hs2
  have hT2 : h2.get? s.heap.objs.size = some { cls := .type "tuple", data := .seq #[.int i s.toks, u] } := (hs3.2 _ (Nat.ne_of_gt le)).trans hT
  have hi2 : h2.IsTupleIter it a (i + 1) := hi1.at fun o q => (hs3.2 it (Ne.symm ne)).trans q
  have he3 : IsEnum h2 e it ((i + 1 : Nat) : Int) u := by
   have := he2
   simpa using this
  have nT : H s.heap.objs.size = none := I.hok.fresh (Nat.le_refl _)
  have I2 := I.turnLay (t' := s.toks + 1) (h' := h2) (ts := [e, it]) (T := s.heap.objs.size) (o := .tup [.int i, x]) (fun b v hb q => ?_) (fun b hb => ?_) hf (Nat.le_refl _) ⟨by show 2 ≤ sizeLine; decide, [.int i s.toks, u], .cons ⟨_, rfl⟩ (.cons ru .nil), _, hT2, rfl, 0, rfl⟩
  ·refine ⟨.ref s.heap.objs.size, _, I2, rfl, ⟨_, x, rfl, nT, rfl, fun ys hy => by rw [I.tuple_inj hy hq]; exact hx⟩, ⟨⟨u, he3⟩, hi2⟩, fun b hb => ?_⟩
   have fb := (hf b hb).1
   have lb : b < s.heap.objs.size := by
    rcases List.mem_cons.mp hb with rfl | hb
    ·exact le
    ·have q : b = it := by simpa using hb
     subst q
     obtain ⟨o, e1, _⟩ := si
     exact Heap.lt_size e1
   rw [upd_ne (Nat.ne_of_lt lb)]
   exact fb
  ·have q1 : b ≠ e := fun z => hb (by simp [z])
   have q2 : b ≠ it := fun z => hb (by simp [z])
   exact (hs3.2 b q1).trans (hk b v q1 q2 q)
  ·rcases List.mem_cons.mp hb with rfl | hb
   ·exact ⟨_, he3⟩
   ·have q : b = it := by simpa using hb
    subst q
    obtain ⟨o, e1, _⟩ := hi2
    exact ⟨o, e1⟩
 done := by
  intro X hP hw hK hc i pins s σ H E I hf st hg
  subst hP hw hK
  obtain ⟨⟨old, se⟩, si⟩ := st
  obtain ⟨xs, hq, hx⟩ := hg
  obtain ⟨its, rv, p, hz⟩ := I.tuple hq
  have hl := rv.length
  exact PyY.enumT_end (I.ok.hd hc) se si (show s.heap.IsTuple a its.toArray from p) (by simp; omega) fun h1 eb => ⟨rfl, I.turnedL (t' := s.toks) (ts := [e, it]) (fun b o hb q => eb b o (fun z => hb (by simp [z])) q) hf⟩
 self := fun _ _ _ _ _ st h => by
  obtain ⟨⟨old, se⟩, si⟩ := st
  exact wpAny_pyIter_enum se h
section
variable {X : Cx}
def iEnum (K : PySem.W.Frag) (ta : TA) : TI := fun σ H R => ta σ H fun vs H1 => ∃ a, vs = [.ref a] ∧ (((∃ xs, SqL K H1 a xs) ∧ R (Itle K a) H1) ∨ ((∃ xs, SqT K H1 a xs) ∧ R (Itte K a) H1))
theorem enums {elts : List Expr} {x1} {pt : Pos} {l : Expr} {ta : TA} {p pos : Pos} (hm : X.mg "enumerate" = none) (ha : PA X [l] ta) (hg : isGlob X.env.scope "enumerate" = true := by kernel_rfl) (hs : starEach [l] X.env = [(false, eval l X.env)] := by rfl) :
  PI X (.Tuple elts x1 pt) (.Call (.Name "enumerate" p) [l] [] pos) (iEnum X.K ta) := by
 intro pins s σ H R I h
 refine Call_ (ld_blt I (gl_of hg) hm (show bootBuiltins "enumerate" = some (.type "enumerate") by kernel_rfl) (PyProof.Rows.callWith_type1 (thn (ha pos pins s σ H _ I h) fun us s1 ⟨vs, H1, I1, r1, q1⟩ => ?_) hs rfl))
 obtain ⟨a, e, q⟩ := q1
 subst e
 cases r1 with
 | cons r rr =>
  cases rr
  cases (show _ = Value.ref a from r)
  have sz : ∀ b, b ∈ [s1.heap.objs.size + 1, s1.heap.objs.size] → s1.heap.objs.size ≤ b := fun b hb => by
   rcases List.mem_cons.mp hb with rfl | hb
   ·exact Nat.le_succ _
   ·have : b = s1.heap.objs.size := by simpa using hb
    rw [this]
    exact Nat.le_refl _
  rcases q with ⟨⟨xs, hq⟩, q⟩ | ⟨⟨xs, hq⟩, q⟩
  ·obtain ⟨its, rv, p, hz⟩ := I1.list hq
   refine call_enumerate_list p.isList fun g ge gi gs gk => ?_
   refine wpAny_pyIter_enum ge ?_
   exact ⟨_, [s1.heap.objs.size + 1, s1.heap.objs.size], _, _, H1, rfl, I1.kept (t' := s1.toks) gk, turn_enumL a _ _ (Nat.ne_of_gt (Nat.lt_succ_self _)), ⟨⟨_, ge⟩, gi⟩, fun b hb => I1.fpOk (sz b hb) (I1.hok.fresh (sz b hb)), q⟩
  ·obtain ⟨its, rv, p, hz⟩ := I1.tuple hq
   refine PyY.call_enumT (show s1.heap.IsTuple a its.toArray from p) fun g ge gi gs gk => ?_
   refine wpAny_pyIter_enum ge ?_
   exact ⟨_, [s1.heap.objs.size + 1, s1.heap.objs.size], _, _, H1, rfl, I1.kept (t' := s1.toks) gk, turn_enumT a _ _ (Nat.ne_of_gt (Nat.lt_succ_self _)), ⟨⟨_, ge⟩, gi⟩, fun b hb => I1.fpOk (sz b hb) (I1.hok.fresh (sz b hb)), q⟩
theorem enumK (K : PySem.W.Frag) {elts : List Expr} {x1} {pt : Pos} {l : Expr} {ta : TA} {p pos : Pos} (hm : X.mg "enumerate" = none) (ha : PA X [l] ta) (hK : X.K = K := by rfl) (hg : isGlob X.env.scope "enumerate" = true := by kernel_rfl) (hs : starEach [l] X.env = [(false, eval l X.env)] := by rfl) :
  PI X (.Tuple elts x1 pt) (.Call (.Name "enumerate" p) [l] [] pos) (iEnum K ta) := hK ▸ enums hm ha hg hs
end
structure EnIt (J : It) (At : Hp → Prop) (xs : List V) : Prop where
 go : ∀ i H, At H → i < xs.length → J.go i H
 yld : ∀ i H x H2, At H → J.yld i H x H2 → ∃ T y, x = .ref T ∧ H T = none ∧ H2 = upd H T (.tup [.int i, y]) ∧ xs[i]? = some y
 stop : ∀ i H, At H → xs.length ≤ i → J.stop i H
theorem en_tup {K : PySem.W.Frag} {a : Addr} {xs : List V} : EnIt (Itte K a) (fun H => SqT K H a xs) xs :=
 ⟨fun i H h hi => ⟨xs, xs[i], h, by simp [hi]⟩, fun i H x H2 h hy => by
  obtain ⟨T, y, e, hT, e2, q⟩ := hy
  exact ⟨T, y, e, hT, e2, q xs h⟩, fun i H h hi => ⟨xs, h, hi⟩⟩
theorem for_enum {J : It} {g : TG} {tb : TS} {D : Ends} {σ : St} {H : Hp} {At : Hp → Prop} {xs : List V} (S : EnIt J At xs) (Pv : Nat → St → Hp → Prop) (h0 : Pv 0 σ H) (hS : ∀ i σ H, Pv i σ H → At H)
  (hs : ∀ (i : Nat) y σ H T, xs[i]? = some y → Pv i σ H → H T = none → g (.ref T) σ (upd H T (.tup [.int i, y])) fun σ2 H2 => tb { D with nx := Pv (i + 1), ct := Pv (i + 1), bk := D.nx } σ2 H2) (hd : ∀ σ H, Pv xs.length σ H → D.nx σ H) :
  ∃ W : Nat → Nat → St → Hp → Prop, (∃ m, W 0 m σ H) ∧ ∀ i m σ H, W i m σ H →
   (J.stop i H ∧ D.nx σ H) ∨ (J.go i H ∧ ∃ N : St → Hp → Prop, (∀ σ' H', N σ' H' → ∃ m', m' < m ∧ W (i + 1) m' σ' H') ∧ ∀ x H', J.yld i H x H' → g x σ H' fun σ2 H2 => tb { D with nx := N, ct := N, bk := D.nx } σ2 H2) := by
 refine ⟨fun i m σ H => m = xs.length - i ∧ i ≤ xs.length ∧ Pv i σ H, ⟨_, rfl, Nat.zero_le _, h0⟩, ?_⟩
 rintro i m σ H ⟨rfl, hi, p⟩
 have s := hS i σ H p
 by_cases hlt : i < xs.length
 ·refine .inr ⟨S.go i H s hlt, Pv (i + 1), fun σ' H' p' => ⟨xs.length - (i + 1), by omega, rfl, hlt, p'⟩, fun x H' hy => ?_⟩
  obtain ⟨T, y, rfl, hT, rfl, hx⟩ := S.yld i H x H' s hy
  exact hs i y σ H T hx p hT
 ·have e : i = xs.length := by omega
  subst e
  exact .inl ⟨S.stop _ H s (Nat.le_refl _), hd σ H p⟩
theorem g2 (K : PySem.W.Frag) (i j : Nat) {X : Cx} {x y : Str} {k} {px py pos : Pos} (hc : X.calm = true) (hx : PG X (.Name x px) (gName i)) (hy : PG X (.Name y py) (gName j)) (hK : X.K = K := by rfl)
  (hn : (assignEach [.Name x px, .Name y py] X.env).length = 2 := by rfl) (hst : (assignEach [.Name x px, .Name y py] X.env).findIdx? (·.1) = none := by rfl) :
  PG X (.Tuple [.Name x px, .Name y py] k pos) (gTup K 2 (gCons (gName i) (gCons (gName j) gNil))) := hK ▸ pg_tup hc (pgs_cons hx (pgs_cons hy pgs_nil)) hn hst
end L2
namespace Pm
open PySem L2 PySem.Spec PyProof.Rows
open Tb
def nV (k : Nat) : V := .int (k : Int)
def GT (H : Hp) (g : Addr) (t : List (List Nat)) : Prop := ∃ rs : List Addr, H g = some (.tup (rs.map V.ref)) ∧ rs.length = t.length ∧ ∀ (i : Nat) r, rs[i]? = some r → Tz H r ((t.getD i []).map nV)
theorem GT.mono {H H' : Hp} {g : Addr} {t : List (List Nat)} (s : Same H H') (G : GT H g t) : GT H' g t := by
 obtain ⟨rs, h1, h2, h3⟩ := G
 exact ⟨rs, s _ _ h1, h2, fun i r hr => (h3 i r hr).mono s⟩
theorem row_len {t : List (List Nat)} (P : PW t) {a : Nat} (ha : a < t.length) : (t.getD a []).length = t.length := by
 refine P.len _ ?_
 rw [List.getD_eq_getElem?_getD, List.getElem?_eq_getElem ha]
 exact List.getElem_mem ha
theorem row_at {t : List (List Nat)} (P : PW t) {a b : Nat} (ha : a < t.length) (hb : b < t.length) : ((t.getD a []).map nV)[b]? = some (.int (mul t a b : Nat)) := by
 have hl := row_len P ha
 unfold mul
 generalize t.getD a [] = row at *
 rw [List.getElem?_map, List.getElem?_eq_getElem (show b < row.length by omega), List.getD_eq_getElem?_getD, List.getElem?_eq_getElem (show b < row.length by omega)]
 rfl
theorem GT.at {H : Hp} {g : Addr} {t : List (List Nat)} (G : GT H g t) (P : PW t) {a : Nat} (ha : a < t.length) : ∃ (rs : List Addr) (r : Addr), H g = some (.tup (rs.map V.ref)) ∧ rs.length = t.length ∧ atI (rs.map V.ref) (a : Int) = some (.ref r) ∧ Tz H r ((t.getD a []).map nV) ∧ ∀ b, b < t.length → atI ((t.getD a []).map nV) (b : Int) = some (.int (mul t a b : Nat)) := by
 obtain ⟨rs, h1, h2, h3⟩ := G
 have hr : rs[a]? = some (rs[a]'(by omega)) := List.getElem?_eq_getElem (by omega)
 exact ⟨rs, _, h1, h2, atI_nat (by rw [List.getElem?_map, hr]; rfl), h3 a _ hr, fun b hb => atI_nat (row_at P ha hb)⟩
def RowsAt (H : Hp) (L : Addr) (rs : List Addr) (f : Nat → List Nat) : Prop := H L = some (.lst (rs.map V.ref)) ∧ ∀ (i : Nat) r, rs[i]? = some r → Tz H r ((f i).map nV)
theorem ixN_natC {n i : Nat} (h : i < n) : ixN n (i : Int) = some i := by
 unfold ixN
 rw [if_pos (Int.natCast_nonneg _), if_pos (by omega), Int.toNat_natCast]
theorem era_perm {α : Type} : ∀ (l : List α) (i : Nat) (h : i < l.length), (l[i] :: l.eraseIdx i).Perm l
 | x :: l, 0, h => List.Perm.refl _
 | x :: l, i + 1, h => by
  show ((l[i]'(Nat.lt_of_succ_lt_succ h)) :: x :: l.eraseIdx i).Perm (x :: l)
  exact (List.Perm.swap x _ _).trans (List.Perm.cons x (era_perm l i (Nat.lt_of_succ_lt_succ h)))
theorem ord_of {n : Nat} {os : List Nat} (n1 : 1 ≤ n) (p : os.Perm (List.range n)) (h0 : os[0]? = some 0) : Ord n os := by
 refine ⟨by rw [p.length_eq, List.length_range], p.nodup_iff.mpr List.nodup_range, fun v hv => p.mem_iff.mpr (List.mem_range.mpr hv), fun v hv => List.mem_range.mp (p.mem_iff.mp hv), ?_⟩
 rw [List.getD_eq_getElem?_getD, h0]
 rfl
theorem nV_get {xs : List Nat} {i : Nat} {y : V} (h : (xs.map nV)[i]? = some y) : ∃ k, xs[i]? = some k ∧ y = .int (k : Nat) := by
 rw [List.getElem?_map] at h
 cases e : xs[i]? with
 | none => rw [e] at h; cases h
 | some k => rw [e] at h; exact ⟨k, rfl, (Option.some.inj h).symm⟩
def aft (f g : List Nat) : List Nat := g.map fun i => f.getD i 0
def nI (xs : List Nat) : List Int := xs.map fun k : Nat => ((k : Nat) : Int)
theorem nI_V (xs : List Nat) : (nI xs).map V.int = xs.map nV := by unfold nI; rw [List.map_map]; rfl
def TupsAt (H : Hp) (L : Addr) (bs : List Addr) (yss : List (List Nat)) : Prop := H L = some (.lst (bs.map V.ref)) ∧ bs.length = yss.length ∧ ∀ (i : Nat) b, bs[i]? = some b → H b = some (.tup ((yss.getD i []).map nV))
theorem TupsAt.mono {H H' : Hp} {L : Addr} {bs : List Addr} {yss : List (List Nat)} (s : Same H H') (R : TupsAt H L bs yss) : TupsAt H' L bs yss := ⟨s _ _ R.1, R.2.1, fun i b hb => s _ _ (R.2.2 i b hb)⟩
theorem TupsAt.push {H : Hp} {L : Addr} {bs : List Addr} {yss : List (List Nat)} {b : Addr} {ys : List Nat} (R : TupsAt H L bs yss) (h : H b = some (.tup (ys.map nV))) : TupsAt (upd H L (.lst (bs.map V.ref ++ [.ref b]))) L (bs ++ [b]) (yss ++ [ys]) := by
 have ne : ∀ {b ys}, H b = some (.tup ys) → upd H L (.lst (bs.map V.ref ++ [.ref b])) b = some (.tup ys) := fun {b ys} hb => by
  rw [upd_ne (fun z => by rw [z, R.1] at hb; cases hb)]
  exact hb
 refine ⟨by rw [upd_same, List.map_append]; rfl, by rw [List.length_append, List.length_append, R.2.1]; rfl, fun i c hc => ?_⟩
 have nb : c ≠ L → upd H L (.lst (bs.map V.ref ++ [.ref b])) c = H c := fun z => upd_ne z
 by_cases hi : i < bs.length
 ·rw [List.getElem?_append_left hi] at hc
  have := R.2.2 i c hc
  rw [nb (fun z => by rw [z, R.1] at this; cases this), List.getD_eq_getElem?_getD, List.getElem?_append_left (by rw [← R.2.1]; exact hi), ← List.getD_eq_getElem?_getD]
  exact this
 ·rw [List.getElem?_append_right (by omega)] at hc
  have e0 : i - bs.length = 0 := by
   apply Classical.byContradiction
   intro z
   rw [List.getElem?_eq_none (by rw [List.length_singleton]; omega)] at hc
   cases hc
  rw [e0] at hc
  cases hc
  have : i = yss.length := by rw [← R.2.1]; omega
  rw [nb (fun z => by rw [z, R.1] at h; cases h), this, List.getD_eq_getElem?_getD, List.getElem?_append_right (Nat.le_refl _), Nat.sub_self]
  exact h
theorem rd_tupN {K : PySem.W.Frag} {H : Hp} : ∀ (bs : List Addr) (yss : List (List Nat)), bs.length = yss.length → (∀ (j : Nat) b, bs[j]? = some b → H b = some (.tup ((yss.getD j []).map nV))) → RdDs K H (bs.map V.ref) (yss.map fun ns => PyData.tuple ((nI ns).map PyData.int))
 | [], [], _, _ => .nil
 | [], _ :: _, h, _ => by cases h
 | _ :: _, [], h, _ => by cases h
 | b :: bs, y :: yss, h, g => by
  have hb := g 0 b rfl
  have hb' : H b = some (.tup ((nI y).map V.int)) := by rw [nI_V]; exact hb
  exact .cons (.tup (.of hb') (RdDs.ints _)) (rd_tupN bs yss (Nat.succ.inj h) fun j b' hj => g (j + 1) b' hj)
theorem nI_inj {a b : List Nat} : nI a = nI b ↔ a = b := by
 constructor
 ·intro h
  unfold nI at h
  exact (List.map_inj_right (fun x y e => by exact Int.ofNat.inj e)).mp h
 ·intro h; rw [h]
theorem eqvTN (a b : List Nat) : PyData.eqv (.tuple ((nI a).map PyData.int)) (.tuple ((nI b).map PyData.int)) = decide (a = b) := by
 have : PyData.eqv (.tuple ((nI a).map PyData.int)) (.tuple ((nI b).map PyData.int)) = decide (nI a = nI b) := by
  show PyData.eqvAll _ _ = _
  exact PySem.W.ked_eqvAll _ _
 rw [this, decide_eq_decide]
 exact nI_inj
theorem any_contains (yss : List (List Nat)) (o : List Nat) : ((yss.map fun ns => PyData.tuple ((nI ns).map PyData.int)).any fun y => y.eqv (.tuple ((nI o).map PyData.int))) = yss.contains o := by
 rw [List.any_map, List.contains_eq_any_beq]
 congr 1
 funext y
 show PyData.eqv _ _ = (o == y)
 rw [eqvTN]
 by_cases h : y = o
 ·rw [decide_eq_true h, h, beq_self_eq_true]
 ·rw [decide_eq_false h]
  exact (beq_eq_false_iff_ne.mpr (fun z => h z.symm)).symm
def fAft (cur : List Nat) : V → V
 | .int z => nV (cur.getD z.toNat 0)
 | y => y
theorem fAft_map (cur g : List Nat) : (g.map nV).map (fAft cur) = (aft cur g).map nV := by
 unfold aft
 rw [List.map_map, List.map_map]
 refine List.map_congr_left fun b _ => ?_
 show nV (cur.getD (b : Int).toNat 0) = nV (cur.getD b 0)
 rw [Int.toNat_natCast]
def tabP (srt : List (List Nat)) : List (List Nat) := srt.map fun a => srt.map fun b => srt.findIdx (· == aft a b)
def Gk (k : Nat) (y : List Nat) : Prop := y.length = k ∧ ∀ x ∈ y, x < k
theorem aft_good {k : Nat} {a g : List Nat} (ha : Gk k a) (hg : Gk k g) : Gk k (aft a g) := by
 unfold aft
 refine ⟨by rw [List.length_map]; exact hg.1, fun x hx => ?_⟩
 obtain ⟨i, hi, rfl⟩ := List.mem_map.mp hx
 have h1 := hg.2 i hi
 have h2 := ha.1
 rw [List.getD_eq_getElem?_getD, List.getElem?_eq_getElem (show i < a.length by omega)]
 exact ha.2 _ (List.getElem_mem _)
theorem TupsAt.get {H : Hp} {L : Addr} {bs : List Addr} {yss : List (List Nat)} (R : TupsAt H L bs yss) {i : Nat} (hi : i < yss.length) : ∃ b, bs[i]? = some b ∧ atI (bs.map V.ref) (i : Int) = some (.ref b) ∧ H b = some (.tup ((yss.getD i []).map nV)) := by
 have hb : i < bs.length := by rw [R.2.1]; exact hi
 have e : bs[i]? = some bs[i] := List.getElem?_eq_getElem hb
 exact ⟨_, e, atI_nat (by rw [List.getElem?_map, e]; rfl), R.2.2 i _ e⟩
theorem TupsAt.ref {H : Hp} {L : Addr} {bs : List Addr} {yss : List (List Nat)} (R : TupsAt H L bs yss) {i : Nat} {y : V} (h : (bs.map V.ref)[i]? = some y) : ∃ b, y = .ref b ∧ i < yss.length ∧ H b = some (.tup ((yss.getD i []).map nV)) := by
 rw [List.getElem?_map] at h
 cases e : bs[i]? with
 | none => rw [e] at h; cases h
 | some b =>
  rw [e] at h
  refine ⟨b, (Option.some.inj h).symm, ?_, R.2.2 i b e⟩
  rw [← R.2.1]
  exact (List.getElem?_eq_some_iff.mp e).1
theorem getL {yss : List (List Nat)} {i : Nat} (h : i < yss.length) : yss[i]? = some (yss.getD i []) := by
 rw [List.getD_eq_getElem?_getD, List.getElem?_eq_getElem h]
 rfl
theorem memL {yss : List (List Nat)} {i : Nat} (h : i < yss.length) : yss.getD i [] ∈ yss := List.mem_of_getElem? (getL h)
theorem nv_at {xs : List Nat} {i : Nat} (h : i < xs.length) : atI (xs.map nV) (i : Int) = some (nV (xs.getD i 0)) := atI_nat (by rw [List.getElem?_map, List.getElem?_eq_getElem h, List.getD_eq_getElem?_getD, List.getElem?_eq_getElem h]; rfl)
def nestN : List (List Nat) → Hp → (List V → Hp → Prop) → Prop
 | [], H, Q => Q [] H
 | x :: r, H, Q => (x.map nV).length ≤ sizeLine ∧ ∀ p, H p = none → nestN r (upd H p (.tup (x.map nV))) fun vs H2 => Q (.ref p :: vs) H2
theorem nestN_intro : ∀ (xss : List (List Nat)) (H : Hp) (Q : List V → Hp → Prop), (∀ x ∈ xss, x.length ≤ 1000) →
  (∀ (bs : List Addr) (H' : Hp), Same H H' → bs.length = xss.length → (∀ (i : Nat) b, bs[i]? = some b → H' b = some (.tup ((xss.getD i []).map nV))) → Q (bs.map V.ref) H') → nestN xss H Q
 | [], H, Q, _, q => q [] H (Same.refl _) rfl fun i b hb => by cases hb
 | x :: r, H, Q, hl, q => by
  have sz : (16777216 : Nat) = sizeLine := by decide
  refine ⟨?_, fun p hp => nestN_intro r _ _ (fun y hy => hl y (List.mem_cons_of_mem _ hy)) fun bs H' s' hb hi => ?_⟩
  ·have := hl x List.mem_cons_self
   rw [List.length_map]
   omega
  ·refine q (p :: bs) H' ((Same.upd hp).trans s') (by rw [List.length_cons, List.length_cons, hb]) fun i b hib => ?_
   cases i with
   | zero =>
    cases hib
    exact s' _ _ upd_same
   | succ i => exact hi i b hib
def nestL : List (List (List Nat)) → Hp → (List V → Hp → Prop) → Prop
 | [], H, Q => Q [] H
 | xss :: r, H, Q => nestN xss H fun vs H1 => vs.length ≤ sizeLine ∧ ∀ p, H1 p = none → nestL r (upd H1 p (.lst vs)) fun us H2 => Q (.ref p :: us) H2
theorem nestL_intro : ∀ (xsss : List (List (List Nat))) (H : Hp) (Q : List V → Hp → Prop), (∀ xss ∈ xsss, xss.length ≤ 1000 ∧ ∀ x ∈ xss, x.length ≤ 1000) →
  (∀ (ls : List Addr) (H' : Hp), Same H H' → ls.length = xsss.length → (∀ (i : Nat) l, ls[i]? = some l → H l = none ∧ ∃ bs, TupsAt H' l bs (xsss.getD i [])) → Q (ls.map V.ref) H') → nestL xsss H Q
 | [], H, Q, _, q => q [] H (Same.refl _) rfl fun i b hb => by cases hb
 | xss :: r, H, Q, hl, q => by
  have sz : (16777216 : Nat) = sizeLine := by decide
  obtain ⟨h1, h2⟩ := hl xss List.mem_cons_self
  refine nestN_intro xss H _ h2 fun bs H1 s1 hb hi => ⟨by rw [List.length_map]; omega, fun p hp => nestL_intro r _ _ (fun y hy => hl y (List.mem_cons_of_mem _ hy)) fun ls H' s' hls hi' => ?_⟩
  have s2 := s1.trans (Same.upd (o := .lst (bs.map V.ref)) hp)
  refine q (p :: ls) H' (s2.trans s') (by rw [List.length_cons, List.length_cons, hls]) fun i l hil => ?_
  cases i with
  | zero =>
   cases hil
   refine ⟨s1.free hp, bs, TupsAt.mono s' ⟨upd_same, hb, fun i b hib => ?_⟩⟩
   exact Same.upd (o := .lst (bs.map V.ref)) hp _ _ (hi i b hib)
  | succ i =>
   obtain ⟨h3, h4⟩ := hi' i l hil
   exact ⟨s2.free h3, h4⟩
section
variable {X : Cx}
def teT (x : List Nat) : TE := fun _ H Q => (x.map nV).length ≤ sizeLine ∧ ∀ p, H p = none → Q (.ref p) (upd H p (.tup (x.map nV)))
theorem pe_tupN (x : List Nat) {es : List Expr} {t : TA} {x1} {pos : Pos} (h : PA X es t) (e : t = fun _ H Q => Q (x.map nV) H) : PE X (.Tuple es x1 pos) (teT x) := by
 subst e
 exact pe_tup h
def taN (xss : List (List Nat)) : TA := fun _ H Q => nestN xss H Q
theorem pan_nil : PA X [] (taN []) := pa_nil
theorem pan {e : Expr} {es : List Expr} {x : List Nat} {xss : List (List Nat)} (h : PE X e (teT x)) (r : PA X es (taN xss)) (hs : noStar e = true := by rfl) : PA X (e :: es) (taN (x :: xss)) := pc h r hs
def teL (xss : List (List Nat)) : TE := fun _ H Q => nestN xss H fun vs H1 => vs.length ≤ sizeLine ∧ ∀ p, H1 p = none → Q (.ref p) (upd H1 p (.lst vs))
theorem pe_lstN {es : List Expr} {xss : List (List Nat)} {pos : Pos} (h : PA X es (taN xss)) : PE X (.List es pos) (teL xss) := pe_lst h
def taL (xsss : List (List (List Nat))) : TA := fun _ H Q => nestL xsss H Q
theorem pal_nil : PA X [] (taL []) := pa_nil
theorem pal {e : Expr} {es : List Expr} {xss : List (List Nat)} {xsss : List (List (List Nat))} (h : PE X e (teL xss)) (r : PA X es (taL xsss)) (hs : noStar e = true := by rfl) : PA X (e :: es) (taL (xss :: xsss)) := pc h r hs
structure QE (X : Cx) (e : Expr) (t : TE) : Prop where
 h : PE X e t
structure QA (X : Cx) (es : List Expr) (t : TA) : Prop where
 h : PA X es t
structure QS (X : Cx) (st : Stmt) (t : TS) : Prop where
 h : PS X st t
structure QSs (X : Cx) (sts : List Stmt) (t : TS) : Prop where
 h : PSs X sts t
theorem qi {i : Int} {j} {pos : Pos} : QE X (.Constant (.int i) j pos) (tC (.int i)) := ⟨pe_int⟩
theorem qa_nil : QA X [] tNil := ⟨pa_nil⟩
theorem qa {e : Expr} {es : List Expr} {te : TE} {t : TA} (h : QE X e te) (r : QA X es t) (hs : noStar e = true := by rfl) : QA X (e :: es) (tCons te t) := ⟨pc h.h r.h hs⟩
theorem qtupN (x : List Nat) {es : List Expr} {t : TA} {x1} {pos : Pos} (h : QA X es t) (e : t = fun _ H Q => Q (x.map nV) H) : QE X (.Tuple es x1 pos) (teT x) := ⟨pe_tupN x h.h e⟩
theorem qan_nil : QA X [] (taN []) := ⟨pan_nil⟩
theorem qan {e : Expr} {es : List Expr} {x : List Nat} {xss : List (List Nat)} (h : QE X e (teT x)) (r : QA X es (taN xss)) (hs : noStar e = true := by rfl) : QA X (e :: es) (taN (x :: xss)) := ⟨pan h.h r.h hs⟩
theorem qlstN {es : List Expr} {xss : List (List Nat)} {pos : Pos} (h : QA X es (taN xss)) : QE X (.List es pos) (teL xss) := ⟨pe_lstN h.h⟩
theorem qal_nil : QA X [] (taL []) := ⟨pal_nil⟩
theorem qal {e : Expr} {es : List Expr} {xss : List (List Nat)} {xsss : List (List (List Nat))} (h : QE X e (teL xss)) (r : QA X es (taL xsss)) (hs : noStar e = true := by rfl) : QA X (e :: es) (taL (xss :: xsss)) := ⟨pal h.h r.h hs⟩
theorem qlst {es : List Expr} {t : TA} {pos : Pos} (h : QA X es t) : QE X (.List es pos) (tLst t) := ⟨pe_lst h.h⟩
theorem q_set (i : Nat) {x : Str} {e : Expr} {te : TE} {pos pos' : Pos} (hf : X.fn x = true) (he : QE X e te) (hi : X.N[i]? = some x := by rfl) (hN : nodupS X.N = true := by kernel_rfl) (hx : isLoc X.env.scope x = true := by kernel_rfl)
  (hs : swapsWith e (some (.Name x pos')) pos.line X.env = pure false := by rfl) : QS X (.Assign [.Name x pos'] e pos) (tAsg te (gName i)) := ⟨sset i hf he.h hi hN hx hs⟩
theorem q_cons {st : Stmt} {rest : List Stmt} {t u : TS} (h1 : QS X st t) (h2 : QSs X rest u) : QSs X (st :: rest) (tSeq t u) := ⟨pss_cons h1.h h2.h⟩
theorem QSs.out {sts : List Stmt} {t : TS} (h : QSs X sts t) : PSs X sts t := h.h
theorem seq_asg {te : TE} {g : TG} {u : TS} {D : Ends} {σ : L2.St} {H : Hp} (h : te σ H fun x H1 => g x σ H1 (u D)) : tSeq (tAsg te g) u D σ H := h
theorem tL_intro (xsss : List (List (List Nat))) {σ : L2.St} {H : Hp} {Q : VK} (hl : ∀ xss ∈ xsss, xss.length ≤ 1000 ∧ ∀ x ∈ xss, x.length ≤ 1000) (hk : xsss.length ≤ 1000)
  (q : ∀ (ls : List Addr) (H' : Hp), Same H H' → ls.length = xsss.length → (∀ (i : Nat) l, ls[i]? = some l → H l = none ∧ ∃ bs, TupsAt H' l bs (xsss.getD i [])) → ∀ S, H' S = none → Q (.ref S) (upd H' S (.lst (ls.map V.ref)))) : tLst (taL xsss) σ H Q := by
 have sz : (16777216 : Nat) = sizeLine := by decide
 exact nestL_intro xsss H _ hl fun ls H' s' h1 h2 => ⟨by rw [List.length_map]; omega, q ls H' s' h1 h2⟩
theorem tN_intro (xss : List (List Nat)) {σ : L2.St} {H : Hp} {Q : VK} (hl : ∀ x ∈ xss, x.length ≤ 1000) (hk : xss.length ≤ 1000)
  (q : ∀ (bs : List Addr) (H' : Hp), Same H H' → bs.length = xss.length → (∀ (i : Nat) b, bs[i]? = some b → H' b = some (.tup ((xss.getD i []).map nV))) → ∀ S, H' S = none → Q (.ref S) (upd H' S (.lst (bs.map V.ref)))) : teL xss σ H Q := by
 have sz : (16777216 : Nat) = sizeLine := by decide
 exact nestN_intro xss H _ hl fun bs H' s' h1 h2 => ⟨by rw [List.length_map]; omega, q bs H' s' h1 h2⟩
end
theorem refs_at {bs : List Addr} {i : Nat} (h : i < bs.length) : ∃ b, bs[i]? = some b ∧ atI (bs.map V.ref) (i : Int) = some (.ref b) := ⟨_, List.getElem?_eq_getElem h, atI_nat (by rw [List.getElem?_map, List.getElem?_eq_getElem h]; rfl)⟩
def CT (H : Hp) (c : Addr) (css : List (List Nat)) : Prop := ∃ rs : List Addr, H c = some (.tup (rs.map V.ref)) ∧ rs.length = css.length ∧ ∀ (i : Nat) r, rs[i]? = some r → H r = some (.tup ((css.getD i []).map nV))
theorem CT.mono {H H' : Hp} {c : Addr} {css : List (List Nat)} (s : Same H H') (h : CT H c css) : CT H' c css := by
 obtain ⟨rs, h1, h2, h3⟩ := h
 exact ⟨rs, s _ _ h1, h2, fun i r hr => s _ _ (h3 i r hr)⟩
def rngF (n : Nat) (f : Nat → Nat) : List Nat := (List.range n).map f
theorem rngF_len (n : Nat) (f : Nat → Nat) : (rngF n f).length = n := by unfold rngF; rw [List.length_map, List.length_range]
theorem rngF_set {n a k : Nat} (f : Nat → Nat) (ha : a < n) : ((rngF n f).map nV).set a (nV k) = (rngF n fun b => if b = a then k else f b).map nV := by
 unfold rngF
 refine List.ext_getElem? fun i => ?_
 rw [List.getElem?_set]
 by_cases hi : i < n
 ·by_cases e : a = i
  ·subst e
   rw [if_pos rfl, if_pos (by rw [List.length_map, List.length_map, List.length_range]; exact ha), List.getElem?_map, List.getElem?_map, List.getElem?_range ha]
   show some (nV k) = some (nV (if a = a then k else f a))
   rw [if_pos rfl]
  ·rw [if_neg e, List.getElem?_map, List.getElem?_map, List.getElem?_range hi, List.getElem?_map, List.getElem?_map, List.getElem?_range hi]
   show some (nV (f i)) = some (nV (if i = a then k else f i))
   rw [if_neg (fun z => e z.symm)]
 ·have h1 : a ≠ i := by omega
  rw [if_neg h1, List.getElem?_eq_none (by rw [List.length_map, List.length_map, List.length_range]; omega), List.getElem?_eq_none (by rw [List.length_map, List.length_map, List.length_range]; omega)]
theorem rngF_congr {n : Nat} {f g : Nat → Nat} (h : ∀ a, a < n → f a = g a) : rngF n f = rngF n g := List.map_congr_left fun a ha => h a (List.mem_range.mp ha)
theorem CT.row {H : Hp} {c : Addr} {css : List (List Nat)} (h : CT H c css) : ∃ rs : List Addr, H c = some (.tup (rs.map V.ref)) ∧ rs.length = css.length ∧ ∀ (i : Nat) y, (rs.map V.ref)[i]? = some y → ∃ r, y = .ref r ∧ i < css.length ∧ H r = some (.tup ((css.getD i []).map nV)) := by
 obtain ⟨rs, h1, h2, h3⟩ := h
 refine ⟨rs, h1, h2, fun i y hy => ?_⟩
 rw [List.getElem?_map] at hy
 cases hr : rs[i]? with
 | none => rw [hr] at hy; cases hy
 | some r =>
  rw [hr] at hy
  cases hy
  exact ⟨r, rfl, by rw [← h2]; exact (List.getElem?_eq_some_iff.mp hr).1, h3 i r hr⟩
theorem tupK {X : Cx} (K : PySem.W.Frag) (hK : X.K = K := by rfl) : CallR X (.type "tuple") (fun xs H Q => ∃ p ys, xs = [.ref p] ∧ ((SqL K H p ys ∧ ∀ l, H l = none → Q (.ref l) (upd H l (.tup ys))) ∨ (SqT K H p ys ∧ Q (.ref p) H))) := hK ▸ call_tuple_of
theorem rngV (m : Nat) : (rngI 0 m).map V.int = (List.range m).map nV := by
 unfold rngI
 rw [List.map_map]
 refine List.map_congr_left fun i _ => ?_
 show V.int (0 + (i : Int)) = nV i
 rw [Int.zero_add]
 rfl
theorem rng_get {m i : Nat} {y : V} (h : ((rngI 0 m).map V.int)[i]? = some y) : i < m ∧ y = .int (i : Nat) := by
 rw [rngV] at h
 have hi : i < m := by
  have := (List.getElem?_eq_some_iff.mp h).1
  rw [List.length_map, List.length_range] at this
  exact this
 rw [List.getElem?_map, List.getElem?_range hi] at h
 exact ⟨hi, (Option.some.inj h).symm⟩
def dRow (row : List Nat) : PyData := .tuple (row.map fun k : Nat => PyData.int (k : Int))
theorem rds_nats {K : PySem.W.Frag} {H : Hp} : ∀ row : List Nat, RdDs K H (row.map nV) (row.map fun k : Nat => PyData.int (k : Int))
 | [] => .nil
 | k :: r => .cons (.int _) (rds_nats r)
theorem rd_row {K : PySem.W.Frag} {H : Hp} {a : Addr} {row : List Nat} (h : H a = some (.tup (row.map nV))) : RdD K H (.ref a) (dRow row) := .tup (.of h) (rds_nats row)
def cyc (m : Nat) : List Nat := (List.range m).map fun i => (i + 1) % m
def neg (m : Nat) : List Nat := (List.range m).map fun i => (m - i) % m
def mn1 : List (List (List Nat)) := [[[1, 0, 2, 3], [0, 1, 3, 2]], [[1, 0, 2, 3, 4, 5], [0, 1, 3, 4, 5, 2]]]
def ma1 : List (List Nat) := [[1, 2, 0, 3], [1, 0, 3, 2]]
def ma2 : List (List Nat) := [[1, 2, 3, 0, 5, 6, 7, 4], [4, 7, 6, 5, 2, 1, 0, 3]]
def ma3 : List (List Nat) := [[1, 2, 0, 3, 4, 5, 6], [0, 2, 1, 4, 5, 6, 3]]
def ma4 : List (List Nat) := [[1, 2, 0, 3, 4, 5], [0, 1, 2, 4, 5, 3]]
def mn2 : List (List (List Nat)) := [[[1, 2, 3, 4, 0], [0, 2, 4, 1, 3]], [[1, 2, 3, 0], [1, 0, 2, 3]]]
def ma5 : List (List Nat) := [[1, 2, 3, 4, 5, 6, 0], [0, 2, 4, 6, 1, 3, 5]]
def mnS : List (List (List Nat)) := mn1 ++ [ma1] ++ [ma2] ++ [ma3] ++ [ma4]
def mnG : List (List (List Nat)) := mnS ++ mn2 ++ [ma5]
def stepD (cur : List Nat) (ps : List (List Nat)) (s : List (List Nat) × List (List Nat)) : List (List Nat) × List (List Nat) := ps.foldl (fun s p => if s.1.contains (aft cur p) then s else (s.1 ++ [aft cur p], s.2 ++ [aft cur p])) s
def dfs (ps : List (List Nat)) : Nat → List (List Nat) → List (List Nat) → Option (List (List Nat))
 | f, fd, [] => some fd
 | 0, fd, _ :: _ => none
 | f + 1, fd, x :: ln => match stepD ((x :: ln).getLast?.getD []) ps (fd, (x :: ln).dropLast) with
  | (fd', ln') => dfs ps f fd' ln'
structure PsOk (ps : List (List Nat)) (k : Nat) (fd : List (List Nat)) : Prop where
 k1 : 1 ≤ k
 k10 : k ≤ 10
 p1 : 1 ≤ ps.length
 p9 : ps.length ≤ 9
 pl : ∀ g ∈ ps, Gk k g
 run : dfs ps 61 [List.range k] [List.range k] = some fd
 n60 : fd.length ≤ 24
 hd : fd[0]? = some (List.range k)
 nd : fd.Nodup
 fg : ∀ g ∈ fd, Gk k g
 pw : PW (tabP fd)
 cl : ∀ a ∈ fd, ∀ b ∈ fd, aft a b ∈ fd
def gkB (k : Nat) (y : List Nat) : Bool := decide (y.length = k) && y.all fun x => decide (x < k)
theorem gk_of {k : Nat} {y : List Nat} (h : gkB k y = true) : Gk k y := by
 unfold gkB at h
 rw [Bool.and_eq_true, decide_eq_true_eq, List.all_eq_true] at h
 exact ⟨h.1, fun x hx => of_decide_eq_true (h.2 x hx)⟩
def ndB : List (List Nat) → Bool
 | [] => true
 | x :: r => !r.contains x && ndB r
theorem nd_of : ∀ {xs : List (List Nat)}, ndB xs = true → xs.Nodup
 | [], _ => List.nodup_nil
 | x :: r, h => by
  unfold ndB at h
  rw [Bool.and_eq_true, Bool.not_eq_true'] at h
  refine List.nodup_cons.mpr ⟨fun hx => ?_, nd_of h.2⟩
  rw [List.contains_iff_mem.mpr hx] at h
  cases h.1
def psB (ps : List (List Nat)) : Bool :=
 let k := (ps.getD 0 []).length
 decide (1 ≤ k) && decide (k ≤ 10) && decide (1 ≤ ps.length) && decide (ps.length ≤ 9) && ps.all (gkB k) && match dfs ps 61 [List.range k] [List.range k] with
  | none => false
  | some fd => decide (fd.length ≤ 24) && decide (fd[0]? = some (List.range k)) && ndB fd && fd.all (gkB k) && pwB (tabP fd)
theorem inS_of {srt : List (List Nat)} (Pt : PW (tabP srt)) : ∀ a ∈ srt, ∀ b ∈ srt, aft a b ∈ srt := by
 intro a ha b hb
 obtain ⟨i, hi⟩ := List.getElem?_of_mem ha
 obtain ⟨j, hj⟩ := List.getElem?_of_mem hb
 have hl : (tabP srt).length = srt.length := by unfold tabP; rw [List.length_map]
 have il := (List.getElem?_eq_some_iff.mp hi).1
 have jl := (List.getElem?_eq_some_iff.mp hj).1
 have h := Pt.lt i j (by rw [hl]; exact il) (by rw [hl]; exact jl)
 have e : mul (tabP srt) i j = srt.findIdx (· == aft a b) := by
  unfold mul tabP
  rw [List.getD_eq_getElem?_getD, List.getD_eq_getElem?_getD, List.getElem?_map, hi]
  show (Option.getD (srt.map _)[j]? 0) = _
  rw [List.getElem?_map, hj]
  rfl
 rw [e, hl] at h
 obtain ⟨x, hx, hx2⟩ := List.findIdx_lt_length.mp h
 rw [← eq_of_beq hx2]
 exact hx
theorem ps_of {ps : List (List Nat)} (h : psB ps = true) : ∃ fd, PsOk ps (ps.getD 0 []).length fd := by
 unfold psB at h
 simp only [Bool.and_eq_true, decide_eq_true_eq, List.all_eq_true] at h
 obtain ⟨⟨⟨⟨⟨h1, h2⟩, h3⟩, h4⟩, h5⟩, h6⟩ := h
 cases hd : dfs ps 61 [List.range (ps.getD 0 []).length] [List.range (ps.getD 0 []).length] with
 | none => rw [hd] at h6; cases h6
 | some fd =>
  rw [hd] at h6
  simp only [Bool.and_eq_true, decide_eq_true_eq, List.all_eq_true] at h6
  obtain ⟨⟨⟨⟨g1, g2⟩, g3⟩, g4⟩, g5⟩ := h6
  have Pt := pwB_of g5
  exact ⟨fd, h1, h2, h3, h4, fun g hg => gk_of (h5 g hg), hd, g1, g2, nd_of g3, fun g hg => gk_of (g4 g hg), Pt, inS_of Pt⟩
theorem cyc_ok : ((List.range 10).all fun j => psB [cyc (j + 1)]) = true := by decide +kernel
theorem neg_ok : ((List.range 4).all fun j => psB [cyc (j + 3), neg (j + 3)]) = true := by decide +kernel
theorem mnG_ok : (mnG.all psB) = true := by decide +kernel
def IsPs (ps : List (List Nat)) : Prop := psB ps = true
theorem is_cyc {j : Nat} (h : j < 10) : IsPs [cyc (j + 1)] := List.all_eq_true.mp cyc_ok j (List.mem_range.mpr h)
theorem is_neg {j : Nat} (h : j < 4) : IsPs [cyc (j + 3), neg (j + 3)] := List.all_eq_true.mp neg_ok j (List.mem_range.mpr h)
theorem is_mn {ps : List (List Nat)} (h : ps ∈ mnG) : IsPs ps := List.all_eq_true.mp mnG_ok ps h
end Pm
namespace Pm
open PySem L2 PySem.Spec PyProof.Rows
section
variable {X : Cx}
theorem q_app {o e : Expr} {to te : TE} {apos cpos spos : Pos} (ho : PE X o to) (he : QE X e te) (hns : noStar e = true := by rfl)
  (hbase : attributeBase o "append" X.env (eval o X.env) = eval o X.env := by rfl)
  (hfew : ((backTo cpos (starEach [e] X.env)).all (fun x => !x.1) && (backToKw cpos (keywordEach [] X.env)).all (fun x => x.1.isSome)
   && decide (([e] : List Expr).length + ([] : List Keyword).length + (if ([] : List Keyword).isEmpty then 0 else 1) < 30)) = true := by rfl)
  (hline : (apos.endLine == cpos.line) = true := by rfl) (hs : starEach [e] X.env = (false, eval e X.env) :: starEach [] X.env := by rfl) (hplain : (backTo cpos (starEach [] X.env)).any (·.1) = false := by rfl)
  (hsw : swapsWith (.Call (.Attribute o "append" apos) [e] [] cpos) none spos.line X.env = pure false := by rfl) :
  QS X (.Expr (.Call (.Attribute o "append" apos) [e] [] cpos) spos) (tDrop (tBM X.K "list" rAppend to (tCons te tNil))) := ⟨ps_expr (pe_bm PySem.F.plainAttrs_list PySem.F.slot_list_append PySem.F.type_list_append mt_append ho (pc he.h pa_nil hns) hbase hfew hline hs hplain) hsw⟩
theorem q_ifS {c : Expr} {a b : List Stmt} {tc : TT} {t u : TS} {pos : Pos} (hc : PT X c tc) (ha : QSs X a t) (hb : PSs X b u) : QS X (.If c a b pos) (tIfS tc t u) := ⟨ps_if hc ha.h hb⟩
theorem q_one {st : Stmt} {t : TS} (h1 : QS X st t) : QSs X [st] t := ⟨pss_one h1.h⟩
theorem q_opE {op : Operator} {r : R2} {a b : Expr} {ta tb : TE} {pos : Pos} (ho : OpR X (binaryOp op) r) (ha : PE X a ta) (hb : QE X b tb) : QE X (.BinOp a op b pos) (tOp r ta tb) := ⟨pe_op ho ha hb.h⟩
end
def MenuAt (H : Hp) (M : Addr) (ls : List Addr) (mn : List (List (List Nat))) : Prop := H M = some (.lst (ls.map V.ref)) ∧ ls.length = mn.length ∧ ∀ (i : Nat) l, ls[i]? = some l → l ≠ M ∧ ∃ bs, TupsAt H l bs (mn.getD i [])
theorem MenuAt.mono {H H' : Hp} {M : Addr} {ls : List Addr} {mn : List (List (List Nat))} (s : Same H H') (h : MenuAt H M ls mn) : MenuAt H' M ls mn :=
 ⟨s _ _ h.1, h.2.1, fun i l hl => let ⟨a, bs, b⟩ := h.2.2 i l hl; ⟨a, bs, b.mono s⟩⟩
theorem TupsAt.updM {H : Hp} {L M : Addr} {bs : List Addr} {yss : List (List Nat)} {vs : List V} {o : HO} (R : TupsAt H L bs yss) (hM : H M = some (.lst vs)) (hn : L ≠ M) : TupsAt (upd H M o) L bs yss :=
 ⟨by rw [upd_ne hn]; exact R.1, R.2.1, fun i b hb => by
  have := R.2.2 i b hb
  rw [upd_ne (fun z => by rw [z, hM] at this; cases this)]
  exact this⟩
theorem MenuAt.push {H : Hp} {M S : Addr} {ls bs : List Addr} {mn : List (List (List Nat))} {xss : List (List Nat)} (h : MenuAt H M ls mn) (hS : TupsAt H S bs xss) (hn : S ≠ M) : MenuAt (upd H M (.lst (ls.map V.ref ++ [.ref S]))) M (ls ++ [S]) (mn ++ [xss]) := by
 refine ⟨by rw [upd_same, List.map_append]; rfl, by rw [List.length_append, List.length_append, h.2.1]; rfl, fun i l hl => ?_⟩
 by_cases hi : i < ls.length
 ·rw [List.getElem?_append_left hi] at hl
  obtain ⟨a, cs, b⟩ := h.2.2 i l hl
  refine ⟨a, cs, ?_⟩
  rw [List.getD_eq_getElem?_getD, List.getElem?_append_left (by rw [← h.2.1]; exact hi), ← List.getD_eq_getElem?_getD]
  exact b.updM h.1 a
 ·rw [List.getElem?_append_right (by omega)] at hl
  have e0 : i - ls.length = 0 := by
   apply Classical.byContradiction
   intro z
   rw [List.getElem?_eq_none (by rw [List.length_singleton]; omega)] at hl
   cases hl
  rw [e0] at hl
  cases hl
  have : i = mn.length := by rw [← h.2.1]; omega
  refine ⟨hn, bs, ?_⟩
  rw [this, List.getD_eq_getElem?_getD, List.getElem?_append_right (Nat.le_refl _), Nat.sub_self]
  exact hS.updM h.1 hn
end Pm
namespace C28
open PySem L2 PySem.Spec PyProof.Rows
open Tb Pm
abbrev sCyc : Stmt := top 17
abbrev sPerms : Stmt := top 18
abbrev sAfter : Stmt := top 19
def spCyc : Sp := fun vs H Q _ => ∃ (m : Nat), vs = [.int m] ∧ 1 ≤ m ∧ m ≤ 60 ∧ ∀ r H', H r = none → Same H H' → H' r = some (.tup ((cyc m).map nV)) → Q (.ref r) H'
def spPerms : Sp := fun vs H Q _ => ∃ (p : Addr) (b : Nat) (gr : Bool), vs = [.ref p, .bl gr] ∧ Tape H p b ∧ b + 2 < 2 ^ 60 ∧ ∀ L bs ps H', Tk p H H' → Tape H' p (b + 2) → IsPs ps → TupsAt H' L bs ps → Q (.ref L) H'
def spAfter : Sp := fun vs H Q _ => ∃ (f g : Addr) (k : Nat) (x y : List Nat), vs = [.ref f, .ref g] ∧ H f = some (.tup (x.map nV)) ∧ H g = some (.tup (y.map nV)) ∧ Gk k x ∧ Gk k y ∧ k ≤ 1000 ∧ ∀ r H', H r = none → Same H H' → H' r = some (.tup ((aft x y).map nV)) → Q (.ref r) H'
def fCyc (m : Nat) : V → V
 | .int z => nV ((z.toNat + 1) % m)
 | y => y
def fNeg (m : Nat) : V → V
 | .int z => nV ((m - z.toNat) % m)
 | y => y
theorem TupsAt.tk {H H' : Hp} {p L : Addr} {b : Nat} {bs : List Addr} {yss : List (List Nat)} (T : Tape H p b) (d : Tk p H H') (R : TupsAt H L bs yss) : TupsAt H' L bs yss := ⟨d.lst T R.1, R.2.1, fun i b hb => d.tup T (R.2.2 i b hb)⟩
section
variable {P : Program} {w : World} {K : PySem.W.Frag} {mg : Str → Option Value} {base : Heap}
theorem scCyc : FnScope ["_law_many"] ["_law_many"] (defScope sCyc) := FS
theorem scAfter : FnScope ["_law_one", "_law_other"] ["_law_one", "_law_other"] (defScope sAfter) := FS
theorem scPerms : FnScope ["_law_tape_here", "_law_great", "_law_way", "_law_many", "_law_menu"] ["_law_tape_here", "_law_great"] (defScope sPerms) := FS
theorem ok_cyc {f : Addr} {fd : FuncData} (F : Fun K "_law_cycle" "_law_cycle" sCyc f fd) (T : BlB mg) : FnOk P w K mg base CX0 1 f fd ["_law_many"] spCyc := by
 refine F.ok scCyc (fun vs H Q E h => ?_) (fun cdv A outer s H vs Q E hr h => ?_)
 ·obtain ⟨m, rfl, _⟩ := h; rfl
 ·obtain ⟨m, rfl, m1, m60, q⟩ := h
  refine ⟨_, pss_one (ps_ret (ct call_tuple_of T.tuple (pc (cmp ["_law_place"] [0] ["_law_place", "_law_many"] rfl (rng1 T.range (pc (vn 0) pa_nil)) (fun _ _ _ _ _ => gn 0) (fun _ _ _ _ _ => pif_nil)
   (fun _ _ _ _ _ => pe_op op_mod (pe_op op_add (vn 0) pe_int) (vn 1))) pa_nil))), ?_⟩
  refine ⟨_, rfl, _, rfl, by omega, by omega, ?_⟩
  rw [Int.toNat_natCast]
  refine comp_map (seq_rng 0 m) [some (.int (m : Nat))] rfl (fCyc m) (by rw [List.length_map, rngI_len]; omega) (fun i x H' hx s' R gg => ?_) (fun D H' nD s' hD => ?_)
  ·obtain ⟨hi, rfl⟩ := rng_get hx
   have fin := gg H' (Same.refl _)
   have e : fCyc m (.int (i : Nat)) = V.int (((i : Int) + 1) % (m : Int)) := by
    show V.int ((((i : Int).toNat + 1) % m : Nat) : Int) = _
    rw [Int.toNat_natCast, Int.natCast_emod]
    rfl
   rw [e] at fin
   exact ⟨_, rfl, _, _, rfl, rfl, _, rfl, _, _, rfl, rfl, (by show (0 : Int) < (m : Int); omega), fin⟩
  ·have e : ((rngI 0 m).map V.int).map (fCyc m) = (cyc m).map nV := by
    rw [rngV]
    unfold cyc
    rw [List.map_map, List.map_map]
    refine List.map_congr_left fun i _ => ?_
    show nV (((i : Int).toNat + 1) % m) = nV ((i + 1) % m)
    rw [Int.toNat_natCast]
   rw [e] at hD
   exact ⟨D, _, rfl, .inl ⟨.of hD, fun r nr => q r _ (s'.free nr) (s'.trans (Same.upd nr)) upd_same⟩⟩
theorem ok_after {f : Addr} {fd : FuncData} (F : Fun K "_law_after" "_law_after" sAfter f fd) (T : BlB mg) : FnOk P w K mg base CX0 1 f fd ["_law_one", "_law_other"] spAfter := by
 refine F.ok scAfter (fun vs H Q E h => ?_) (fun cdv A outer s H vs Q E hr h => ?_)
 ·obtain ⟨f, g, k, x, y, rfl, _⟩ := h; rfl
 ·obtain ⟨f, g, k, x, y, rfl, hf, hg, gx, gy, k10, q⟩ := h
  refine ⟨_, pss_one (ps_ret (ct call_tuple_of T.tuple (pc (cmp ["_law_place"] [0] ["_law_place", "_law_one"] rfl (itT K (vn 1)) (fun _ _ _ _ _ => gn 0) (fun _ _ _ _ _ => pif_nil)
   (fun _ _ _ _ _ => pe_ix (ixT K) (vn 1) (vn 0) (fun _ _ => rfl))) pa_nil))), ?_⟩
  refine ⟨_, rfl, g, rfl, ⟨_, .of hg⟩, ?_⟩
  refine comp_map (seq_tup (K := K) (.of hg)) [some (.ref f)] rfl (fAft x) (by rw [List.length_map, gy.1]; omega) (fun i v H' hx s' R gg => ?_) (fun D H' nD s' hD => ?_)
  ·obtain ⟨j, hj, rfl⟩ := nV_get hx
   have hjk := gy.2 j (List.mem_of_getElem? hj)
   have fin := gg H' (Same.refl _)
   have e : fAft x (.int (j : Nat)) = nV (x.getD j 0) := by
    show nV (x.getD (j : Int).toNat 0) = _
    rw [Int.toNat_natCast]
   rw [e] at fin
   exact ⟨_, rfl, _, rfl, f, _, _, _, rfl, rfl, .of (s' _ _ hf), nv_at (by rw [gx.1]; exact hjk), fin⟩
  ·rw [fAft_map] at hD
   exact ⟨D, _, rfl, .inl ⟨.of hD, fun r nr => q r _ (s'.free nr) (s'.trans (Same.upd nr)) upd_same⟩⟩
end
section
variable {P : Program} {w : World} {K : PySem.W.Frag} {mg : Str → Option Value} {base : Heap}
theorem tups_one {H : Hp} {L c : Addr} {x : List Nat} (h : H L = some (.lst [.ref c])) (hc : H c = some (.tup (x.map nV))) : TupsAt H L [c] [x] := ⟨h, rfl, fun i b hb => by
 cases i with
 | zero => cases hb; exact hc
 | succ i => cases hb⟩
theorem tups_two {H : Hp} {L c d : Addr} {x y : List Nat} (h : H L = some (.lst [.ref c, .ref d])) (hc : H c = some (.tup (x.map nV))) (hd : H d = some (.tup (y.map nV))) : TupsAt H L [c, d] [x, y] := ⟨h, rfl, fun i b hb => by
 cases i with
 | zero => cases hb; exact hc
 | succ i =>
  cases i with
  | zero => cases hb; exact hd
  | succ i => cases hb⟩
theorem neg_mod {m i : Nat} (h : i < m) : (-(i : Int)) % (m : Int) = (((m - i) % m : Nat) : Int) := by
 rw [Int.natCast_emod, Int.ofNat_sub (by omega), show (m : Int) - (i : Int) = -(i : Int) + (m : Int) * 1 by omega, Int.add_mul_emod_self_left]
theorem app_step {K : PySem.W.Frag} {i : Nat} {M : Addr} {σ : L2.St} {Hb H : Hp} {ls : List Addr} {mn : List (List (List Nat))} {xss : List (List Nat)} {D : Ends} (hσ : σ[i]? = some (some (.ref M))) (m : MenuAt H M ls mn) (s : Same Hb H) (nM : Hb M = none) (hx : ∀ x ∈ xss, x.length ≤ 1000) (hk : xss.length ≤ 1000) (hl : mn.length ≤ 1000)
  (q : ∀ S H', Same Hb H' → MenuAt H' M (ls ++ [S]) (mn ++ [xss]) → D.nx σ H') : tDrop (tBM K "list" rAppend (tVar i) (tCons (teL xss) tNil)) D σ H := by
 have sz : (16777216 : Nat) = sizeLine := by decide
 refine ⟨_, hσ, .inl ⟨rfl, _, .of m.1⟩, tN_intro xss hx hk fun bs H1 s1 hb hi S hS => ?_⟩
 have s2 := s1.trans (Same.upd (o := .lst (bs.map V.ref)) hS)
 have m2 := m.mono s2
 have nS : S ≠ M := fun z => by
  have := s1 _ _ m.1
  rw [← z, hS] at this
  cases this
 have R : TupsAt (upd H1 S (.lst (bs.map V.ref))) S bs xss := ⟨upd_same, hb, fun i b hib => Same.upd (o := .lst (bs.map V.ref)) hS _ _ (hi i b hib)⟩
 refine ⟨M, _, _, rfl, rfl, m2.1, by rw [List.length_map, m.2.1]; omega, q S _ ((s.trans s2).updr nM) (m2.push R nS)⟩
theorem ok_perms {f : Addr} {fd : FuncData} (F : Fun K "_law_perms" "_law_perms" sPerms f fd) (T : BlB mg) (GP : Fn P w K mg base CX0 1 "_law_pick" ["_law_tape_here", "_law_many"] spPick) (GC : Fn P w K mg base CX0 1 "_law_cycle" ["_law_many"] spCyc) : FnOk P w K mg base CX0 2 f fd ["_law_tape_here", "_law_great"] spPerms := by
 refine F.ok scPerms (fun vs H Q E h => ?_) (fun cdv A outer s H vs Q E hr h => ?_)
 ·obtain ⟨p, b, gr, rfl, _⟩ := h; rfl
 ·obtain ⟨p, b, gr, rfl, T0, hb, q⟩ := h
  refine ⟨_, QSs.out (q_cons ⟨sset 2 rfl (fnc GP hr pass0 (pc (vn 0) (pc pe_int pa_nil)))⟩
   (q_cons ⟨ps_if (pt_cmpR op_lt (vn 2) pe_int (nomark _)) (pss_one (ps_ret (pe_lst (pc (fnc GC hr pass0 (pc (pe_op op_add pe_int (fnc GP hr pass0 (pc (vn 0) (pc pe_int pa_nil)))) pa_nil)) pa_nil)))) pss_nil⟩
   (q_cons ⟨ps_if (pt_cmpR op_lt (vn 2) pe_int (nomark _))
    (pss_cons (sset 3 rfl (pe_op op_add pe_int (fnc GP hr pass0 (pc (vn 0) (pc pe_int pa_nil)))))
    (pss_one (ps_ret (pe_lst (pc (fnc GC hr pass0 (pc (vn 3) pa_nil)) (pc (ct call_tuple_of T.tuple (pc (cmp ["_law_place"] [3] ["_law_place", "_law_many"] rfl (rng1 T.range (pc (vn 3) pa_nil)) (fun _ _ _ _ _ => gn 0) (fun _ _ _ _ _ => pif_nil)
     (fun _ _ _ _ _ => pe_op op_mod (pe_un un_neg (vn 0)) (vn 1))) pa_nil)) pa_nil)))))) pss_nil⟩
   (q_cons (q_set 4 rfl (qlst (qal (qlstN (qan (qtupN [1, 0, 2, 3] (qa qi (qa qi (qa qi (qa qi qa_nil)))) (by rfl)) (qan (qtupN [0, 1, 3, 2] (qa qi (qa qi (qa qi (qa qi qa_nil)))) (by rfl)) qan_nil))) (qal (qlstN (qan (qtupN [1, 0, 2, 3, 4, 5] (qa qi (qa qi (qa qi (qa qi (qa qi (qa qi qa_nil)))))) (by rfl)) (qan (qtupN [0, 1, 3, 4, 5, 2] (qa qi (qa qi (qa qi (qa qi (qa qi (qa qi qa_nil)))))) (by rfl)) qan_nil))) qal_nil))))
   (q_cons (q_app (vn 4) (qlstN (qan (qtupN [1, 2, 0, 3] (qa qi (qa qi (qa qi (qa qi qa_nil)))) (by rfl)) (qan (qtupN [1, 0, 3, 2] (qa qi (qa qi (qa qi (qa qi qa_nil)))) (by rfl)) qan_nil)))) (q_cons (q_app (vn 4) (qlstN (qan (qtupN [1, 2, 3, 0, 5, 6, 7, 4] (qa qi (qa qi (qa qi (qa qi (qa qi (qa qi (qa qi (qa qi qa_nil)))))))) (by rfl)) (qan (qtupN [4, 7, 6, 5, 2, 1, 0, 3] (qa qi (qa qi (qa qi (qa qi (qa qi (qa qi (qa qi (qa qi qa_nil)))))))) (by rfl)) qan_nil)))) (q_cons (q_app (vn 4) (qlstN (qan (qtupN [1, 2, 0, 3, 4, 5, 6] (qa qi (qa qi (qa qi (qa qi (qa qi (qa qi (qa qi qa_nil))))))) (by rfl)) (qan (qtupN [0, 2, 1, 4, 5, 6, 3] (qa qi (qa qi (qa qi (qa qi (qa qi (qa qi (qa qi qa_nil))))))) (by rfl)) qan_nil)))) (q_cons (q_app (vn 4) (qlstN (qan (qtupN [1, 2, 0, 3, 4, 5] (qa qi (qa qi (qa qi (qa qi (qa qi (qa qi qa_nil)))))) (by rfl)) (qan (qtupN [0, 1, 2, 4, 5, 3] (qa qi (qa qi (qa qi (qa qi (qa qi (qa qi qa_nil)))))) (by rfl)) qan_nil))))
   (q_cons (q_ifS (pt_val (vn 1)) (q_cons (q_set 4 rfl (q_opE op_cat (vn 4) (qlst (qal (qlstN (qan (qtupN [1, 2, 3, 4, 0] (qa qi (qa qi (qa qi (qa qi (qa qi qa_nil))))) (by rfl)) (qan (qtupN [0, 2, 4, 1, 3] (qa qi (qa qi (qa qi (qa qi (qa qi qa_nil))))) (by rfl)) qan_nil))) (qal (qlstN (qan (qtupN [1, 2, 3, 0] (qa qi (qa qi (qa qi (qa qi qa_nil)))) (by rfl)) (qan (qtupN [1, 0, 2, 3] (qa qi (qa qi (qa qi (qa qi qa_nil)))) (by rfl)) qan_nil))) qal_nil))))) (q_one (q_app (vn 4) (qlstN (qan (qtupN [1, 2, 3, 4, 5, 6, 0] (qa qi (qa qi (qa qi (qa qi (qa qi (qa qi (qa qi qa_nil))))))) (by rfl)) (qan (qtupN [0, 2, 4, 6, 1, 3, 5] (qa qi (qa qi (qa qi (qa qi (qa qi (qa qi (qa qi qa_nil))))))) (by rfl)) qan_nil)))))) pss_nil)
   ⟨pss_one (ps_ret (pe_ix (ixL K) (vn 4) (fnc GP hr pass0 (pc (vn 0) (pc (cb (lenK K) T.len (pc (vn 4) pa_nil)) pa_nil))) (fun _ _ => rfl)))⟩))))))))), ?_⟩
  have sz : (16777216 : Nat) = sizeLine := by decide
  refine ⟨_, rfl, p, 8, b, rfl, T0, by omega, by decide, by decide, fun r H1 a0 a1 k1 T1 => ?_⟩
  refine ⟨_, rfl, _, _, rfl, rfl, _, rfl, ite2 (fun _ => ?_) (fun _ => ?_)⟩
  ·refine ⟨_, rfl, p, 10, b + 1, rfl, T1, by omega, by decide, by decide, fun r2 H2 c0 c1 k2 T2 => ?_⟩
   obtain ⟨j, rfl⟩ := Int.eq_ofNat_of_zero_le c0
   have hj : j < 10 := by omega
   refine ⟨_, _, rfl, rfl, j + 1, ?_, by omega, by omega, fun c H3 nc s3 hc => ⟨(by show 1 ≤ sizeLine; decide), fun L nL => ?_⟩⟩
   ·show [V.int (1 + (j : Int))] = [V.int ((j + 1 : Nat) : Int)]
    rw [show (1 : Int) + (j : Int) = ((j + 1 : Nat) : Int) by omega]
   ·have s4 := s3.trans (Same.upd (o := .lst [.ref c]) nL)
    exact q L [c] [cyc (j + 1)] _ ((k1.trans k2).trans (Tk.of s4)) (T2.mono s4) (is_cyc hj) (tups_one upd_same (Same.upd nL _ _ hc))
  refine ⟨_, rfl, _, _, rfl, rfl, _, rfl, ite2 (fun _ => ?_) (fun _ => ?_)⟩
  ·refine ⟨_, rfl, p, 4, b + 1, rfl, T1, by omega, by decide, by decide, fun r2 H2 c0 c1 k2 T2 => ⟨_, _, rfl, rfl, ?_⟩⟩
   obtain ⟨j, rfl⟩ := Int.eq_ofNat_of_zero_le c0
   have hj : j < 4 := by omega
   have e3 : (3 : Int) + (j : Int) = ((j + 3 : Nat) : Int) := by omega
   dsimp only
   rw [e3]
   refine ⟨_, rfl, j + 3, rfl, by omega, by omega, fun c H3 nc s3 hc => ?_⟩
   refine ⟨_, rfl, _, rfl, by omega, by omega, ?_⟩
   rw [Int.toNat_natCast]
   refine comp_map (seq_rng 0 (j + 3)) [some (.int ((j + 3 : Nat) : Int))] rfl (fNeg (j + 3)) (by rw [List.length_map, rngI_len]; omega) (fun i x H' hx s' R gg => ?_) (fun D H4 nD s4 hD => ?_)
   ·obtain ⟨hi, rfl⟩ := rng_get hx
    have fin := gg H' (Same.refl _)
    have e : fNeg (j + 3) (.int (i : Nat)) = V.int ((-(i : Int)) % ((j + 3 : Nat) : Int)) := by
     show V.int ((((j + 3) - (i : Int).toNat) % (j + 3) : Nat) : Int) = _
     rw [Int.toNat_natCast, neg_mod hi]
    rw [e] at fin
    exact ⟨_, rfl, _, rfl, _, rfl, _, _, rfl, rfl, (by show (0 : Int) < ((j + 3 : Nat) : Int); omega), fin⟩
   ·have e : ((rngI 0 (j + 3)).map V.int).map (fNeg (j + 3)) = (neg (j + 3)).map nV := by
     rw [rngV]
     unfold neg
     rw [List.map_map, List.map_map]
     refine List.map_congr_left fun i _ => ?_
     show nV ((j + 3 - (i : Int).toNat) % (j + 3)) = nV ((j + 3 - i) % (j + 3))
     rw [Int.toNat_natCast]
    rw [e] at hD
    refine ⟨D, _, rfl, .inl ⟨.of hD, fun d nd => ⟨(by show 2 ≤ sizeLine; decide), fun L nL => ?_⟩⟩⟩
    have s5 := Same.upd (o := .lst [.ref c, .ref d]) nL
    have s6 := (s3.trans s4).trans ((Same.upd (o := .tup ((neg (j + 3)).map nV)) nd).trans s5)
    exact q L [c, d] [cyc (j + 3), neg (j + 3)] _ ((k1.trans k2).trans (Tk.of s6)) (T2.mono s6) (is_neg hj) (tups_two upd_same (s5 _ _ (Same.upd nd _ _ (s4 _ _ hc))) (s5 _ _ upd_same))
  have out : ∀ (M : Addr) (ls : List Addr) (mn : List (List (List Nat))) (H9 H2 : Hp) {j : Nat} {Gl : Prop}, Same H1 H9 → MenuAt H9 M ls mn → (∀ ps ∈ mn, ps ∈ mnG) → Tk p H9 H2 → Tape H2 p (b + 1 + 1) → (j : Int) < (mn.length : Nat) → (∀ {l : Addr}, H2 M = some (.lst (ls.map V.ref)) → atI (ls.map V.ref) (j : Int) = some (.ref l) → Q (.ref l) H2 → Gl) → Gl := fun M ls mn H9 H2 {j Gl} s9 m hin k2 T2 hj fin => by
   have hjl : j < ls.length := by rw [m.2.1]; omega
   obtain ⟨l, hl, hat⟩ := refs_at hjl
   obtain ⟨_, bs, R⟩ := m.2.2 j l hl
   have T9 := T1.mono s9
   have hm : mn.getD j [] ∈ mn := by
    rw [List.getD_eq_getElem?_getD, List.getElem?_eq_getElem (show j < mn.length by omega)]
    exact List.getElem_mem _
   exact fin (k2.lst T9 m.1) hat (q l bs _ H2 ((k1.trans (Tk.of s9)).trans k2) T2 (is_mn (hin _ hm)) (TupsAt.tk T9 k2 R))
  refine seq_asg (tL_intro mn1 (by decide) (by decide) fun ls H2 s2 hl2 hi2 M hM => ?_)
  have s3 := s2.trans (Same.upd (H := H2) (o := .lst (ls.map V.ref)) hM)
  have nM : H1 M = none := s2.free hM
  have m0 : MenuAt (upd H2 M (.lst (ls.map V.ref))) M ls mn1 := ⟨upd_same, hl2, fun i l hl => by
   obtain ⟨u1, bs, u2⟩ := hi2 i l hl
   refine ⟨fun z => ?_, bs, u2.mono (Same.upd hM)⟩
   have := u2.1
   rw [z, hM] at this
   cases this⟩
  generalize upd H2 M (.lst (ls.map V.ref)) = H3 at s3 m0 ⊢
  refine app_step (xss := ma1) rfl m0 s3 nM (by decide) (by decide) (by decide) fun S1 H4 s4 m4 => ?_
  refine app_step (xss := ma2) rfl m4 s4 nM (by decide) (by decide) (by decide) fun S2 H5 s5 m5 => ?_
  refine app_step (xss := ma3) rfl m5 s5 nM (by decide) (by decide) (by decide) fun S3 H6 s6 m6 => ?_
  refine app_step (xss := ma4) rfl m6 s6 nM (by decide) (by decide) (by decide) fun S4 H7 s7 m7 => ?_
  replace m7 : MenuAt H7 M (ls ++ [S1] ++ [S2] ++ [S3] ++ [S4]) mnS := m7
  generalize ls ++ [S1] ++ [S2] ++ [S3] ++ [S4] = L5 at m7
  refine ⟨_, rfl, gr, rfl, ite2 (fun _ => ?_) (fun _ => ?_)⟩
  ·refine ⟨_, rfl, tL_intro mn2 (by decide) (by decide) fun ls' H8 s8 hl8 hi8 M' hM' => ?_⟩
   have s9 := Same.upd (H := H8) (o := .lst (ls'.map V.ref)) hM'
   have hA := m7.mono (s8.trans s9)
   refine ⟨M, M', _, _, rfl, rfl, hA.1, upd_same, by rw [List.length_map, List.length_map, hA.2.1, hl8]; decide, fun N nN => ?_⟩
   have sX := Same.upd (o := .lst (L5.map V.ref ++ ls'.map V.ref)) nN
   have s10 := ((s7.trans s8).trans s9).trans sX
   have nN1 : H1 N = none := ((s7.trans s8).trans s9).free nN
   have mN : MenuAt (upd (upd H8 M' (.lst (ls'.map V.ref))) N (.lst (L5.map V.ref ++ ls'.map V.ref))) N (L5 ++ ls') (mnS ++ mn2) := by
    have lm : L5.length = mnS.length := hA.2.1
    refine ⟨by rw [upd_same, List.map_append], by rw [List.length_append, List.length_append, lm, hl8], fun i l hl => ?_⟩
    have go : ∀ {H' : Hp} {l : Addr} {bs : List Addr} {xss : List (List Nat)}, TupsAt H' l bs xss → Same H' (upd H8 M' (.lst (ls'.map V.ref))) → l ≠ N := fun {H' l bs xss} R s z => by
     have := s _ _ R.1
     rw [z, nN] at this
     cases this
    by_cases hi : i < L5.length
    ·rw [List.getElem?_append_left hi] at hl
     obtain ⟨_, bs, u2⟩ := hA.2.2 i l hl
     refine ⟨go u2 (Same.refl _), bs, ?_⟩
     rw [List.getD_eq_getElem?_getD, List.getElem?_append_left (by rw [← lm]; exact hi), ← List.getD_eq_getElem?_getD]
     exact u2.mono sX
    ·rw [List.getElem?_append_right (by omega)] at hl
     obtain ⟨_, bs, u2⟩ := hi8 _ l hl
     refine ⟨go u2 s9, bs, ?_⟩
     rw [List.getD_eq_getElem?_getD, List.getElem?_append_right (by rw [← lm]; omega), ← lm, ← List.getD_eq_getElem?_getD]
     exact u2.mono (s9.trans sX)
   generalize upd (upd H8 M' (.lst (ls'.map V.ref))) N (.lst (L5.map V.ref ++ ls'.map V.ref)) = HN at s10 mN ⊢
   refine app_step (xss := ma5) rfl mN s10 nN1 (by decide) (by decide) (by decide) fun S5 H9 s11 m11 => ?_
   refine ⟨_, rfl, _, rfl, _, rfl, N, _, rfl, .inl (.of m11.1), ?_⟩
   rw [List.length_map, m11.2.1]
   refine ⟨p, _, b + 1, rfl, T1.mono s11, by omega, by decide, by decide, fun r2 H2 c0 c1 k2 T2 => ?_⟩
   obtain ⟨j, rfl⟩ := Int.eq_ofNat_of_zero_le c0
   exact out _ _ _ _ _ s11 m11 (by decide) k2 T2 c1 fun hM hat R => ⟨N, _, _, _, rfl, rfl, .of hM, hat, R⟩
  ·refine ⟨_, rfl, _, rfl, _, rfl, M, _, rfl, .inl (.of m7.1), ?_⟩
   rw [List.length_map, m7.2.1]
   refine ⟨p, _, b + 1, rfl, T1.mono s7, by omega, by decide, by decide, fun r2 H2 c0 c1 k2 T2 => ?_⟩
   obtain ⟨j, rfl⟩ := Int.eq_ofNat_of_zero_le c0
   exact out _ _ _ _ _ s7 m7 (by decide) k2 T2 c1 fun hM hat R => ⟨M, _, _, _, rfl, rfl, .of hM, hat, R⟩
end
end C28
namespace Pm
open PySem L2 PySem.Spec PyProof.Rows
open Tb
theorem neC {X : Cx} (K : PySem.W.Frag) (hu : X.A.units + 64 < cLine) (hK : X.K = K := by rfl) : OpR X (compareOp .NotEq) (fun x y H Q => ∃ dx dy, RdD K H x dx ∧ RdD K H y dy ∧ SeqAt.shaped dx = true ∧ SeqAt.shaped dy = true ∧ Q (.bl (!PyData.eqv dx dy)) H) := hK ▸ op_neD hu
theorem eqvNil (ds : List PyData) : PyData.eqv (.list ds) (.list []) = ds.isEmpty := by
 cases ds with
 | nil => rfl
 | cons d r => rfl
def dT (x : List Nat) : PyData := PyData.tuple ((nI x).map PyData.int)
theorem dts_lay : ∀ yss : List (List Nat), PyData.canLayAll0 (yss.map dT) = true
 | [] => rfl
 | y :: yss => by
  show (PyData.canLay0 (.tuple ((nI y).map PyData.int)) && PyData.canLayAll0 (yss.map dT)) = true
  rw [dts_lay yss, canLay_tup]
  rfl
theorem dts_depth : ∀ yss : List (List Nat), PyData.depthAll (yss.map dT) ≤ 60
 | [] => Nat.zero_le _
 | y :: yss => by
  show max (PyData.depth (.tuple ((nI y).map PyData.int))) (PyData.depthAll (yss.map dT)) ≤ 60
  exact Nat.max_le.mpr ⟨depth_tup _, dts_depth yss⟩
theorem shapedTs (yss : List (List Nat)) : SeqAt.shaped (.list (yss.map dT)) = true := by
 unfold SeqAt.shaped
 have h1 : PyData.canLay0 (.list (yss.map dT)) = true := dts_lay yss
 have h2 : PyData.depth (.list (yss.map dT)) ≤ 64 := by
  have := dts_depth yss
  show PyData.depthAll (yss.map dT) + 1 ≤ 64
  omega
 simp only [h1, Bool.true_and, Bool.and_true, decide_eq_true_eq]
 exact h2
theorem TupsAt.rds {K : PySem.W.Frag} {H : Hp} {L : Addr} {bs : List Addr} {yss : List (List Nat)} (R : TupsAt H L bs yss) : RdDs K H (bs.map V.ref) (yss.map dT) := rd_tupN bs yss R.2.1 R.2.2
theorem TupsAt.rd {K : PySem.W.Frag} {H : Hp} {L : Addr} {bs : List Addr} {yss : List (List Nat)} (R : TupsAt H L bs yss) : RdD K H (.ref L) (.list (yss.map dT)) := .lst (.of R.1) R.rds
theorem TupsAt.pop {H : Hp} {L : Addr} {bs : List Addr} {yss : List (List Nat)} (R : TupsAt H L bs yss) : TupsAt (upd H L (.lst (bs.map V.ref).dropLast)) L bs.dropLast yss.dropLast := by
 refine ⟨by rw [upd_same, List.map_dropLast], by rw [List.length_dropLast, List.length_dropLast, R.2.1], fun i b hb => ?_⟩
 have hi : i < bs.length - 1 := by
  have := (List.getElem?_eq_some_iff.mp hb).1
  rw [List.length_dropLast] at this
  exact this
 rw [List.getElem?_dropLast, if_pos hi] at hb
 have h := R.2.2 i b hb
 rw [upd_ne (fun z => by rw [z, R.1] at h; cases h), h, List.getD_eq_getElem?_getD, List.getD_eq_getElem?_getD, List.getElem?_dropLast, if_pos (by rw [← R.2.1]; exact hi)]
theorem stepD_take (cur : List Nat) {ps : List (List Nat)} {s : List (List Nat) × List (List Nat)} {i : Nat} {g : List Nat} (h : ps[i]? = some g) : stepD cur (ps.take (i + 1)) s = if (stepD cur (ps.take i) s).1.contains (aft cur g) then stepD cur (ps.take i) s else ((stepD cur (ps.take i) s).1 ++ [aft cur g], (stepD cur (ps.take i) s).2 ++ [aft cur g]) := by
 unfold stepD
 rw [List.take_add_one, h, List.foldl_append]
 rfl
theorem stepD_len (cur : List Nat) : ∀ (ps : List (List Nat)) (s : List (List Nat) × List (List Nat)), s.1.length ≤ (stepD cur ps s).1.length
 | [], s => Nat.le_refl _
 | p :: ps, s => by
  show s.1.length ≤ (stepD cur ps (if s.1.contains (aft cur p) then s else (s.1 ++ [aft cur p], s.2 ++ [aft cur p]))).1.length
  refine Nat.le_trans ?_ (stepD_len cur ps _)
  split
  ·exact Nat.le_refl _
  ·show s.1.length ≤ (s.1 ++ [aft cur p]).length
   rw [List.length_append]; omega
theorem stepD_more (cur : List Nat) (ps : List (List Nat)) (s : List (List Nat) × List (List Nat)) (i : Nat) : (stepD cur (ps.take i) s).1.length ≤ (stepD cur ps s).1.length := by
 have : stepD cur ps s = stepD cur (ps.drop i) (stepD cur (ps.take i) s) := by
  unfold stepD
  rw [← List.foldl_append, List.take_append_drop]
 rw [this]
 exact stepD_len _ _ _
theorem dfs_len (ps : List (List Nat)) : ∀ (f : Nat) (fd ln r : List (List Nat)), dfs ps f fd ln = some r → fd.length ≤ r.length
 | f, fd, [], r, h => by
  have : fd = r := by cases f <;> exact Option.some.inj h
  rw [this]
  exact Nat.le_refl _
 | 0, fd, _ :: _, r, h => by cases h
 | f + 1, fd, x :: ln, r, h => by
  exact Nat.le_trans (stepD_len ((x :: ln).getLast?.getD []) ps (fd, (x :: ln).dropLast)) (dfs_len ps f (stepD ((x :: ln).getLast?.getD []) ps (fd, (x :: ln).dropLast)).1 (stepD ((x :: ln).getLast?.getD []) ps (fd, (x :: ln).dropLast)).2 r h)
theorem last_get (x : List Nat) (r : List (List Nat)) : (x :: r).getD ((x :: r).length - 1) [] = (x :: r).getLast?.getD [] := by
 rw [List.getLast?_eq_getElem?, List.getD_eq_getElem?_getD]
end Pm
namespace C28
open PySem L2 PySem.Spec PyProof.Rows
open Tb Pm
abbrev sThings : Stmt := top 20
def spThings : Sp := fun vs H Q _ => ∃ (L : Addr) (bs : List Addr) (ps : List (List Nat)) (k : Nat) (fd : List (List Nat)), vs = [.ref L] ∧ TupsAt H L bs ps ∧ PsOk ps k fd ∧ ∀ D cs H', H D = none → Same H H' → TupsAt H' D cs fd → Q (.ref D) H'
section
variable {P : Program} {w : World} {K : PySem.W.Frag} {mg : Str → Option Value} {base : Heap}
theorem scThings : FnScope ["_law_perms_here", "_law_found", "_law_line", "_law_here", "_law_perm", "_law_later"] ["_law_perms_here"] (defScope sThings) := FS
theorem ok_things {f : Addr} {fd : FuncData} (F : Fun K "_law_things" "_law_things" sThings f fd) (T : BlB mg) (GA : Fn P w K mg base CX0 1 "_law_after" ["_law_one", "_law_other"] spAfter) : FnOk P w K mg base CX0 2 f fd ["_law_perms_here"] spThings := by
 refine F.ok scThings (fun vs H Q E h => ?_) (fun cdv A outer s H vs Q E hr h => ?_)
 ·obtain ⟨L, bs, ps, k, fd, rfl, _⟩ := h; rfl
 ·obtain ⟨L, bs, ps, k, fd0, rfl, R0, B, q⟩ := h
  refine ⟨_, pss_cons (sset 1 rfl (pe_lst (pc (ct (call_tuple_rng rfl) T.tuple (pc (ct call_range1 T.range (pc (cb (lenK K) T.len (pc (pe_ix (ixL K) (vn 0) pe_int (fun _ _ => rfl)) pa_nil)) pa_nil)) pa_nil)) pa_nil)))
   (pss_cons (sset 2 rfl (ct call_list_of T.list (pc (vn 1) pa_nil)))
   (pss_cons (ps_while PassesOwn.never (pt_cmpR (neC K hr.units) (vn 2) (pe_lst pa_nil) (nomark _))
    (pss_cons (sset 3 rfl (pe_bm0 PySem.F.plainAttrs_list PySem.F.slot_list_pop PySem.F.type_list_pop mt_pop (vn 2)))
    (pss_one (ps_for PassesOwn.never rfl (itL K (vn 0)) (gn 4)
     (pss_cons (sset 5 rfl (fnc GA hr pass0 (pc (vn 3) (pc (vn 4) pa_nil))))
     (pss_one (ps_if (pt_cmpR (ninDK K hr.units) (vn 5) (vn 1) (by rfl))
      (pss_cons (ps_expr (pe_bm PySem.F.plainAttrs_list PySem.F.slot_list_append PySem.F.type_list_append mt_append (vn 1) (pc (vn 5) pa_nil)))
      (pss_one (ps_expr (pe_bm PySem.F.plainAttrs_list PySem.F.slot_list_append PySem.F.type_list_append mt_append (vn 2) (pc (vn 5) pa_nil))))) pss_nil)))))))
   (pss_one (ps_ret (vn 1))))), ?_⟩
  have sz : (16777216 : Nat) = sizeLine := by decide
  have k1 := B.k1
  have k10 := B.k10
  have p1 := B.p1
  have p9 := B.p9
  have n60 := B.n60
  obtain ⟨b0, _, hat0, hb0⟩ := R0.get (i := 0) (by omega)
  have e0 : ((ps.getD 0 []).map nV).length = k := by rw [List.length_map]; exact (B.pl _ (memL (by omega))).1
  refine ⟨_, rfl, L, _, _, _, rfl, rfl, .of R0.1, hat0, b0, _, rfl, .inr (.of hb0), _, rfl, fun r0 hr0 => ⟨r0, 0, _, rfl, upd_same, ⟨by omega, by omega, by rw [e0]; omega, by rw [e0]; omega⟩, by rw [e0]; omega, fun l hl => ?_⟩⟩
  rw [e0] at hl ⊢
  have ek : ((k : Int) - 0).toNat = k := by omega
  rw [ek] at *
  refine ⟨(by show 1 ≤ sizeLine; decide), fun D nD' => ?_⟩
  have s1 : Same H (upd H r0 (.rng 0 (k : Int))) := Same.upd hr0
  have s2 := s1.trans (Same.upd (o := .tup ((rngI 0 k).map V.int)) hl)
  have s3 := s2.trans (Same.upd (o := .lst [.ref l]) nD')
  have nD : H D = none := s2.free nD'
  have R1 : TupsAt (upd (upd (upd H r0 (.rng 0 (k : Int))) l (.tup ((rngI 0 k).map V.int))) D (.lst [.ref l])) D [l] [List.range k] := tups_one upd_same (by
   rw [upd_ne (fun z => by rw [← z, upd_same] at nD'; cases nD'), upd_same, rngV])
  generalize upd (upd (upd H r0 (.rng 0 (k : Int))) l (.tup ((rngI 0 k).map V.int))) D (.lst [.ref l]) = H3 at s3 R1 ⊢
  refine ⟨_, rfl, D, [.ref l], rfl, .inl (.of R1.1), fun Ln nL' => ?_⟩
  have s4 := Same.upd (H := H3) (o := .lst [.ref l]) nL'
  have nL : H Ln = none := s3.free nL'
  have nDL : D ≠ Ln := fun z => by
   have := R1.1
   rw [z, nL'] at this
   cases this
  have R2 : TupsAt (upd H3 Ln (.lst [.ref l])) Ln [l] [List.range k] := tups_one upd_same (s4 _ _ (R1.2.2 0 l rfl))
  have R1' := R1.mono s4
  have s34 := s3.trans s4
  generalize upd H3 Ln (.lst [.ref l]) = H4 at s34 R1' R2 ⊢
  have g0 : ∀ y ∈ [List.range k], Gk k y := fun y hy => by
   rw [List.mem_singleton.mp hy]
   exact ⟨List.length_range, fun x hx => List.mem_range.mp hx⟩
  refine tw_intro (fun m σ' H' => ∃ (cs es : List Addr) (yss ln : List (List Nat)) (v3 v4 v5 : Option V), σ' = [some (.ref L), some (.ref D), some (.ref Ln), v3, v4, v5] ∧ Same H H' ∧ TupsAt H' D cs yss ∧ TupsAt H' Ln es ln ∧ (∀ y ∈ yss, Gk k y) ∧ (∀ y ∈ ln, Gk k y) ∧ ln.length ≤ yss.length ∧ dfs ps m yss ln = some fd0)
   (fun σ' H' => ∃ (cs : List Addr) (v3 v4 v5 : Option V), σ' = [some (.ref L), some (.ref D), some (.ref Ln), v3, v4, v5] ∧ Same H H' ∧ TupsAt H' D cs fd0) ?hend ⟨61, _, _, _, _, _, _, _, rfl, s34, R1', R2, g0, g0, Nat.le_refl _, B.run⟩ ?turn
  case hend =>
   rintro σ' H' ⟨cs, v3, v4, v5, rfl, sm, R⟩
   exact ⟨_, rfl, q D cs H' nD sm R⟩
  case turn =>
   rintro hend m σ' H' ⟨cs, es, yss, ln, v3, v4, v5, rfl, sm, R, S, gd, gl, ll, run⟩
   refine ⟨_, rfl, (by show 0 ≤ sizeLine; decide), fun e0 ne0 => ?_⟩
   have sE := Same.upd (H := H') (o := .lst []) ne0
   have RE := R.mono sE
   have SE := S.mono sE
   have smE := sm.trans sE
   refine ⟨_, _, SE.rd, .lst (.of upd_same) .nil, shapedTs ln, rfl, _, rfl, ?_⟩
   generalize upd H' e0 (.lst []) = HE at RE SE smE ⊢
   rw [eqvNil]
   cases ln with
   | nil =>
    refine iteN (by decide) (hend _ _ ⟨cs, v3, v4, v5, rfl, smE, ?_⟩)
    have : yss = fd0 := by cases m <;> exact Option.some.inj run
    rw [← this]
    exact RE
   | cons x r =>
    refine iteP rfl ?_
    cases m with
    | zero => cases run
    | succ m =>
     have run : dfs ps m (stepD ((x :: r).getLast?.getD []) ps (yss, (x :: r).dropLast)).1 (stepD ((x :: r).getLast?.getD []) ps (yss, (x :: r).dropLast)).2 = some fd0 := run
     have esl : es.length = (x :: r).length := SE.2.1
     have hel : es.length - 1 < es.length := by rw [esl, List.length_cons]; omega
     have hlast := SE.2.2 (es.length - 1) _ (List.getElem?_eq_getElem hel)
     have hcg : Gk k ((x :: r).getLast?.getD []) := by
      rw [← last_get]
      exact gl _ (memL (by rw [List.length_cons]; omega))
     have el : (x :: r).getD (es.length - 1) [] = (x :: r).getLast?.getD [] := by rw [esl]; exact last_get x r
     rw [el] at hlast
     have hlen := dfs_len ps m _ _ _ run
     have gl0 : ∀ y ∈ (x :: r).dropLast, Gk k y := fun y hy => gl y (List.dropLast_subset _ hy)
     have ll0 : (x :: r).dropLast.length ≤ yss.length := by rw [List.length_dropLast]; omega
     have hxs : (es.map V.ref)[(es.map V.ref).length - 1]? = some (.ref es[es.length - 1]) := by rw [List.length_map, List.getElem?_map, List.getElem?_eq_getElem hel]; rfl
     have SP := SE.pop
     have RP := RE.updM (o := .lst (es.map V.ref).dropLast) SE.1 nDL
     have smP := smE.updr (o := .lst (es.map V.ref).dropLast) nL
     have hcP : upd HE Ln (.lst (es.map V.ref).dropLast) es[es.length - 1] = some (.tup (((x :: r).getLast?.getD []).map nV)) := by
      rw [upd_ne (fun z => by rw [z, SE.1] at hlast; cases hlast)]
      exact hlast
     refine ⟨_, fun _ _ z => z, _, rfl, .inl ⟨rfl, _, .of SE.1⟩, Ln, _, _, rfl, rfl, SE.1, hxs, ?_⟩
     generalize upd HE Ln (.lst (es.map V.ref).dropLast) = HP at SP RP smP hcP ⊢
     generalize es[es.length - 1] = ea at hcP ⊢
     generalize (x :: r).getLast?.getD [] = cur at hcP hcg run hlen ⊢
     generalize (x :: r).dropLast = ln0 at SP run hlen gl0 ll0
     have pll : (bs.map V.ref).length = ps.length := by rw [List.length_map, R0.2.1]
     refine ⟨_, rfl, L, rfl, ⟨_, .of (smP _ _ R0.1)⟩, ?_⟩
     refine for_seq (H0 := H) (seq_lst (K := K) (.of R0.1)) (fun i τ HH => ∃ (cs' es' : List Addr) (w4 w5 : Option V), τ = [some (.ref L), some (.ref D), some (.ref Ln), some (.ref ea), w4, w5] ∧ Same H HH ∧ TupsAt HH D cs' (stepD cur (ps.take i) (yss, ln0)).1 ∧ TupsAt HH Ln es' (stepD cur (ps.take i) (yss, ln0)).2 ∧ (∀ y ∈ (stepD cur (ps.take i) (yss, ln0)).1, Gk k y) ∧ (∀ y ∈ (stepD cur (ps.take i) (yss, ln0)).2, Gk k y) ∧ (stepD cur (ps.take i) (yss, ln0)).2.length ≤ (stepD cur (ps.take i) (yss, ln0)).1.length ∧ HH ea = some (.tup (cur.map nV)))
      ⟨_, _, _, _, rfl, smP, RP, SP, gd, gl0, ll0, hcP⟩ (fun i τ HH h => h.choose_spec.choose_spec.choose_spec.choose_spec.2.1) ?_ ?_
     ·rintro i y τ HH hy ⟨cs', es', w4, w5, rfl, sH, R', S', gd', gl', ll', hc'⟩
      obtain ⟨b, rfl, hi, hb0'⟩ := R0.ref hy
      have hbH := sH _ _ hb0'
      have gg : Gk k (ps.getD i []) := B.pl _ (memL hi)
      have pi : ps[i]? = some (ps.getD i []) := getL hi
      generalize ps.getD i [] = gp at *
      have hcl : (stepD cur (ps.take i) (yss, ln0)).1.length ≤ 60 := Nat.le_trans (stepD_more cur ps (yss, ln0) i) (by omega)
      have est := stepD_take cur (s := (yss, ln0)) pi
      rw [est]
      generalize stepD cur (ps.take i) (yss, ln0) = zs at *
      refine ⟨_, rfl, _, rfl, ea, b, k, cur, gp, rfl, hc', hbH, hcg, gg, by omega, fun tp HF ntp sF hF => ?_⟩
      have RF := R'.mono sF
      have SF := S'.mono sF
      have go : Gk k (aft cur gp) := aft_good hcg gg
      refine ⟨_, rfl, _, rfl, D, _, (zs.1.map fun ns => PyData.tuple ((nI ns).map PyData.int)), .tuple ((nI (aft cur gp)).map PyData.int), rfl, .inl (.of RF.1), rd_tupN _ _ RF.2.1 RF.2.2, .tup (.of (by rw [nI_V]; exact hF)) (RdDs.ints _), dts_lay zs.1, canLay_tup _, depth_tup _, _, rfl, ?_⟩
      rw [if_pos rfl, any_contains]
      have zl := RF.2.1
      have wl := SF.2.1
      refine ite2 (fun h2 => ?_) (fun h2 => ?_)
      ·have h2 : zs.1.contains (aft cur gp) = false := by simpa using h2
       rw [if_neg (by rw [h2]; decide)]
       refine ⟨_, rfl, .inl ⟨rfl, _, .of RF.1⟩, _, rfl, D, _, _, rfl, rfl, RF.1, by rw [List.length_map]; omega, ?_⟩
       have R2' := RF.push hF
       have S2' := SF.updM (o := .lst (cs'.map V.ref ++ [.ref tp])) RF.1 nDL.symm
       have s2' := (sH.trans sF).updr (o := .lst (cs'.map V.ref ++ [.ref tp])) nD
       have hF2 : upd HF D (.lst (cs'.map V.ref ++ [.ref tp])) tp = some (.tup ((aft cur gp).map nV)) := by
        rw [upd_ne (fun z => by rw [z, RF.1] at hF; cases hF)]
        exact hF
       have hc2 : upd HF D (.lst (cs'.map V.ref ++ [.ref tp])) ea = some (.tup (cur.map nV)) := by
        have := sF _ _ hc'
        rw [upd_ne (fun z => by rw [z, RF.1] at this; cases this)]
        exact this
       generalize upd HF D (.lst (cs'.map V.ref ++ [.ref tp])) = HG at R2' S2' s2' hF2 hc2 ⊢
       refine ⟨_, rfl, .inl ⟨rfl, _, .of S2'.1⟩, _, rfl, Ln, _, _, rfl, rfl, S2'.1, by rw [List.length_map]; omega, ?_⟩
       refine ⟨cs' ++ [tp], es' ++ [tp], _, _, rfl, s2'.updr nL, R2'.updM S2'.1 nDL, S2'.push hF2, fun y hy => ?_, fun y hy => ?_, ?_, ?_⟩
       ·rcases List.mem_append.mp hy with z | z
        ·exact gd' y z
        ·rw [List.mem_singleton.mp z]; exact go
       ·rcases List.mem_append.mp hy with z | z
        ·exact gl' y z
        ·rw [List.mem_singleton.mp z]; exact go
       ·show (zs.2 ++ [aft cur gp]).length ≤ (zs.1 ++ [aft cur gp]).length
        rw [List.length_append, List.length_append]; omega
       ·rw [upd_ne (fun z => by rw [z, S2'.1] at hc2; cases hc2)]
        exact hc2
      ·have h2 : zs.1.contains (aft cur gp) = true := by simpa using h2
       rw [if_pos h2]
       exact ⟨cs', es', _, _, rfl, sH.trans sF, RF, SF, gd', gl', ll', sF _ _ hc'⟩
     ·rintro τ HH ⟨cs', es', w4, w5, rfl, sH, R', S', gd', gl', ll', hc'⟩
      rw [pll, List.take_length] at R' S' gd' gl' ll'
      exact ⟨m, by omega, cs', es', _, _, _, _, _, rfl, sH, R', S', gd', gl', ll', run⟩
end
end C28
namespace Pm
open PySem L2 PySem.Spec PyProof.Rows
open Tb
theorem comp_new {W : Type} (adr : W → Addr) (Pr : Nat → W → Hp → Prop) (Nw : W → Hp → Prop) {J : It} {own : List Str} {caps : List Nat} {te : TE} {σ : L2.St} {H : Hp} {Q : VK} {xs : List V} (S : SeqIt J H xs) (cs : L2.St) (hcs : capS own caps σ = none :: cs) (hn : xs.length ≤ 1000)
  (mono : ∀ i w H H', Same H H' → Pr i w H → Pr i w H') (anti : ∀ w H H', Same H H' → Nw w H' → Nw w H) (hu : ∀ i w H0 H1 D o ys ys', Pr i w H1 → Nw w H0 → H0 D = some (.lst o) → H1 D = some (.lst ys) → Pr i w (upd H1 D (.lst ys')))
  (hs : ∀ (i : Nat) y, xs[i]? = some y → ∀ H', Same H H' → ∀ R : VK, (∀ w H5, Same H' H5 → Pr i w H5 → Nw w H' → R (.ref (adr w)) H5) → te (some y :: cs) H' R)
  (hd : ∀ D (ws : List W) H', H D = none → Same H H' → H' D = some (.lst (ws.map fun w => V.ref (adr w))) → ws.length = xs.length → (∀ (i : Nat) w, ws[i]? = some w → Pr i w H' ∧ Nw w H) → (∀ (i j : Nat) w w', i < j → ws[i]? = some w → ws[j]? = some w' → ∃ Hm, Pr i w Hm ∧ Nw w' Hm) → Q (.ref D) H') : CompK own caps (gName 0) tTrue te σ Q J H := by
 refine comp_gen (xs := xs) (fun D i ys H' => Same H H' ∧ ∃ ws : List W, ys = ws.map (fun w => V.ref (adr w)) ∧ ws.length = i ∧ (∀ (i : Nat) w, ws[i]? = some w → Pr i w H' ∧ Nw w H ∧ ∃ H0 o, H0 D = some (.lst o) ∧ Nw w H0) ∧ (∀ (i j : Nat) w w', i < j → ws[i]? = some w → ws[j]? = some w' → ∃ Hm, Pr i w Hm ∧ Nw w' Hm)) cs hcs (by omega) ?_ ?_ ?_ ?_
 ·intro D i ys H' hD hD' p
  have S' := S.mono p.1
  exact ⟨fun hi => ⟨S'.go i H' (Same.refl _) hi, fun x H3 y => S'.yld i H' x H3 (Same.refl _) hi y⟩, fun e => e ▸ S'.stop H' (Same.refl _)⟩
 ·intro D hD
  exact ⟨Same.upd hD, [], rfl, rfl, (fun i w hw => by cases hw), (fun i j w w' _ h => by cases h)⟩
 ·rintro D i y ys H' hD hD' hy ⟨sm, ws, rfl, wl, hw, hp⟩ R k
  refine hs i y hy H' sm R fun w H5 s5 p5 n5 => ?_
  have hD5 := s5 _ _ hD'
  have lst : ∀ (b : Nat) v, (ws ++ [w])[b]? = some v → (b < ws.length ∧ ws[b]? = some v) ∨ (b = ws.length ∧ v = w) := fun b v hb => by
   by_cases hbl : b < ws.length
   ·rw [List.getElem?_append_left hbl] at hb
    exact .inl ⟨hbl, hb⟩
   ·rw [List.getElem?_append_right (by omega)] at hb
    have hb0 : b - ws.length = 0 := by
     apply Classical.byContradiction
     intro z
     rw [List.getElem?_eq_none (by rw [List.length_singleton]; omega)] at hb
     cases hb
    rw [hb0] at hb
    cases hb
    exact .inr ⟨by omega, rfl⟩
  refine k _ H5 hD5 ⟨(sm.trans s5).updr hD, ws ++ [w], by rw [List.map_append]; rfl, by rw [List.length_append, wl]; rfl, fun b v hv => ?_, fun a b v v' hab ha hb => ?_⟩
  ·rcases lst b v hv with ⟨_, hv⟩ | ⟨hb, hv⟩
   ·obtain ⟨h1, h2, H0, o, h3, h4⟩ := hw b v hv
    exact ⟨hu b v H0 H5 D o _ _ (mono b v _ _ s5 h1) h4 h3 hD5, h2, H0, o, h3, h4⟩
   ·subst hv
    subst hb
    rw [← wl] at p5
    exact ⟨hu _ v H' H5 D _ _ _ p5 n5 hD' hD5, anti v _ _ sm n5, H', _, hD', n5⟩
  ·rcases lst b v' hb with ⟨hbl, hb⟩ | ⟨hbl, hb⟩
   ·rw [List.getElem?_append_left (by omega)] at ha
    exact hp a b v v' hab ha hb
   ·subst hb
    rw [List.getElem?_append_left (by omega)] at ha
    exact ⟨H', (hw a v ha).1, n5⟩
 ·rintro D ys H5 hD hD' hyl ⟨sm, ws, rfl, wl, hw, hp⟩
  exact hd D ws H5 hD sm hD' wl (fun i w h => ⟨(hw i w h).1, (hw i w h).2.1⟩) hp
theorem comp_idx {J : It} {own : List Str} {caps : List Nat} {te : TE} {σ : L2.St} {H : Hp} {Q : VK} {xs : List V} (S : SeqIt J H xs) (cs : L2.St) (hcs : capS own caps σ = none :: cs) (F : Nat → V) (hz : xs.length ≤ 1000)
  (hs : ∀ (i : Nat) y, xs[i]? = some y → ∀ H', Same H H' → ∀ R : VK, (∀ H5, Same H' H5 → R (F i) H5) → te (some y :: cs) H' R)
  (hd : ∀ D H', H D = none → Same H H' → H' D = some (.lst ((List.range xs.length).map F)) → Q (.ref D) H') : CompK own caps (gName 0) tTrue te σ Q J H := by
 refine comp_gen (xs := xs) (fun D i ys H' => Same H H' ∧ ys = (List.range i).map F) cs hcs (by omega) ?_ ?_ ?_ ?_
 ·intro D i ys H' hD hD' p
  have S' := S.mono p.1
  exact ⟨fun hi => ⟨S'.go i H' (Same.refl _) hi, fun x H3 y => S'.yld i H' x H3 (Same.refl _) hi y⟩, fun e => e ▸ S'.stop H' (Same.refl _)⟩
 ·intro D hD
  exact ⟨Same.upd hD, rfl⟩
 ·rintro D i y ys H' hD hD' hy ⟨sm, rfl⟩ R k
  refine hs i y hy H' sm R fun H5 s5 => k _ H5 (s5 _ _ hD') ⟨(sm.trans s5).updr hD, ?_⟩
  rw [List.range_succ, List.map_append]
  rfl
 ·rintro D ys H5 hD hD' hyl ⟨sm, rfl⟩
  exact hd D H5 hD sm hD'
theorem tupZK {X : Cx} (K : PySem.W.Frag) (hK : X.K = K := by rfl) : CallR X (.type "tuple") (fun xs H Q => ∃ p ys, xs = [.ref p] ∧ SqL K H p ys ∧ ∀ l H', H l = none → Same H H' → Tz H' l ys → Q (.ref l) H') := hK ▸ call_tupleZ
theorem Tz.updL {H : Hp} {a D : Addr} {ys zs : List V} {o : HO} (h : Tz H a ys) (hD : H D = some (.lst zs)) : Tz (upd H D o) a ys := by
 obtain ⟨u, h1, h2⟩ := h
 exact ⟨u, by rw [upd_ne (fun z => by rw [z, hD] at h1; cases h1)]; exact h1, h2⟩
def keyL (y : List Nat) : List Key := y.map fun x : Nat => Sum.inl (x : Int)
theorem keyL_V (y : List Nat) : (keyL y).map kV = y.map nV := by
 unfold keyL
 rw [List.map_map]
 rfl
theorem keyL_inj {a b : List Nat} (h : keyL a = keyL b) : a = b := by
 unfold keyL at h
 refine (List.map_inj_right (fun x y e => ?_)).mp h
 injection e with e
 omega
def kvN (fd : List (List Nat)) (os : List Nat) (m : Nat) : List (List Key × V) := (List.range m).map fun i => (keyL (fd.getD (os.getD i 0) []), .int (i : Nat))
section
variable {fd : List (List Nat)} {os : List Nat}
theorem fd_inj (nd : fd.Nodup) {a b : Nat} (ha : a < fd.length) (hb : b < fd.length) (h : fd.getD a [] = fd.getD b []) : a = b := by
 have h1 := getL ha
 have h2 := getL hb
 rw [h, ← h2] at h1
 exact (List.getElem?_inj ha nd).mp h1
theorem key_eq (nd : fd.Nodup) {n : Nat} (hn : fd.length = n) (O : Ord n os) {i c : Nat} (hi : i < n) (hc : c < n) : keyL (fd.getD (os.getD i 0) []) = keyL (fd.getD c []) ↔ i = pos os c := by
 have ho := o_lt O hi
 obtain ⟨p1, p2⟩ := pos_lt O hc
 constructor
 ·intro h
  have := fd_inj nd (by omega) (by omega) (keyL_inj h)
  exact inj O hi p1 (by rw [this, p2])
 ·rintro rfl
  rw [p2]
theorem kvN_put (nd : fd.Nodup) {n : Nat} (hn : fd.length = n) (O : Ord n os) {m : Nat} (hm : m < n) : putK (kvN fd os m) (keyL (fd.getD (os.getD m 0) [])) (.int (m : Nat)) = kvN fd os (m + 1) := by
 have : (kvN fd os m).any (fun kv => decide (kv.1 = keyL (fd.getD (os.getD m 0) []))) = false := by
  rw [Bool.eq_false_iff]
  intro h
  rw [List.any_eq_true] at h
  obtain ⟨kv, hkv, e⟩ := h
  obtain ⟨i, hi, rfl⟩ := List.mem_map.mp hkv
  have hi := List.mem_range.mp hi
  have e := of_decide_eq_true e
  have := fd_inj nd (by have := o_lt O (show i < n by omega); omega) (by have := o_lt O hm; omega) (keyL_inj e)
  have := inj O (by omega) hm this
  omega
 unfold putK
 rw [this]
 unfold kvN
 rw [List.range_succ, List.map_append]
 rfl
theorem kvN_val (nd : fd.Nodup) {n : Nat} (hn : fd.length = n) (O : Ord n os) {c : Nat} (hc : c < n) : valV (kvN fd os n) (keyL (fd.getD c [])) = some (.int (pos os c : Nat)) := by
 obtain ⟨p1, p2⟩ := pos_lt O hc
 unfold valV kvN
 rw [List.find?_map]
 have : (List.range n).find? ((fun kv : List Key × V => decide (kv.1 = keyL (fd.getD c []))) ∘ fun i : Nat => ((keyL (fd.getD (os.getD i 0) []), V.int (i : Nat)) : List Key × V)) = some (pos os c) := by
  rw [List.find?_range_eq_some]
  refine ⟨decide_eq_true ((key_eq nd hn O p1 hc).mpr rfl), List.mem_range.mpr p1, fun j hj => ?_⟩
  rw [Bool.not_eq_true']
  refine decide_eq_false fun h => ?_
  have := (key_eq nd hn O (by omega) hc).mp h
  omega
 rw [this]
 rfl
theorem aft_at (cl : ∀ a ∈ fd, ∀ b ∈ fd, aft a b ∈ fd) {a b : Nat} (ha : a < fd.length) (hb : b < fd.length) : mul (tabP fd) a b < fd.length ∧ fd.getD (mul (tabP fd) a b) [] = aft (fd.getD a []) (fd.getD b []) := by
 have e : mul (tabP fd) a b = fd.findIdx (· == aft (fd.getD a []) (fd.getD b [])) := by
  unfold mul tabP
  rw [List.getD_eq_getElem?_getD (l := fd.map _), List.getElem?_map, getL ha]
  show (fd.map fun b => fd.findIdx (· == aft (fd.getD a []) b)).getD b 0 = _
  rw [List.getD_eq_getElem?_getD, List.getElem?_map, getL hb]
  rfl
 have hm := cl _ (memL ha) _ (memL hb)
 have hl : fd.findIdx (· == aft (fd.getD a []) (fd.getD b [])) < fd.length := List.findIdx_lt_length.mpr ⟨_, hm, by exact beq_self_eq_true _⟩
 rw [e]
 refine ⟨hl, ?_⟩
 have := List.findIdx_getElem (w := hl)
 rw [List.getD_eq_getElem?_getD, List.getElem?_eq_getElem hl]
 exact eq_of_beq this
theorem tabP_len (fd : List (List Nat)) : (tabP fd).length = fd.length := by unfold tabP; rw [List.length_map]
end
theorem era_map {α β : Type} (f : α → β) : ∀ (xs : List α) (j : Nat), (xs.map f).eraseIdx j = (xs.eraseIdx j).map f
 | [], j => rfl
 | x :: xs, 0 => rfl
 | x :: xs, j + 1 => by
  show f x :: (xs.map f).eraseIdx j = f x :: (xs.eraseIdx j).map f
  rw [era_map f xs j]
theorem TupsAt.erase {H : Hp} {L : Addr} {bs : List Addr} {yss : List (List Nat)} (R : TupsAt H L bs yss) (j : Nat) : TupsAt (upd H L (.lst ((bs.map V.ref).eraseIdx j))) L (bs.eraseIdx j) (yss.eraseIdx j) := by
 refine ⟨by rw [upd_same, era_map], by rw [List.length_eraseIdx, List.length_eraseIdx, R.2.1], fun i b hb => ?_⟩
 rw [List.getElem?_eraseIdx] at hb
 rw [List.getD_eq_getElem?_getD, List.getElem?_eraseIdx]
 have key : ∀ i', bs[i']? = some b → upd H L (.lst ((bs.map V.ref).eraseIdx j)) b = some (.tup ((yss[i']?.getD []).map nV)) := fun i' h' => by
  have h := R.2.2 i' b h'
  rw [upd_ne (fun z => by rw [z, R.1] at h; cases h), h, List.getD_eq_getElem?_getD]
 by_cases hi : i < j
 ·rw [if_pos hi] at hb ⊢
  exact key _ hb
 ·rw [if_neg hi] at hb ⊢
  exact key _ hb
theorem TupsAt.sub {H : Hp} {L A : Addr} {cs : List Addr} {fd : List (List Nat)} (R : TupsAt H L cs fd) (os : List Nat) (ho : ∀ i ∈ os, i < fd.length) (hA : H A = some (.lst ((os.map fun i => cs.getD i 0).map V.ref))) : TupsAt H A (os.map fun i => cs.getD i 0) (os.map fun i => fd.getD i []) := by
 refine ⟨hA, by rw [List.length_map, List.length_map], fun i b hb => ?_⟩
 rw [List.getElem?_map] at hb
 cases e : os[i]? with
 | none => rw [e] at hb; cases hb
 | some j =>
  rw [e] at hb
  have hj := ho j (List.mem_of_getElem? e)
  have hjc : j < cs.length := by rw [R.2.1]; exact hj
  have hb' : cs[j]? = some b := by
   rw [← Option.some.inj hb]
   show cs[j]? = some (cs.getD j 0)
   rw [List.getD_eq_getElem?_getD, List.getElem?_eq_getElem hjc]
   rfl
  rw [R.2.2 j b hb', List.getD_eq_getElem?_getD (l := os.map _), List.getElem?_map, e]
  rfl
end Pm
namespace C28
open PySem L2 PySem.Spec PyProof.Rows
open Tb Pm
abbrev sGroup : Stmt := top 21
def spGroup : Sp := fun vs H Q _ => ∃ (p : Addr) (b : Nat) (gr : Bool), vs = [.ref p, .bl gr] ∧ Tape H p b ∧ b + 100 < 2 ^ 60 ∧ ∀ g t H', Tk p H H' → Tape H' p (b + 70) → GT H' g t → PW t → t.length ≤ 24 → Q (.ref g) H'
theorem cut_from {xs : List V} (h : 1 ≤ xs.length) : cutV xs (some 1) none = xs.drop 1 := by
 unfold cutV
 have e1 : HT.sIx xs.length 0 (some 1) = 1 := by
  have := HT.sIx_nat xs.length 0 1
  rw [show ((1 : Nat) : Int) = 1 from rfl] at this
  rw [this]
  omega
 rw [e1, HT.sIx_none]
 rw [List.take_of_length_le (by rw [List.length_drop]; omega)]
theorem cut_to {xs : List V} (h : 1 ≤ xs.length) : cutV xs none (some 1) = xs.take 1 := by
 unfold cutV
 have e1 : HT.sIx xs.length xs.length (some 1) = 1 := by
  have := HT.sIx_nat xs.length xs.length 1
  rw [show ((1 : Nat) : Int) = 1 from rfl] at this
  rw [this]
  omega
 rw [e1, HT.sIx_none]
 rfl
theorem drop_refs {cs : List Addr} {n : Nat} (h : cs.length = n) : (cs.map V.ref).drop 1 = (((List.range (n - 1)).map (· + 1)).map fun i => cs.getD i 0).map V.ref := by
 refine List.ext_getElem? fun i => ?_
 rw [List.getElem?_drop, List.getElem?_map, List.getElem?_map, List.getElem?_map, List.getElem?_map]
 by_cases hi : i < n - 1
 ·rw [List.getElem?_range hi, List.getElem?_eq_getElem (show 1 + i < cs.length by omega)]
  show some (V.ref cs[1 + i]) = some (V.ref (cs.getD (i + 1) 0))
  rw [List.getD_eq_getElem?_getD, List.getElem?_eq_getElem (show i + 1 < cs.length by omega)]
  congr 3
  omega
 ·rw [List.getElem?_eq_none (by omega), List.getElem?_eq_none (by rw [List.length_range]; omega)]
  rfl
theorem take_refs {cs : List Addr} (h : 1 ≤ cs.length) : (cs.map V.ref).take 1 = (([0] : List Nat).map fun i => cs.getD i 0).map V.ref := by
 cases cs with
 | nil => cases h
 | cons c r => rfl
theorem Tk.updN {p l : Addr} {H H1 : Hp} {o : HO} (a : Tk p H H1) (h : H l = none) : Tk p H (upd H1 l o) := fun c u e n => by
 rw [upd_ne (ne_of_none e h)]
 exact a c u e n
theorem Tk.same {p : Addr} {H H1 H2 : Hp} (a : Tk p H H1) (s : Same H1 H2) : Tk p H H2 := a.trans (Tk.of s)
theorem Tape.updN {p l : Addr} {H : Hp} {b : Nat} {o : HO} (h : Tape H p b) (hl : l ≠ p) : Tape (upd H l o) p b := by
 obtain ⟨c, l', n, h1, h2⟩ := h
 exact ⟨c, l', n, by rw [upd_ne hl.symm]; exact h1, h2⟩
theorem map_at (os : List Nat) (g : Nat → Nat) : (List.range os.length).map (fun j => g (os.getD j 0)) = os.map g := by
 refine List.ext_getElem? fun i => ?_
 rw [List.getElem?_map, List.getElem?_map]
 by_cases hi : i < os.length
 ·rw [List.getElem?_range hi, List.getElem?_eq_getElem hi]
  show some (g (os.getD i 0)) = some (g os[i])
  rw [List.getD_eq_getElem?_getD, List.getElem?_eq_getElem hi]
  rfl
 ·rw [List.getElem?_eq_none (by rw [List.length_range]; omega), List.getElem?_eq_none (by omega)]
  rfl
theorem mapf_at {os : List Nat} {fd : List (List Nat)} {i : Nat} (hi : i < os.length) : (os.map fun i => fd.getD i []).getD i [] = fd.getD (os.getD i 0) [] := by
 rw [List.getD_eq_getElem?_getD, List.getElem?_map, List.getElem?_eq_getElem hi, List.getD_eq_getElem?_getD (l := os), List.getElem?_eq_getElem hi]
 rfl
section
variable {P : Program} {w : World} {K : PySem.W.Frag} {mg : Str → Option Value} {base : Heap}
theorem scGroup : FnScope ["_law_tape_here", "_law_great", "_law_things_here", "_law_left", "_law_order", "_law_numbers", "_law_k"] ["_law_tape_here", "_law_great"] (defScope sGroup) := FS
theorem ok_group {f : Addr} {fd : FuncData} (F : Fun K "_law_group" "_law_group" sGroup f fd) (T : BlB mg) (GT' : Fn P w K mg base CX0 2 "_law_things" ["_law_perms_here"] spThings) (GP : Fn P w K mg base CX0 2 "_law_perms" ["_law_tape_here", "_law_great"] spPerms) (GK : Fn P w K mg base CX0 1 "_law_pick" ["_law_tape_here", "_law_many"] spPick) (GA : Fn P w K mg base CX0 1 "_law_after" ["_law_one", "_law_other"] spAfter) :
  FnOk P w K mg base CX0 3 f fd ["_law_tape_here", "_law_great"] spGroup := by
 refine F.ok scGroup (fun vs H Q E h => ?_) (fun cdv A outer s H vs Q E hr h => ?_)
 ·obtain ⟨p, b, gr, rfl, _⟩ := h; rfl
 ·obtain ⟨p, b, gr, rfl, T0, hb, q⟩ := h
  have hu : (A.deeper (envOfC "_law_group" (defScope sGroup) s.heap.objs.size f cdv)).units + 1 < cLine := by have := hr.un; omega
  refine ⟨_, pss_cons (sset 2 rfl (fnc GT' hr pass0 (pc (fnc GP hr pass0 (pc (vn 0) (pc (vn 1) pa_nil))) pa_nil)))
   (pss_cons (sset 3 rfl (pe_slice sl_list (vn 2) (po_some pe_int) po_none))
   (pss_cons (sset 4 rfl (pe_slice sl_list (vn 2) po_none (po_some pe_int)))
   (pss_cons (ps_while PassesOwn.never (pt_cmpR (neC K hr.units) (vn 3) (pe_lst pa_nil) (nomark _))
    (pss_one (ps_expr (pe_bm PySem.F.plainAttrs_list PySem.F.slot_list_append PySem.F.type_list_append mt_append (vn 4)
     (pc (pe_bm PySem.F.plainAttrs_list PySem.F.slot_list_pop PySem.F.type_list_pop mt_popAt (vn 3) (pc (fnc GK hr pass0 (pc (vn 0) (pc (cb (lenK K) T.len (pc (vn 3) pa_nil)) pa_nil))) pa_nil)) pa_nil)))))
   (pss_cons (sset 5 rfl pe_dnewT)
   (pss_cons (ps_for PassesOwn.never rfl (rng1 T.range (pc (cb (lenK K) T.len (pc (vn 4) pa_nil)) pa_nil)) (gn 6)
    (pss_one (ps_dput hu (vn 5) (pe_ix (ixL K) (vn 4) (vn 6) (fun _ _ => rfl)) (vn 6) (by rfl))))
   (pss_one (ps_ret (ct call_tuple_of T.tuple (pc (cmp ["_law_one"] [5, 4] ["_law_one", "_law_numbers", "_law_order"] rfl (itL K (vn 4)) (fun _ _ _ _ _ => gnf 0 rfl) (fun _ _ _ _ _ => pif_nil)
    (fun _ _ _ _ _ => ct (tupZK K) (by exact T.tuple) (pc (cmp ["_law_other"] [1, 0] ["_law_other", "_law_numbers", "_law_one"] rfl (itL K (vn 2)) (fun _ _ _ _ _ => gn 0) (fun _ _ _ _ _ => pif_nil)
     (fun _ _ _ _ _ => pe_dget hu (vn 1) (fnc GA hr pass0 (pc (vn 2) (pc (vn 0) pa_nil))) (fun _ _ => rfl))) pa_nil))) pa_nil))))))))), ?_⟩
  have sz : (16777216 : Nat) = sizeLine := by decide
  refine ⟨_, rfl, _, rfl, p, b, gr, rfl, T0, by omega, fun L bs ps H1 k1 T1 hps R1 => ?_⟩
  obtain ⟨fd0, B⟩ := ps_of hps
  generalize (ps.getD 0 []).length = k at B
  have n60 := B.n60
  have k10 := B.k10
  have n1 : 1 ≤ fd0.length := (List.getElem?_eq_some_iff.mp B.hd).1
  refine ⟨L, bs, ps, k, fd0, rfl, R1, B, fun D cs H2 nD s2 R2 => ?_⟩
  have csl : cs.length = fd0.length := R2.2.1
  have cml : (cs.map V.ref).length = fd0.length := by rw [List.length_map, csl]
  refine ⟨_, rfl, _, rfl, D, _, rfl, .of R2.1, fun Lf nLf => ?_⟩
  rw [cut_from (by omega), drop_refs csl]
  have s3 := Same.upd (H := H2) (o := .lst ((((List.range (fd0.length - 1)).map (· + 1)).map fun i => cs.getD i 0).map V.ref)) nLf
  have hLf : upd H2 Lf (.lst ((((List.range (fd0.length - 1)).map (· + 1)).map fun i => cs.getD i 0).map V.ref)) Lf = some (.lst ((((List.range (fd0.length - 1)).map (· + 1)).map fun i => cs.getD i 0).map V.ref)) := upd_same
  generalize upd H2 Lf (.lst ((((List.range (fd0.length - 1)).map (· + 1)).map fun i => cs.getD i 0).map V.ref)) = H3 at s3 hLf ⊢
  refine ⟨_, rfl, _, rfl, D, _, rfl, .of (s3 _ _ R2.1), fun Od nOd => ?_⟩
  rw [cut_to (by omega), take_refs (by omega)]
  have s4 := Same.upd (H := H3) (o := .lst ((([0] : List Nat).map fun i => cs.getD i 0).map V.ref)) nOd
  have hOd : upd H3 Od (.lst ((([0] : List Nat).map fun i => cs.getD i 0).map V.ref)) Od = some (.lst ((([0] : List Nat).map fun i => cs.getD i 0).map V.ref)) := upd_same
  generalize upd H3 Od (.lst ((([0] : List Nat).map fun i => cs.getD i 0).map V.ref)) = H4 at s4 hOd ⊢
  have s24 := s3.trans s4
  have R4 := R2.mono s24
  have nOd2 : H2 Od = none := s3.free nOd
  have nLO : Lf ≠ Od := fun z => by rw [z, nOd] at hLf; cases hLf
  have T2 := T1.mono s2
  have T4 := T2.mono s24
  have nLp : Lf ≠ p := T2.neN nLf
  have nOp : Od ≠ p := T2.neN nOd2
  have RL4 := R4.sub ((List.range (fd0.length - 1)).map (· + 1)) (fun i hi => by
   obtain ⟨j, hj, rfl⟩ := List.mem_map.mp hi
   have := List.mem_range.mp hj
   omega) (s4 _ _ hLf)
  have RO4 := R4.sub [0] (fun i hi => by rw [List.mem_singleton.mp hi]; omega) hOd
  have p0 : ([0] ++ (List.range (fd0.length - 1)).map (· + 1)).Perm (List.range fd0.length) := by
   have : List.range fd0.length = [0] ++ (List.range (fd0.length - 1)).map (· + 1) := by
    obtain ⟨k, hk⟩ : ∃ k, fd0.length = k + 1 := ⟨fd0.length - 1, by omega⟩
    rw [hk, List.range_succ_eq_map]
    rfl
   rw [this]
  refine tw_intro (fun m σ' H' => ∃ (ls os : List Nat), σ' = [some (.ref p), some (.bl gr), some (.ref D), some (.ref Lf), some (.ref Od), none, none] ∧ Tk p H2 H' ∧ Tape H' p (b + 2 + os.length) ∧ TupsAt H' Lf (ls.map fun i => cs.getD i 0) (ls.map fun i => fd0.getD i []) ∧ TupsAt H' Od (os.map fun i => cs.getD i 0) (os.map fun i => fd0.getD i []) ∧ (os ++ ls).Perm (List.range fd0.length) ∧ os[0]? = some 0 ∧ m = ls.length)
   (fun σ' H' => ∃ (os : List Nat), σ' = [some (.ref p), some (.bl gr), some (.ref D), some (.ref Lf), some (.ref Od), none, none] ∧ Tk p H2 H' ∧ Tape H' p (b + 2 + os.length) ∧ TupsAt H' Od (os.map fun i => cs.getD i 0) (os.map fun i => fd0.getD i []) ∧ os.Perm (List.range fd0.length) ∧ os[0]? = some 0) ?hend ⟨_, _, _, rfl, Tk.of s24, T4.le (by omega), RL4, RO4, p0, rfl, rfl⟩ ?turn
  case turn =>
   rintro hend m σ' H' ⟨ls, os, rfl, kk, Tp, RL, RO, pm, h0, hm⟩
   have pl := pm.length_eq
   rw [List.length_append, List.length_range] at pl
   refine ⟨_, rfl, (by show 0 ≤ sizeLine; decide), fun e0 ne0 => ?_⟩
   have sE := Same.upd (H := H') (o := .lst []) ne0
   have RLE := RL.mono sE
   have ROE := RO.mono sE
   have kE := kk.same sE
   have TE := Tp.mono sE
   refine ⟨_, _, RLE.rd, .lst (.of upd_same) .nil, shapedTs _, rfl, _, rfl, ?_⟩
   generalize upd H' e0 (.lst []) = HE at RLE ROE kE TE ⊢
   rw [eqvNil]
   refine ite2 (fun hne => ?_) (fun he => ?_)
   ·have hpos : 0 < ls.length := by
     cases ls with
     | nil => cases hne
     | cons x r => rw [List.length_cons]; omega
    refine ⟨_, fun _ _ z => z, _, rfl, .inl ⟨rfl, _, .of ROE.1⟩, _, rfl, .inl ⟨rfl, _, .of RLE.1⟩, _, rfl, _, rfl, Lf, _, rfl, .inl (.of RLE.1), p, _, b + 2 + os.length, rfl, TE, by omega, ?_, ?_, fun r5 H5 c0 c1 k5 T5 => ?_⟩
    ·rw [List.length_map, List.length_map]; omega
    ·rw [List.length_map, List.length_map]; omega
    rw [List.length_map, List.length_map] at c1
    obtain ⟨j, rfl⟩ := Int.eq_ofNat_of_zero_le c0
    have hj : j < ls.length := by omega
    have RL5 := TupsAt.tk TE k5 RLE
    have RO5 := TupsAt.tk TE k5 ROE
    have hat : ((ls.map fun i => cs.getD i 0).map V.ref)[j]? = some (.ref (cs.getD ls[j] 0)) := by rw [List.getElem?_map, List.getElem?_map, List.getElem?_eq_getElem hj]; rfl
    obtain ⟨sx, _⟩ := ixN_seq (ixN_natC (n := ((ls.map fun i => cs.getD i 0).map V.ref).length) (i := j) (by rw [List.length_map, List.length_map]; exact hj))
    have hb5 := RL5.2.2 j (cs.getD ls[j] 0) (by rw [List.getElem?_map, List.getElem?_eq_getElem hj]; rfl)
    have ef : (ls.map fun i => fd0.getD i []).getD j [] = fd0.getD ls[j] [] := by
     rw [List.getD_eq_getElem?_getD, List.getElem?_map, List.getElem?_eq_getElem hj]
     rfl
    rw [ef] at hb5
    have RL6 := RL5.erase j
    have RO6 := RO5.updM (o := .lst (((ls.map fun i => cs.getD i 0).map V.ref).eraseIdx j)) RL5.1 nLO.symm
    have T6 := T5.updN (o := .lst (((ls.map fun i => cs.getD i 0).map V.ref).eraseIdx j)) nLp
    have k6 := (kE.trans k5).updN (o := .lst (((ls.map fun i => cs.getD i 0).map V.ref).eraseIdx j)) nLf
    have hb6 : upd H5 Lf (.lst (((ls.map fun i => cs.getD i 0).map V.ref).eraseIdx j)) (cs.getD ls[j] 0) = some (.tup ((fd0.getD ls[j] []).map nV)) := by
     rw [upd_ne (fun z => by rw [z, RL5.1] at hb5; cases hb5)]
     exact hb5
    refine ⟨Lf, _, j, j, _, rfl, rfl, RL5.1, by omega, by omega, sx, hat, ?_⟩
    generalize upd H5 Lf (.lst (((ls.map fun i => cs.getD i 0).map V.ref).eraseIdx j)) = H6 at RL6 RO6 T6 k6 hb6 ⊢
    refine ⟨Od, _, _, rfl, rfl, RO6.1, by rw [List.length_map, List.length_map]; omega, ?_⟩
    rw [era_map, era_map] at RL6
    refine ⟨(ls.eraseIdx j).length, by rw [List.length_eraseIdx, if_pos hj]; omega, ls.eraseIdx j, os ++ [ls[j]], rfl, k6.updN nOd2, ?_, RL6.updM RO6.1 nLO, ?_, ?_, ?_, rfl⟩
    ·rw [List.length_append]
     exact T6.updN nOp
    ·rw [List.map_append, List.map_append]
     exact RO6.push hb6
    ·rw [List.append_assoc]
     exact (List.Perm.append_left os (era_perm ls j hj)).trans pm
    ·rw [List.getElem?_append_left]
     ·exact h0
     ·exact (List.getElem?_eq_some_iff.mp h0).1
   ·have : ls = [] := by
     cases ls with
     | nil => rfl
     | cons x r => exact absurd rfl he
    subst this
    rw [List.append_nil] at pm
    exact hend _ _ ⟨os, rfl, kE, TE, ROE, pm, h0⟩
  case hend =>
   rintro σ' H5 ⟨os, rfl, kk, Tp, RO, pm, h0⟩
   have O := ord_of n1 pm h0
   have osl := O.len
   have nd := B.nd
   refine fun Nd nNd => ?_
   have s6 := Same.upd (H := H5) (o := .dT []) nNd
   have hN6 : upd H5 Nd (.dT []) Nd = some (.dT []) := upd_same
   generalize upd H5 Nd (.dT []) = H6 at s6 hN6 ⊢
   have ol : ((os.map fun i => cs.getD i 0).map V.ref).length = fd0.length := by rw [List.length_map, List.length_map, osl]
   refine ⟨_, rfl, Od, _, rfl, .inl (.of (s6 _ _ RO.1)), _, rfl, by rw [ol]; omega, by rw [ol]; omega, ?_⟩
   rw [ol, Int.toNat_natCast]
   refine for_range (fun m σ' H' => ∃ v6 : Option V, σ' = [some (.ref p), some (.bl gr), some (.ref D), some (.ref Lf), some (.ref Od), some (.ref Nd), v6] ∧ Same H5 H' ∧ H' Nd = some (.dT (kvN fd0 os m))) ⟨_, rfl, s6, hN6⟩ ?_ ?_
   ·rintro m σ' H7 hm ⟨v6, rfl, s7, hN7⟩
    rw [show (0 : Int) + (m : Int) = (m : Int) by omega]
    have RO7 := RO.mono s7
    obtain ⟨c, _, hat, hc⟩ := RO7.get (i := m) (by rw [List.length_map, osl]; exact hm)
    rw [mapf_at (by omega)] at hc
    refine ⟨_, rfl, _, rfl, _, rfl, _, rfl, Od, _, _, _, rfl, rfl, .of RO7.1, hat, Nd, _, rfl, DPut.t (k := keyL (fd0.getD (os.getD m 0) [])) hN7 (by rw [keyL_V]; exact hc) (by unfold kvN; rw [List.length_map, List.length_range]; omega), ?_⟩
    rw [kvN_put nd rfl O hm]
    exact ⟨_, rfl, s7.updr nNd, upd_same⟩
   ·rintro σ' H7 ⟨v6, rfl, s7, hN7⟩
    have RO7 := RO.mono s7
    refine ⟨_, rfl, Od, rfl, ⟨_, .of RO7.1⟩, ?_⟩
    have Ot : Ord (tabP fd0).length os := by rw [tabP_len]; exact O
    have Pt : PW (ren (tabP fd0) os) := pw_ren B.pw Ot
    have rl : (ren (tabP fd0) os).length = fd0.length := by rw [ren_len, osl]
    have rat : ∀ i, i < fd0.length → (ren (tabP fd0) os).getD i [] = os.map fun b => pos os (mul (tabP fd0) (os.getD i 0) b) := fun i hi => by
     unfold ren
     rw [List.getD_eq_getElem?_getD, List.getElem?_map, getD_lt (show i < os.length by omega)]
     rfl
    refine comp_new (W := Addr) id (fun i w H => Tz H w (((ren (tabP fd0) os).getD i []).map nV)) (fun _ _ => True) (seq_lst (K := K) (.of RO7.1)) [some (.ref Nd), some (.ref Od)] rfl (by rw [ol]; omega) (fun i w H H' s h => h.mono s) (fun w H H' s h => trivial) (fun i w H0 H1 D o ys ys' h h0 h1 h2 => Tz.updL h h2) (fun i y hy H8 s8 R k8 => ?_) (fun D8 ws H8 nD8 s8 hD8 wl hw hp => ?_)
    ·obtain ⟨c, rfl, hi, hc⟩ := RO7.ref hy
     rw [List.length_map, osl] at hi
     rw [mapf_at (by omega)] at hc
     have RO8 := RO7.mono s8
     have hoi := o_lt O hi
     refine ⟨_, rfl, Od, rfl, ⟨_, .of RO8.1⟩, ?_⟩
     refine comp_idx (seq_lst (K := K) (.of RO8.1)) [some (.ref Nd), some (.ref c)] rfl (fun j => nV (pos os (mul (tabP fd0) (os.getD i 0) (os.getD j 0)))) (by rw [ol]; omega) (fun j y' hy' H9 s9 R' k9 => ?_) (fun D9 H9 nD9 s9 hD9 => ?_)
     ·obtain ⟨d, rfl, hj, hd⟩ := RO8.ref hy'
      rw [List.length_map, osl] at hj
      rw [mapf_at (by omega)] at hd
      have hoj := o_lt O hj
      obtain ⟨ml, me⟩ := aft_at B.cl hoi hoj
      refine ⟨_, rfl, _, rfl, _, rfl, c, d, k, _, _, rfl, (s8.trans s9) _ _ hc, s9 _ _ hd, B.fg _ (memL hoi), B.fg _ (memL hoj), by omega, fun r HA nr sA hr' => ?_⟩
      have dg := DGet.t (H := HA) (k := keyL (aft (fd0.getD (os.getD i 0) []) (fd0.getD (os.getD j 0) []))) (((s8.trans s9).trans sA) _ _ hN7) (by rw [keyL_V]; exact hr')
      rw [← me, kvN_val nd rfl O ml] at dg
      exact ⟨Nd, _, rfl, dg, k9 HA sA⟩
     ·rw [ol] at hD9
      have e : (List.range fd0.length).map (fun j => nV (pos os (mul (tabP fd0) (os.getD i 0) (os.getD j 0)))) = ((ren (tabP fd0) os).getD i []).map nV := by
       rw [rat i hi, ← map_at os, List.map_map, osl]
       rfl
      rw [e] at hD9
      exact ⟨D9, _, rfl, .of hD9, fun z Hz nz sz' hz => k8 z Hz (s9.trans sz') hz trivial⟩
    ·refine ⟨D8, _, rfl, .inl ⟨.of hD8, fun g ng => ?_⟩⟩
     have s9 := Same.upd (H := H8) (o := .tup (ws.map fun w => V.ref (id w))) ng
     have sX := (s7.trans s8).trans s9
     refine q g (ren (tabP fd0) os) _ (((k1.same s2).trans kk).same sX) ((Tp.mono sX).le (by omega)) ⟨ws, upd_same, by rw [wl, ol, rl], fun i r hr => ((hw i r hr).1).mono s9⟩ Pt (by rw [rl]; exact B.n60)
end
structure Bl (mg : Str → Option Value) : Prop where
 list : mg "list" = none
 len : mg "len" = none
 abs : mg "abs" = none
 range : mg "range" = none
 tuple : mg "tuple" = none
 isi : mg "isinstance" = none
 all : mg "all" = none
 set : mg "set" = none
 repr : mg "repr" = none
 any : mg "any" = none
 int : mg "int" = none
 bool : mg "bool" = none
section
variable {P : Program} {w : World} {K : PySem.W.Frag} {mg : Str → Option Value} {base : Heap}
end
end C28
namespace Tb
section
variable {t : List (List Nat)}
def bck (t : List (List Nat)) (a : Nat) : Nat := ((List.range t.length).find? fun b => mul t a b == 0).getD 0
theorem bck_of (P : PW t) {a : Nat} (ha : a < t.length) : bck t a < t.length ∧ mul t a (bck t a) = 0 := by
 obtain ⟨r, R⟩ := P.rd a ha
 unfold bck
 cases h : (List.range t.length).find? fun b => mul t a b == 0 with
 | none =>
  exfalso
  rw [List.find?_eq_none] at h
  exact h _ (List.mem_range.mpr (it_lt P ha (r - 1))) (by rw [R.bk]; rfl)
 | some b =>
  have h1 := List.mem_range.mp (List.mem_of_find?_eq_some h)
  have h2 := List.find?_some h
  exact ⟨h1, by simpa using h2⟩
theorem bck_it (P : PW t) {a r : Nat} (ha : a < t.length) (R : Rd t a r) : it t a (r - 1) = bck t a := ((R.un _ (bck_of P ha).1 (bck_of P ha).2)).symm
theorem bck_l (P : PW t) {a : Nat} (ha : a < t.length) : mul t (bck t a) a = 0 := by
 obtain ⟨h1, h2⟩ := bck_of P ha
 obtain ⟨h3, h4⟩ := bck_of P h1
 have e : a = bck t (bck t a) := by
  have := P.ass a (bck t a) (bck t (bck t a)) ha h1 h3
  rw [h2, h4, P.one _ h3, P.oneR a ha] at this
  exact this.symm
 conv => lhs; rw [e]
 rw [← e]
 conv => lhs; rw [e]
 rw [← e]
 rw [show mul t (bck t a) a = mul t (bck t a) (bck t (bck t a)) by rw [← e]]
 exact h4
end
end Tb
namespace C28
open PySem L2 PySem.Spec PyProof.Rows
open Tb Pm
abbrev sLaw : Stmt := top 26
structure BlS2 (mg : Str → Option Value) : Prop where
 sorted : mg "sorted" = none
 enumerate : mg "enumerate" = none
theorem sort_is {ns M : List Int} {c : List Nat} (hp : List.Perm ns M) (hs : ns.Pairwise (· ≤ ·)) (hn : M.Nodup) (hm : ∀ k : Int, k ∈ M ↔ ∃ a ∈ c, k = (a : Int)) (hc : c.Pairwise (· < ·)) : ns.map V.int = c.map nV := by
 have e : ns = c.map fun a : Nat => (a : Int) := by
  refine PySem.W.lks_uniq (hp.trans ?_) hs ?_
  ·refine (List.perm_ext_iff_of_nodup hn ?_).mpr fun k => ?_
   ·refine List.Pairwise.map _ (fun a b (h : a < b) => ?_) hc
    omega
   ·rw [hm k, List.mem_map]
    exact ⟨fun ⟨a, ha, e⟩ => ⟨a, ha, e.symm⟩, fun ⟨a, ha, e⟩ => ⟨a, ha, e.symm⟩⟩
  ·refine List.Pairwise.map _ (fun a b (h : a < b) => ?_) hc
   omega
 rw [e, List.map_map]
 rfl
section
variable {P : Program} {w : World} {K : PySem.W.Frag} {mg : Str → Option Value} {base : Heap}
end
structure KS (kvs : List (Key × V)) (ks : List Nat) : Prop where
 keys : kvs.map (·.1) = ks.map fun a : Nat => (Sum.inl (a : Int) : Key)
 nd : ks.Nodup
theorem KS.len {kvs : List (Key × V)} {ks : List Nat} (h : KS kvs ks) : kvs.length = ks.length := by
 have := congrArg List.length h.keys
 rwa [List.length_map, List.length_map] at this
theorem KS.some {kvs : List (Key × V)} {ks : List Nat} (h : KS kvs ks) (a : Nat) : (valV kvs (.inl (a : Int))).isSome = ks.contains a := by
 rw [← valV_any]
 have e : (kvs.any fun kv => decide (kv.1 = (.inl (a : Int) : Key))) = (kvs.map (·.1)).any fun k => decide (k = (.inl (a : Int) : Key)) := by rw [List.any_map]; rfl
 rw [e, h.keys, List.any_map]
 by_cases hm : a ∈ ks
 ·rw [List.contains_iff_mem.mpr hm, List.any_eq_true]
  exact ⟨a, hm, by simp⟩
 ·have hc : ks.contains a = false := by
   cases hc : ks.contains a with
   | false => rfl
   | true => exact absurd (List.contains_iff_mem.mp hc) hm
  rw [hc, List.any_eq_false]
  intro b hb z
  have z := of_decide_eq_true z
  injection z with z
  have : b = a := by omega
  exact hm (this ▸ hb)
theorem KS.put {kvs : List (Key × V)} {ks : List Nat} (h : KS kvs ks) (a : Nat) (v : V) : KS (putK kvs (.inl (a : Int)) v) (if ks.contains a then ks else ks ++ [a]) := by
 have hs := h.some a
 by_cases hm : ks.contains a = true
 ·rw [if_pos hm]
  rw [hm] at hs
  refine ⟨?_, h.nd⟩
  unfold putK
  rw [if_pos (by rw [valV_any]; exact hs), List.map_map, ← h.keys]
  refine List.map_congr_left fun kv _ => ?_
  show (if kv.1 = _ then (kv.1, v) else kv).1 = kv.1
  split <;> rfl
 ·rw [if_neg hm]
  have hn : valV kvs (.inl (a : Int)) = none := by
   cases hv : valV kvs (.inl (a : Int)) with
   | none => rfl
   | some x => rw [hv] at hs; exact absurd hs.symm hm
  rw [putK_new v hn]
  refine ⟨by rw [List.map_append, List.map_append, h.keys]; rfl, ?_⟩
  rw [List.nodup_append]
  refine ⟨h.nd, by simp, fun b hb c hc z => hm ?_⟩
  rw [List.mem_singleton.mp hc] at z
  exact List.contains_iff_mem.mpr (z ▸ hb)
section
variable {P : Program} {w : World} {K : PySem.W.Frag} {mg : Str → Option Value} {base : Heap}
end
section
variable {P : Program} {w : World} {K : PySem.W.Frag} {mg : Str → Option Value} {base : Heap}
end
end C28
namespace PyS
open PySem PySem.W PyProof.Rows PySem.Calls PyProof.V PySem.Spec
section
variable {prog : Program} {w : World} {A : Around} {R : Result → Shared → Prop} {I : Addr} {fp wr : List Addr} {G : Array GenState → Array GenState → Prop} {n : Nat} {P : Nat → Value → Prop} {St : Nat → Shared → Prop}
variable {prog : Program} {w : World} {A : Around} {E : Value → Shared → Prop} {s : Shared}
end
end PyS
namespace L2
open PySem PySem.Spec PyProof.Rows
section
variable {X : Cx}
end
end L2
namespace Tb
inductive RchO (On : Nat → List Nat) : Nat → Prop where
 | zero : RchO On 0
 | step {a b : Nat} (h : RchO On a) (hb : b ∈ On a) : RchO On b
section
variable {t : List (List Nat)} {On : Nat → List Nat} {n : Nat}
theorem RchO.lt (n1 : 1 ≤ n) (h : ∀ a, a < n → ∀ b ∈ On a, b < n) {x : Nat} (r : RchO On x) : x < n := by
 induction r with
 | zero => exact n1
 | step _ hb ih => exact h _ ih _ hb
theorem RchO.sub {S : List Nat} (h0 : 0 ∈ S) (hc : ∀ x ∈ S, ∀ y ∈ On x, y ∈ S) {x : Nat} (r : RchO On x) : x ∈ S := by
 induction r with
 | zero => exact h0
 | step _ hb ih => exact hc _ ih _ hb
open Classical in
noncomputable def prtL (n : Nat) (On : Nat → List Nat) : List Nat := (List.range n).filter fun x => decide (RchO On x)
open Classical in
theorem prt_mem {x : Nat} : x ∈ prtL n On ↔ x < n ∧ RchO On x := by
 unfold prtL
 rw [List.mem_filter, List.mem_range, decide_eq_true_iff]
theorem prt_sort : (prtL n On).Pairwise (· < ·) := List.Pairwise.sublist List.filter_sublist List.pairwise_lt_range
def onG (t : List (List Nat)) (gs : List Nat) : Nat → List Nat := fun a => gs.map (mul t a)
theorem onG_lt (P : PW t) {gs : List Nat} (hg : ∀ g ∈ gs, g < t.length) : ∀ a, a < t.length → ∀ b ∈ onG t gs a, b < t.length := fun a ha b hb => by
 obtain ⟨g, hg', rfl⟩ := List.mem_map.mp hb
 exact P.lt _ _ ha (hg g hg')
theorem rch_mul (P : PW t) {gs : List Nat} (hg : ∀ g ∈ gs, g < t.length) {a b : Nat} (ra : RchO (onG t gs) a) (rb : RchO (onG t gs) b) : RchO (onG t gs) (mul t a b) := by
 have la := ra.lt P.n1 (onG_lt P hg)
 induction rb with
 | zero => rw [P.oneR a la]; exact ra
 | @step c d rc hd ih =>
  obtain ⟨g, hg', rfl⟩ := List.mem_map.mp hd
  have lc := rc.lt P.n1 (onG_lt P hg)
  rw [← P.ass a c g la lc (hg g hg')]
  exact .step ih (List.mem_map.mpr ⟨g, hg', rfl⟩)
theorem nd_le : ∀ (n : Nat) (l : List Nat), l.Nodup → (∀ x ∈ l, x < n) → l.length ≤ n
 | 0, l, _, h => by
  cases l with
  | nil => exact Nat.le_refl _
  | cons a r => exact absurd (h a List.mem_cons_self) (Nat.not_lt_zero _)
 | n + 1, l, nd, h => by
  have h1 := nd_le n (l.filter (· != n)) (nd.sublist List.filter_sublist) fun x hx => by
   obtain ⟨hx, hn⟩ := List.mem_filter.mp hx
   have := h x hx
   have hn : x ≠ n := by simpa using hn
   omega
  have h2 : (l.filter (· != n)).length + 1 ≥ l.length := by
   by_cases hm : n ∈ l
   ·have : l.filter (· != n) = l.erase n := (nd.erase_eq_filter n).symm
    rw [this, List.length_erase_of_mem hm]
    omega
   ·rw [List.filter_eq_self.mpr fun x hx => by
     have : x ≠ n := fun z => hm (z ▸ hx)
     simpa using this]
    omega
  omega
end
end Tb
namespace L2
open PySem PySem.Spec PyProof.Rows
section
variable {M : Model} {A : Around} {E : Value → Shared → Prop} {s₀ : Shared} {env : Env} {cl : List (Str × Addr)}
end
section
variable {M : Model} {A : Around} {E : Value → Shared → Prop} {s : Shared}
end
section
variable {X : Cx}
end
section
variable {X : Cx}
end
end L2
namespace C28
open PySem L2 PySem.Spec PyProof.Rows
open Tb Pm
theorem nlay : ∀ ns : List Nat, PyData.canLayAll0 (ns.map fun k : Nat => PyData.int (k : Int)) = true
 | [] => rfl
 | n :: ns => nlay ns
theorem ndep : ∀ ns : List Nat, PyData.depthAll (ns.map fun k : Nat => PyData.int (k : Int)) = 0
 | [] => rfl
 | n :: ns => by
  show max 0 (PyData.depthAll (ns.map fun k : Nat => PyData.int (k : Int))) = 0
  rw [ndep ns]
  rfl
theorem shapedN (ns : List Nat) : SeqAt.shaped (.list (ns.map fun k : Nat => PyData.int (k : Int))) = true := by
 unfold SeqAt.shaped
 have h1 : PyData.canLay0 (.list (ns.map fun k : Nat => PyData.int (k : Int))) = true := nlay ns
 have h2 : PyData.depth (.list (ns.map fun k : Nat => PyData.int (k : Int))) ≤ 64 := by
  show PyData.depthAll (ns.map fun k : Nat => PyData.int (k : Int)) + 1 ≤ 64
  rw [ndep ns]
  omega
 simp only [h1, Bool.true_and, Bool.and_true, decide_eq_true_eq]
 exact h2
structure PInv (n : Nat) (On : Nat → List Nat) (fd ln : List Nat) (ex : Nat → Prop) : Prop where
 z : 0 ∈ fd
 nd : fd.Nodup
 lt : ∀ x ∈ fd, x < n
 rch : ∀ x ∈ fd, RchO On x
 sub : ∀ x ∈ ln, x ∈ fd
 cl : ∀ x ∈ fd, x ∉ ln → ¬ ex x → ∀ y ∈ On x, y ∈ fd
theorem PInv.len {n : Nat} {On : Nat → List Nat} {fd ln : List Nat} {ex : Nat → Prop} (h : PInv n On fd ln ex) : fd.length ≤ n := nd_le n fd h.nd h.lt
theorem PInv.add {n : Nat} {On : Nat → List Nat} {fd ln : List Nat} {ex : Nat → Prop} (h : PInv n On fd ln ex) {y : Nat} (hy : y ∉ fd) (hl : y < n) (hr : RchO On y) : PInv n On (fd ++ [y]) (ln ++ [y]) ex where
 z := List.mem_append_left _ h.z
 nd := List.nodup_append.mpr ⟨h.nd, by simp, fun a ha b hb => by rw [List.mem_singleton.mp hb]; rintro rfl; exact hy ha⟩
 lt := fun x hx => (List.mem_append.mp hx).elim (h.lt x) fun hx => by rw [List.mem_singleton.mp hx]; exact hl
 rch := fun x hx => (List.mem_append.mp hx).elim (h.rch x) fun hx => by rw [List.mem_singleton.mp hx]; exact hr
 sub := fun x hx => (List.mem_append.mp hx).elim (fun hx => List.mem_append_left _ (h.sub x hx)) fun hx => List.mem_append_right _ hx
 cl := fun x hx hn he z hz => by
  rcases List.mem_append.mp hx with hx | hx
  ·exact List.mem_append_left _ (h.cl x hx (fun q => hn (List.mem_append_left _ q)) he z hz)
  ·exact absurd (List.mem_append_right _ hx) hn
theorem PInv.done {n : Nat} {On : Nat → List Nat} {fd : List Nat} (h : PInv n On fd [] fun _ => False) (x : Nat) : x ∈ fd ↔ x ∈ prtL n On := by
 constructor
 ·intro hx
  exact prt_mem.mpr ⟨h.lt x hx, h.rch x hx⟩
 ·intro hx
  exact (prt_mem.mp hx).2.sub h.z fun x hx => h.cl x hx (by simp) (fun z => z)
theorem srt_prt {n : Nat} {On : Nat → List Nat} {fd : List Nat} {ns : List Int} (h : PInv n On fd [] fun _ => False) (hp : List.Perm ns (fd.map fun a : Nat => (a : Int))) (hs : ns.Pairwise (· ≤ ·)) : ns.map V.int = (prtL n On).map nV := by
 refine sort_is hp hs ?_ (fun k => ?_) prt_sort
 ·exact List.Pairwise.map _ (fun a b (e : a ≠ b) => by omega) h.nd
 ·rw [List.mem_map]
  constructor
  ·rintro ⟨a, ha, rfl⟩; exact ⟨a, (h.done a).mp ha, rfl⟩
  ·rintro ⟨a, ha, rfl⟩; exact ⟨a, (h.done a).mpr ha, rfl⟩
abbrev sPart : Stmt := top 22
def spPartL : Sp := fun vs H Q _ => ∃ (g L : Addr) (t : List (List Nat)) (gs : List Nat), vs = [.ref g, .ref L] ∧ GT H g t ∧ PW t ∧ H L = some (.lst (gs.map nV)) ∧ gs.length ≤ 4000 ∧ (∀ x ∈ gs, x < t.length) ∧ ∀ r H', Same H H' → Tz H' r ((prtL t.length (onG t gs)).map nV) → Q (.ref r) H'
section
variable {P : Program} {w : World} {K : PySem.W.Frag} {mg : Str → Option Value} {base : Heap}
theorem scPart : FnScope ["_law_group_here", "_law_things_here", "_law_found", "_law_line", "_law_here", "_law_one", "_law_later"] ["_law_group_here", "_law_things_here"] (defScope sPart) := FS
theorem ok_part {f : Addr} {fd : FuncData} (F : Fun K "_law_part" "_law_part" sPart f fd) (T : Bl mg) (T2 : BlS2 mg) : FnOk P w K mg base CX0 1 f fd ["_law_group_here", "_law_things_here"] spPartL := by
 refine F.ok scPart (fun vs H Q E h => ?_) (fun cdv A outer s H vs Q E hr h => ?_)
 ·obtain ⟨g, L, t, gs, rfl, _⟩ := h; rfl
 ·obtain ⟨g, L, t, gs, rfl, G, Pt, hL, gl, glt, q⟩ := h
  have hu : (A.deeper (envOfC "_law_part" (defScope sPart) s.heap.objs.size f cdv)).units + 1 < cLine := by have := hr.un; omega
  refine ⟨_, pss_cons (sset 2 rfl (pe_disp (pps_cons pe_int pe_bl pps_nil) rfl rfl (by simp) (by decide)))
   (pss_cons (sset 3 rfl (pe_lst (pc pe_int pa_nil)))
   (pss_cons (ps_while PassesOwn.never (pt_cmpR (neC K hr.units) (vn 3) (pe_lst pa_nil) (nomark _))
    (pss_cons (sset 4 rfl (pe_bm0 PySem.F.plainAttrs_list PySem.F.slot_list_pop PySem.F.type_list_pop mt_pop (vn 3)))
    (pss_one (ps_for PassesOwn.never rfl (itL K (vn 1)) (gn 5)
     (pss_cons (sset 6 rfl (pe_ix (ixT K) (pe_ix (ixT K) (vn 0) (vn 4) (fun _ _ => rfl)) (vn 5) (fun _ _ => rfl)))
     (pss_one (ps_if (pt_cmp (pc_dnotin hu (vn 6) (vn 2)))
      (pss_cons (ps_dput hu (vn 2) (vn 6) pe_bl (by rfl))
      (pss_one (ps_expr (pe_bm PySem.F.plainAttrs_list PySem.F.slot_list_append PySem.F.type_list_append mt_append (vn 3) (pc (vn 6) pa_nil))))) pss_nil)))))))
   (pss_one (ps_ret (ct (tupZK K) T.tuple (pc (cb (call_sortD rfl) T2.sorted (pc (vn 2) pa_nil)) pa_nil)))))), ?_⟩
  have sz : (16777216 : Nat) = sizeLine := by decide
  have n1 := Pt.n1
  have n60 := Pt.n60
  intro D nD
  refine ⟨upd_same, [(.inl 0, .bl true)], rfl, (by show 1 ≤ 15; decide), ?_⟩
  have s1 : Same H (upd (upd H D (.dK [])) D (.dK (mergeK [] [(.inl 0, .bl true)]))) := Same.upd2 nD
  have hD1 := upd_same (H := upd H D (.dK [])) (a := D) (o := .dK (mergeK [] [(.inl 0, .bl true)]))
  generalize upd (upd H D (.dK [])) D (.dK (mergeK [] [(.inl 0, .bl true)])) = H1 at s1 hD1 ⊢
  have KS0 : KS (mergeK [] [(Sum.inl 0, V.bl true)]) [0] := ⟨rfl, by simp⟩
  refine ⟨(by show 1 ≤ sizeLine; decide), fun Ln nL1 => ?_⟩
  have nLn : H Ln = none := s1.free nL1
  have s2 := s1.trans (Same.upd (o := .lst [.int 0]) nL1)
  have hD2 := Same.upd (o := .lst [.int 0]) nL1 _ _ hD1
  have hL2 := upd_same (H := H1) (a := Ln) (o := .lst [.int 0])
  generalize upd H1 Ln (.lst [.int 0]) = H2 at s2 hD2 hL2 ⊢
  generalize hOn : onG t gs = On at q
  have onlt : ∀ a, a < t.length → ∀ b ∈ On a, b < t.length := by rw [← hOn]; exact onG_lt Pt glt
  have I0 : PInv t.length On [0] [0] fun _ => False := ⟨by simp, by simp, fun x hx => by rw [List.mem_singleton.mp hx]; exact n1, fun x hx => by rw [List.mem_singleton.mp hx]; exact .zero, fun x hx => hx, fun x hx hn => absurd hx hn⟩
  refine tw_intro (fun m σ' H' => ∃ (kvs : List (Key × V)) (fd ln : List Nat) (v4 v5 v6 : Option V), σ' = [some (.ref g), some (.ref L), some (.ref D), some (.ref Ln), v4, v5, v6] ∧ Same H H' ∧ H' D = some (.dK kvs) ∧ KS kvs fd ∧ H' Ln = some (.lst (ln.map nV)) ∧ PInv t.length On fd ln (fun _ => False) ∧ ln.length ≤ fd.length ∧ m = 2 * (t.length - fd.length) + ln.length)
   (fun σ' H' => ∃ (kvs : List (Key × V)) (fd : List Nat) (v4 v5 v6 : Option V), σ' = [some (.ref g), some (.ref L), some (.ref D), some (.ref Ln), v4, v5, v6] ∧ Same H H' ∧ H' D = some (.dK kvs) ∧ KS kvs fd ∧ PInv t.length On fd [] (fun _ => False)) ?hend ⟨_, _, [0], [0], _, _, _, rfl, s2, hD2, KS0, hL2, I0, Nat.le_refl _, rfl⟩ ?turn
  case hend =>
   rintro σ' H' ⟨kvs, fd, v4, v5, v6, rfl, sm, hD, hK, I⟩
   have fl := I.len
   refine ⟨_, rfl, D, kvs, fd.map fun a : Nat => (a : Int), rfl, hD, by rw [hK.keys, List.map_map]; rfl, by rw [List.length_map]; omega, fun l ns nl hp hs => ?_⟩
   refine ⟨l, _, rfl, .of upd_same, fun r H9 nr s9 hz => ?_⟩
   refine q r _ ((sm.trans (Same.upd nl)).trans s9) ?_
   rw [← srt_prt I hp hs]
   exact hz
  case turn =>
   rintro hend m σ' H' ⟨kvs, fd, ln, v4, v5, v6, rfl, sm, hD, hK, hLn, I, ll, hm⟩
   have fl := I.len
   refine ⟨_, rfl, (by show 0 ≤ sizeLine; decide), fun e0 ne0 => ?_⟩
   have sE := Same.upd (H := H') (o := .lst []) ne0
   have hDE := sE _ _ hD
   have hLE := sE _ _ hLn
   have smE := sm.trans sE
   refine ⟨_, _, .lst (.of hLE) (rds_nats ln), .lst (.of upd_same) .nil, shapedN ln, rfl, _, rfl, ?_⟩
   generalize upd H' e0 (.lst []) = HE at hDE hLE smE ⊢
   rw [eqvNil]
   by_cases hz : ln = []
   ·subst hz
    exact iteN (by decide) (hend _ _ ⟨kvs, fd, v4, v5, v6, rfl, smE, hDE, hK, I⟩)
   ·have lpos : 0 < ln.length := List.length_pos_iff.mpr hz
    refine iteP (by rw [List.isEmpty_map]; cases ln with | nil => exact absurd rfl hz | cons a r => rfl) ?_
    obtain ⟨ln0, cur, rfl⟩ : ∃ ln0 cur, ln = ln0 ++ [cur] := ⟨ln.dropLast, ln.getLast hz, (List.dropLast_concat_getLast hz).symm⟩
    have hcf : cur ∈ fd := I.sub cur (List.mem_append_right _ List.mem_cons_self)
    have hcl := I.lt cur hcf
    refine ⟨_, fun _ _ z => z, _, rfl, .inl ⟨rfl, _, .of hLE⟩, Ln, _, nV cur, rfl, rfl, hLE, by rw [List.map_append, List.length_append, List.length_map]; show (ln0.map nV ++ [nV cur])[ln0.length + 1 - 1]? = _; rw [Nat.add_sub_cancel, List.getElem?_append_right (by rw [List.length_map]; exact Nat.le_refl _), List.length_map, Nat.sub_self]; rfl, ?_⟩
    have edl : ((ln0 ++ [cur]).map nV).dropLast = ln0.map nV := by rw [List.map_append]; exact List.dropLast_concat
    rw [edl]
    have hDL : D ≠ Ln := fun z => by rw [z, hLE] at hDE; cases hDE
    have smP := smE.updr (o := .lst (ln0.map nV)) nLn
    have hDP : upd HE Ln (.lst (ln0.map nV)) D = some (.dK kvs) := by rw [upd_ne hDL]; exact hDE
    have hLP := upd_same (H := HE) (a := Ln) (o := .lst (ln0.map nV))
    generalize upd HE Ln (.lst (ln0.map nV)) = HP at smP hDP hLP ⊢
    have IP : PInv t.length On fd ln0 fun x => x = cur := ⟨I.z, I.nd, I.lt, I.rch, fun x hx => I.sub x (List.mem_append_left _ hx), fun x hx hn he => I.cl x hx (fun z => (List.mem_append.mp z).elim hn fun z => he (List.mem_singleton.mp z)) (fun z => z)⟩
    rw [List.length_append, List.length_singleton] at ll hm
    refine ⟨_, rfl, L, rfl, ⟨_, .of (smP _ _ hL)⟩, ?_⟩
    refine for_seq (H0 := H) (seq_lst (K := K) (.of hL)) (fun i τ HH => ∃ (kvs' : List (Key × V)) (fd' ln' : List Nat) (w5 w6 : Option V), τ = [some (.ref g), some (.ref L), some (.ref D), some (.ref Ln), some (.int (cur : Nat)), w5, w6] ∧ Same H HH ∧ HH D = some (.dK kvs') ∧ KS kvs' fd' ∧ HH Ln = some (.lst (ln'.map nV)) ∧ PInv t.length On fd' ln' (fun x => x = cur) ∧ cur ∈ fd' ∧ (∀ x ∈ gs.take i, mul t cur x ∈ fd') ∧ fd.length + ln'.length = fd'.length + ln0.length ∧ fd.length ≤ fd'.length)
     ⟨_, fd, ln0, _, _, rfl, smP, hDP, hK, hLP, IP, hcf, fun x hx => (by cases hx), rfl, Nat.le_refl _⟩ (fun i τ HH h => by obtain ⟨_, _, _, _, _, _, hs, _⟩ := h; exact hs) ?_ ?_
    ·rintro i y τ H8 hy ⟨kvs', fd', ln', w5, w6, rfl, s8, hD8, hK8, hL8, I8, hc8, hg8, e8, f8⟩
     obtain ⟨x, hx, rfl⟩ := nV_get hy
     have hxg := List.mem_of_getElem? hx
     have hxl := glt x hxg
     obtain ⟨rs, r2, g1, _, g2, g3, g4⟩ := (G.mono s8).at Pt hcl
     refine ⟨_, rfl, _, rfl, g, _, _, _, rfl, rfl, .of g1, g2, _, rfl, r2, _, _, _, rfl, rfl, g3.sq, g4 x hxl, ?_⟩
     have hml := Pt.lt _ _ hcl hxl
     have hon : mul t cur x ∈ On cur := by rw [← hOn]; exact List.mem_map.mpr ⟨x, hxg, rfl⟩
     have tk : ∀ z, z ∈ gs.take (i + 1) → z ∈ gs.take i ∨ z = x := fun z hz => by
      rw [List.take_add_one, hx] at hz
      rcases List.mem_append.mp hz with h | h
      ·exact .inl h
      ·exact .inr (List.mem_singleton.mp h)
     refine ⟨_, rfl, _, rfl, D, _, rfl, DGet.k (k := .inl ((mul t cur x : Nat) : Int)) hD8, _, rfl, ?_⟩
     rw [hK8.some]
     have fl8 := I8.len
     refine ite2 (fun hn => ?_) (fun hn => ?_)
     ·have hn : mul t cur x ∉ fd' := fun z => by
       rw [List.contains_iff_mem.mpr z] at hn
       cases hn
      refine ⟨_, rfl, _, rfl, D, _, rfl, DPut.k (k := .inl ((mul t cur x : Nat) : Int)) hD8 (by rw [hK8.len]; omega), ?_⟩
      have hDL8 : D ≠ Ln := hDL
      have hL9 : upd H8 D (.dK (putK kvs' (.inl ((mul t cur x : Nat) : Int)) (.bl true))) Ln = some (.lst (ln'.map nV)) := by rw [upd_ne (Ne.symm hDL8)]; exact hL8
      have s9 : Same H (upd H8 D (.dK (putK kvs' (.inl ((mul t cur x : Nat) : Int)) (.bl true)))) := s8.updr nD
      have hD9 := upd_same (H := H8) (a := D) (o := .dK (putK kvs' (.inl ((mul t cur x : Nat) : Int)) (.bl true)))
      have hK9 := hK8.put (mul t cur x) (.bl true)
      have ec : fd'.contains (mul t cur x) = false := by
       cases q : fd'.contains (mul t cur x) with
       | false => rfl
       | true => exact absurd (List.contains_iff_mem.mp q) hn
      rw [ec, if_neg (by decide)] at hK9
      generalize upd H8 D (.dK (putK kvs' (.inl ((mul t cur x : Nat) : Int)) (.bl true))) = H9 at hL9 s9 hD9 ⊢
      have I9 := I8.add hn hml (.step (I8.rch cur hc8) hon)
      have fl9 := I9.len
      rw [List.length_append, List.length_singleton] at fl9
      refine ⟨_, rfl, .inl ⟨rfl, _, .of hL9⟩, _, rfl, Ln, _, _, rfl, rfl, hL9, by rw [List.length_map]; omega, ?_⟩
      refine ⟨_, fd' ++ [mul t cur x], ln' ++ [mul t cur x], _, _, rfl, s9.updr nLn, by rw [upd_ne hDL]; exact hD9, hK9, by rw [upd_same, List.map_append]; rfl, I9, List.mem_append_left _ hc8, fun z hz => ?_, by rw [List.length_append, List.length_append]; omega, by rw [List.length_append]; omega⟩
      rcases tk z hz with h | h
      ·exact List.mem_append_left _ (hg8 z h)
      ·rw [h]; exact List.mem_append_right _ List.mem_cons_self
     ·have hn : mul t cur x ∈ fd' := by
       cases q : fd'.contains (mul t cur x) with
       | true => exact List.contains_iff_mem.mp q
       | false => exact absurd (show (!fd'.contains (mul t cur x)) = true by rw [q]; rfl) (by simpa using hn)
      refine ⟨_, fd', ln', _, _, rfl, s8, hD8, hK8, hL8, I8, hc8, fun z hz => ?_, e8, f8⟩
      rcases tk z hz with h | h
      ·exact hg8 z h
      ·rw [h]; exact hn
    ·rintro τ H8 ⟨kvs', fd', ln', w5, w6, rfl, s8, hD8, hK8, hL8, I8, hc8, hg8, e8, f8⟩
     rw [List.length_map, List.take_length] at hg8
     have fl8 := I8.len
     refine ⟨2 * (t.length - fd'.length) + ln'.length, by omega, kvs', fd', ln', _, _, _, rfl, s8, hD8, hK8, hL8, ⟨I8.z, I8.nd, I8.lt, I8.rch, I8.sub, fun x hx hn _ => ?_⟩, by omega, rfl⟩
     by_cases hxc : x = cur
     ·rw [hxc, ← hOn]
      intro y hy
      obtain ⟨z, hz, rfl⟩ := List.mem_map.mp hy
      exact hg8 z hz
     ·exact I8.cl x hx hn hxc
end
end C28
namespace HT
open PySem PyProof.Rows
open PySem.SeqAt
open PySem.AutoSeq1 (wpAny_loadPart' idx_int)
open PySem.MeetsSeq PySem.MeetsSeq2 PySem.MeetsSeq3
end HT
namespace L2
open PySem PySem.Spec PyProof.Rows
section
variable {X : Cx}
end
end L2
namespace C28
open PySem L2 PySem.Spec PyProof.Rows
open Tb Pm
abbrev sSome : Stmt := top 23
def spSome : Sp := fun vs H Q _ => ∃ (p g : Addr) (b : Nat) (t : List (List Nat)), vs = [.ref p, .ref g] ∧ Tape H p b ∧ b + 100 < 2 ^ 60 ∧ GT H g t ∧ PW t ∧ ∀ L (gs : List Nat) H', Tk p H H' → Tape H' p (b + 3) → H L = none → H' L = some (.lst (gs.map nV)) → gs.length ≤ 2 → (∀ x ∈ gs, x < t.length) → Q (.ref L) H'
theorem GT.tk {H H' : Hp} {p g : Addr} {b : Nat} {t : List (List Nat)} (T : Tape H p b) (d : Tk p H H') (G : GT H g t) : GT H' g t := by
 obtain ⟨rs, h1, h2, h3⟩ := G
 refine ⟨rs, d.tup T h1, h2, fun i r hr => ?_⟩
 obtain ⟨o, e1, e2⟩ := h3 i r hr
 exact ⟨o, d _ _ e1 (T.ne e1 fun _ z => by cases z), e2⟩
theorem GT.len {K : PySem.W.Frag} {H : Hp} {g : Addr} {t : List (List Nat)} (G : GT H g t) : ∃ xs : List V, SqT K H g xs ∧ xs.length = t.length := by
 obtain ⟨rs, h1, h2, _⟩ := G
 exact ⟨_, .of h1, by rw [List.length_map]; exact h2⟩
section
variable {P : Program} {w : World} {K : PySem.W.Frag} {mg : Str → Option Value} {base : Heap}
theorem scSome : FnScope ["_law_tape_here", "_law_group_here"] ["_law_tape_here", "_law_group_here"] (defScope sSome) := FS
theorem ok_some {f : Addr} {fd : FuncData} (F : Fun K "_law_some" "_law_some" sSome f fd) (T : Bl mg) (GK : Fn P w K mg base CX0 1 "_law_pick" ["_law_tape_here", "_law_many"] spPick) : FnOk P w K mg base CX0 2 f fd ["_law_tape_here", "_law_group_here"] spSome := by
 refine F.ok scSome (fun vs H Q E h => ?_) (fun cdv A outer s H vs Q E hr h => ?_)
 ·obtain ⟨p, g, b, t, rfl, _⟩ := h; rfl
 ·obtain ⟨p, g, b, t, rfl, T0, hb, G, Pt, q⟩ := h
  refine ⟨_, pss_one (ps_ret (cmp ["_law_k"] [1, 0] ["_law_k", "_law_group_here", "_law_tape_here"] rfl (rng1 T.range (pc (fnc GK hr pass0 (pc (vn 0) (pc pe_int pa_nil))) pa_nil)) (fun _ _ _ _ _ => gn 0) (fun _ _ _ _ _ => pif_nil)
   (fun _ _ _ _ _ => fnc GK hr pass0 (pc (vn 2) (pc (cb (lenK K) (by exact T.len) (pc (vn 1) pa_nil)) pa_nil))))), ?_⟩
  have n1 := Pt.n1
  have n60 := Pt.n60
  refine ⟨_, rfl, p, 3, b, rfl, T0, by omega, by decide, by decide, fun r H1 a0 a1 k1 T1 => ?_⟩
  obtain ⟨j, rfl⟩ := Int.eq_ofNat_of_zero_le a0
  have hj : j < 3 := by omega
  have G1 := GT.tk T0 k1 G
  refine ⟨_, rfl, by omega, by omega, ?_⟩
  rw [Int.toNat_natCast]
  have rl : ((rngI 0 j).map V.int).length = j := by rw [List.length_map, rngI_len]
  refine comp_gen (xs := (rngI 0 j).map V.int) (fun D i ys H' => Tk p H1 H' ∧ Tape H' p (b + 1 + i) ∧ ∃ gs : List Nat, ys = gs.map nV ∧ gs.length = i ∧ ∀ x ∈ gs, x < t.length) [some (.ref g), some (.ref p)] rfl (by rw [rl]; omega) ?_ ?_ ?_ ?_
  ·intro D i ys H' hD hD' _
   have S := seq_rng (H := H') 0 j
   exact ⟨fun hi => ⟨S.go i H' (Same.refl _) hi, fun x H3' y => S.yld i H' x H3' (Same.refl _) hi y⟩, fun e => e ▸ S.stop H' (Same.refl _)⟩
  ·intro D hD
   exact ⟨Tk.of (Same.upd hD), T1.mono (Same.upd hD), [], rfl, rfl, fun x hx => by cases hx⟩
  ·rintro D i y ys H' hD hD' hy ⟨kD, TD, gs, rfl, gl, glt⟩ R k
   obtain ⟨xs, h1, h2⟩ := GT.len (K := K) (GT.tk T1 kD G1)
   refine ⟨_, rfl, _, rfl, g, xs, rfl, .inr h1, p, _, _, rfl, TD, by have := (List.getElem?_eq_some_iff.mp hy).1; omega, by omega, by omega, fun r5 H5 c0 c1 k5 T5 => ?_⟩
   rw [h2] at c1
   obtain ⟨x, rfl⟩ := Int.eq_ofNat_of_zero_le c0
   have nD := T1.neN hD
   refine k _ H5 (k5 _ _ hD' nD) ⟨?_, ?_, gs ++ [x], by rw [List.map_append]; rfl, by rw [List.length_append, gl]; rfl, fun z hz => ?_⟩
   ·intro b' o e ne
    rw [upd_ne fun z => by rw [z, hD] at e; cases e]
    exact (kD.trans k5) b' o e ne
   ·obtain ⟨c, l, m, h1, h2⟩ := T5
    exact ⟨c, l, m, by rw [upd_ne (Ne.symm nD)]; exact h1, h2⟩
   ·rcases List.mem_append.mp hz with h | h
    ·exact glt z h
    ·rw [List.mem_singleton.mp h]; omega
  ·rintro D ys H5 hD hD' hyl ⟨kD, TD, gs, rfl, gl, glt⟩
   rw [rl] at *
   refine q D gs H5 (k1.trans kD) (TD.le (by omega)) ?_ hD' (by omega) glt
   cases e : H D with
   | none => rfl
   | some o => have := k1 D o e (T1.neN hD); rw [hD] at this; cases this
end
end C28
namespace Tb
structure Sub (t : List (List Nat)) (o : List Nat) : Prop where
 n1 : 1 ≤ o.length
 nd : o.Nodup
 lt : ∀ v ∈ o, v < t.length
 z : o.getD 0 0 = 0
 cl : ∀ a ∈ o, ∀ b ∈ o, mul t a b ∈ o
section
variable {t : List (List Nat)} {o : List Nat}
theorem lcan (P : PW t) {x u v : Nat} (hx : x < t.length) (hu : u < t.length) (hv : v < t.length) (h : mul t x u = mul t x v) : u = v := by
 have hb := (bck_of P hx).1
 have e : ∀ w, w < t.length → mul t (bck t x) (mul t x w) = w := fun w hw => by
  rw [← P.ass _ _ _ hb hx hw, bck_l P hx, P.one w hw]
 rw [← e u hu, ← e v hv, h]
theorem sb_mem {i : Nat} (hi : i < o.length) : o.getD i 0 ∈ o := List.mem_of_getElem? (getD_lt hi)
end
section
variable {t : List (List Nat)} {o o2 : List Nat}
theorem head_zero {l : List Nat} (hs : l.Pairwise (· < ·)) (h0 : 0 ∈ l) : l.getD 0 0 = 0 := by
 cases l with
 | nil => cases h0
 | cons x r =>
  show x = 0
  rcases List.mem_cons.mp h0 with h | h
  ·exact h.symm
  ·have := (List.pairwise_cons.mp hs).1 0 h
   omega
theorem sort_nd {l : List Nat} (hs : l.Pairwise (· < ·)) : l.Nodup := List.Pairwise.imp (fun h => Nat.ne_of_lt h) hs
theorem sub_prt (P : PW t) {gs : List Nat} (hg : ∀ g ∈ gs, g < t.length) : Sub t (prtL t.length (onG t gs)) := by
 have h0 : 0 ∈ prtL t.length (onG t gs) := prt_mem.mpr ⟨P.n1, .zero⟩
 refine ⟨List.length_pos_of_mem h0, sort_nd prt_sort, fun v hv => (prt_mem.mp hv).1, head_zero prt_sort h0, fun a ha b hb => ?_⟩
 obtain ⟨la, ra⟩ := prt_mem.mp ha
 obtain ⟨lb, rb⟩ := prt_mem.mp hb
 exact prt_mem.mpr ⟨P.lt _ _ la lb, rch_mul P hg ra rb⟩
end
end Tb
namespace C28
open PySem L2 PySem.Spec PyProof.Rows
open Tb Pm
abbrev sAnyP : Stmt := top 24
def spAnyP : Sp := fun vs H Q _ => ∃ (p g : Addr) (b : Nat) (t : List (List Nat)), vs = [.ref p, .ref g] ∧ Tape H p b ∧ b + 100 < 2 ^ 60 ∧ GT H g t ∧ PW t ∧ ∀ r (gs : List Nat) H', Tk p H H' → Tape H' p (b + 3) → (∀ x ∈ gs, x < t.length) → Tz H' r ((prtL t.length (onG t gs)).map nV) → Q (.ref r) H'
section
variable {P : Program} {w : World} {K : PySem.W.Frag} {mg : Str → Option Value} {base : Heap}
theorem scAnyP : FnScope ["_law_tape_here", "_law_group_here"] ["_law_tape_here", "_law_group_here"] (defScope sAnyP) := FS
theorem ok_anyP {f : Addr} {fd : FuncData} (F : Fun K "_law_any_part" "_law_any_part" sAnyP f fd) (GS : Fn P w K mg base CX0 2 "_law_some" ["_law_tape_here", "_law_group_here"] spSome) (GL : Fn P w K mg base CX0 1 "_law_part" ["_law_group_here", "_law_things_here"] spPartL) : FnOk P w K mg base CX0 3 f fd ["_law_tape_here", "_law_group_here"] spAnyP := by
 refine F.ok scAnyP (fun vs H Q E h => ?_) (fun cdv A outer s H vs Q E hr h => ?_)
 ·obtain ⟨p, g, b, t, rfl, _⟩ := h; rfl
 ·obtain ⟨p, g, b, t, rfl, T0, hb, G, Pt, q⟩ := h
  refine ⟨_, pss_one (ps_ret (fnc GL hr pass0 (pc (vn 1) (pc (fnc GS hr pass0 (pc (vn 0) (pc (vn 1) pa_nil))) pa_nil)))), ?_⟩
  exact ⟨_, rfl, _, rfl, _, rfl, p, g, b, t, rfl, T0, hb, G, Pt, fun L gs H1 k1 T1 nL hL gl glt => ⟨g, L, t, gs, rfl, GT.tk T0 k1 G, Pt, hL, by omega, glt, fun r H2 s2 hr2 => q r gs H2 (k1.trans (.of s2)) (T1.mono s2) glt hr2⟩⟩
end
end C28
namespace L2
open PySem PySem.Spec PyProof.Rows
section
variable {X : Cx}
end
def TT2 (H : Hp) (a : Addr) (ys : List V) : Prop := H a = some (.tup ys) ∨ Tz H a ys
theorem TT2.sq {K : PySem.W.Frag} {H : Hp} {a : Addr} {ys : List V} (h : TT2 H a ys) : SqT K H a ys := h.elim (fun h => .of h) fun h => h.sq
theorem TT2.mono {H H' : Hp} {a : Addr} {ys : List V} (s : Same H H') (h : TT2 H a ys) : TT2 H' a ys := h.elim (fun h => .inl (s _ _ h)) fun h => .inr (h.mono s)
theorem isaZ {X : Cx} (K : PySem.W.Frag) (hK : X.K = K := by rfl) : CallR X (.builtin "isinstance") (fun xs H Q => ∃ a ys, xs = [.ref a, .ty "tuple"] ∧ TT2 H a ys ∧ Q (.bl true) H) := by
 intro pins s σ H xs us Q I r h
 obtain ⟨a, ys, rfl, h, q⟩ := h
 cases r with
 | cons r1 r =>
  cases r with
  | cons r2 r =>
   cases r
   rename_i v1 v2
   cases (show v2 = Value.type "tuple" from r2)
   cases (show v1 = Value.ref a from r1)
   have e : PySem.W.kitOne X.K (.type "tuple") (.type "tuple") = some true := kit7 (by decide) (by decide)
   rcases h with h | ⟨o, h, hc, _⟩
   ·exact isinst_ok (x := .ref a) I rfl (.tup h) e fun tk => ⟨.bl true, H, I.tok _, rfl, q⟩
   ·obtain ⟨h1, _⟩ := (show ObjOk X.prog X.w H s.heap a (.frz o (.tup ys)) from I.hok a _ h)
    exact PySem.W.kia_one PySem.W.kitx_tuple I.kIn ⟨o, h1, hc⟩ e (fun z => nomatch z) fun tk => ⟨.bl true, H, I.tok _, rfl, q⟩
end L2
namespace Tb
section
variable {t : List (List Nat)} {o : List Nat}
end
end Tb
namespace Tb
open Pm
theorem gD {α : Type} {l : List (List α)} {i : Nat} (h : i < l.length) : l[i]? = some (l.getD i []) := by
 rw [List.getD_eq_getElem?_getD, List.getElem?_eq_getElem h]; rfl
theorem gN {l : List Nat} {i : Nat} (h : i < l.length) : l[i]? = some (l.getD i 0) := by
 rw [List.getD_eq_getElem?_getD, List.getElem?_eq_getElem h]; rfl
def mkT (n m : Nat) (f : Nat → Nat → Nat) : List (List Nat) := (List.range n).map fun a => (List.range m).map fun i => f a i
section
variable {n m : Nat} {f g : Nat → Nat → Nat}
theorem mkT_len : (mkT n m f).length = n := by unfold mkT; rw [List.length_map, List.length_range]
theorem mkT_row {a : Nat} (ha : a < n) : (mkT n m f).getD a [] = (List.range m).map fun i => f a i := by
 unfold mkT
 rw [List.getD_eq_getElem?_getD, List.getElem?_map, List.getElem?_range ha]
 rfl
theorem mkT_rl {a : Nat} (ha : a < n) : ((mkT n m f).getD a []).length = m := by rw [mkT_row ha, List.length_map, List.length_range]
theorem mkT_at {a i : Nat} (ha : a < n) (hi : i < m) : mul (mkT n m f) a i = f a i := by
 unfold mul
 rw [mkT_row ha, List.getD_eq_getElem?_getD, List.getElem?_map, List.getElem?_range hi]
 rfl
theorem row_ext {r s : List Nat} (hl : r.length = s.length) (h : ∀ i, i < r.length → r.getD i 0 = s.getD i 0) : r = s := by
 refine List.ext_getElem? fun i => ?_
 by_cases hi : i < r.length
 ·rw [gN hi, gN (by omega), h i hi]
 ·rw [List.getElem?_eq_none (by omega), List.getElem?_eq_none (by omega)]
end
structure Dd (t : List (List Nat)) (m : Nat) (ds : List (List Nat)) : Prop where
 m1 : 1 ≤ m
 len : ds.length = t.length
 rl : ∀ a, a < t.length → (ds.getD a []).length = m
 lt : ∀ a i, a < t.length → i < m → mul ds a i < m
 one : ∀ i, i < m → mul ds 0 i = i
 go : ∀ a b i, a < t.length → b < t.length → i < m → mul ds (mul t a b) i = mul ds a (mul ds b i)
section
variable {t : List (List Nat)} {m m2 : Nat} {ds es : List (List Nat)}
theorem Dd.of {f : Nat → Nat → Nat} (P : PW t) (m1 : 1 ≤ m) (lt : ∀ a i, a < t.length → i < m → f a i < m) (one : ∀ i, i < m → f 0 i = i) (go : ∀ a b i, a < t.length → b < t.length → i < m → f (mul t a b) i = f a (f b i)) : Dd t m (mkT t.length m f) where
 m1 := m1
 len := mkT_len
 rl := fun a ha => mkT_rl ha
 lt := fun a i ha hi => by rw [mkT_at ha hi]; exact lt a i ha hi
 one := fun i hi => by rw [mkT_at P.n1 hi]; exact one i hi
 go := fun a b i ha hb hi => by
  rw [mkT_at (P.lt a b ha hb) hi, mkT_at hb hi, mkT_at ha (lt b i hb hi)]
  exact go a b i ha hb hi
structure Sd (t : List (List Nat)) (m : Nat) (rss : List (List Nat)) (num : Nat → Nat) : Prop where
 m1 : 1 ≤ m
 len : rss.length = m
 ne : ∀ k, k < m → rss.getD k [] ≠ []
 mem : ∀ k x, k < m → (x ∈ rss.getD k [] ↔ x < t.length ∧ num x = k)
 lt : ∀ x, x < t.length → num x < m
 go : ∀ a x y, a < t.length → x < t.length → y < t.length → num x = num y → num (mul t a x) = num (mul t a y)
def sdF (t rss : List (List Nat)) (num : Nat → Nat) (a k : Nat) : Nat := num (mul t a ((rss.getD k []).getD 0 0))
theorem Sd.rep {rss : List (List Nat)} {num : Nat → Nat} (S : Sd t m rss num) {k : Nat} (hk : k < m) : (rss.getD k []).getD 0 0 < t.length ∧ num ((rss.getD k []).getD 0 0) = k := by
 have h0 : 0 < (rss.getD k []).length := List.length_pos_iff.mpr (S.ne k hk)
 exact (S.mem k _ hk).mp (List.mem_of_getElem? (gN h0))
theorem dd_sid (P : PW t) {rss : List (List Nat)} {num : Nat → Nat} (S : Sd t m rss num) : Dd t m (mkT t.length m (sdF t rss num)) := by
 refine Dd.of P S.m1 (fun a i ha hi => S.lt _ (P.lt _ _ ha (S.rep hi).1)) (fun i hi => ?_) fun a b i ha hb hi => ?_
 ·unfold sdF
  rw [P.one _ (S.rep hi).1]
  exact (S.rep hi).2
 ·unfold sdF
  have r := (S.rep hi).1
  have hx := P.lt b _ hb r
  have hk := S.lt _ hx
  rw [P.ass a b _ ha hb r]
  exact S.go a _ _ ha hx (S.rep hk).1 (S.rep hk).2.symm
end
end Tb
namespace Tb
section
variable {t : List (List Nat)} {o : List Nat}
theorem sub_zero (S : Sub t o) : 0 ∈ o := by
 have := sb_mem (o := o) S.n1
 rw [S.z] at this
 exact this
theorem bck_in (P : PW t) (S : Sub t o) {a : Nat} (ha : a ∈ o) : bck t a ∈ o := by
 obtain ⟨r, R⟩ := P.rd a (S.lt a ha)
 rw [← bck_it P (S.lt a ha) R]
 have : ∀ k, it t a k ∈ o := fun k => by
  induction k with
  | zero => exact sub_zero S
  | succ k ih => exact S.cl _ ih _ ha
 exact this _
end
end Tb
namespace Tb
open Pm
section
variable {t : List (List Nat)} {o : List Nat}
def sC (t : List (List Nat)) (o : List Nat) (a : Nat) : List Nat := (List.range t.length).filter fun x => (o.map (mul t a)).contains x
theorem sC_mem {a x : Nat} : x ∈ sC t o a ↔ x < t.length ∧ ∃ h ∈ o, mul t a h = x := by
 unfold sC
 rw [List.mem_filter, List.mem_range, List.contains_iff_mem, List.mem_map]
theorem sC_sort (a : Nat) : (sC t o a).Pairwise (· < ·) := List.Pairwise.sublist List.filter_sublist List.pairwise_lt_range
theorem sC_self (P : PW t) (S : Sub t o) {a : Nat} (ha : a < t.length) : a ∈ sC t o a := sC_mem.mpr ⟨ha, 0, sub_zero S, P.oneR a ha⟩
theorem sC_eq (P : PW t) (S : Sub t o) {a x : Nat} (ha : a < t.length) (h : x ∈ sC t o a) : sC t o x = sC t o a := by
 obtain ⟨hx, k, hk, rfl⟩ := sC_mem.mp h
 have kl := S.lt k hk
 unfold sC
 refine List.filter_congr fun y hy => ?_
 have key : (o.map (mul t (mul t a k))).contains y = true ↔ (o.map (mul t a)).contains y = true := by
  rw [List.contains_iff_mem, List.contains_iff_mem, List.mem_map, List.mem_map]
  constructor
  ·rintro ⟨j, hj, rfl⟩
   exact ⟨mul t k j, S.cl k hk j hj, (P.ass a k j ha kl (S.lt j hj)).symm⟩
  ·rintro ⟨j, hj, rfl⟩
   have hb := bck_in P S hk
   have bl := S.lt _ hb
   refine ⟨mul t (bck t k) j, S.cl _ hb j hj, ?_⟩
   rw [P.ass a k _ ha kl (P.lt _ _ bl (S.lt j hj)), ← P.ass k _ j kl bl (S.lt j hj), (bck_of P kl).2, P.one j (S.lt j hj)]
 cases e : (o.map (mul t a)).contains y with
 | true => exact key.mpr e
 | false =>
  cases e2 : (o.map (mul t (mul t a k))).contains y with
  | false => rfl
  | true => rw [key.mp e2] at e; cases e
def cosU (t : List (List Nat)) (o : List Nat) : Nat → List (List Nat)
 | 0 => []
 | i + 1 => if (cosU t o i).contains (sC t o i) then cosU t o i else cosU t o i ++ [sC t o i]
theorem cosU_of : ∀ i, ∀ r ∈ cosU t o i, ∃ a, a < i ∧ r = sC t o a
 | 0, r, h => by cases h
 | i + 1, r, h => by
  unfold cosU at h
  split at h
  ·obtain ⟨a, ha, e⟩ := cosU_of i r h
   exact ⟨a, by omega, e⟩
  ·rcases List.mem_append.mp h with h | h
   ·obtain ⟨a, ha, e⟩ := cosU_of i r h
    exact ⟨a, by omega, e⟩
   ·exact ⟨i, by omega, List.mem_singleton.mp h⟩
theorem cosU_all : ∀ i a, a < i → sC t o a ∈ cosU t o i
 | i + 1, a, h => by
  unfold cosU
  by_cases e : a = i
  ·subst e
   split
   ·rename_i h2; exact List.contains_iff_mem.mp h2
   ·exact List.mem_append_right _ List.mem_cons_self
  ·have := cosU_all i a (by omega)
   split
   ·exact this
   ·exact List.mem_append_left _ this
theorem cosU_nd : ∀ i, (cosU t o i).Nodup
 | 0 => List.nodup_nil
 | i + 1 => by
  unfold cosU
  split
  ·exact cosU_nd i
  ·rename_i h
   refine List.nodup_append.mpr ⟨cosU_nd i, by simp, fun a ha b hb e => h ?_⟩
   rw [List.mem_singleton.mp hb] at e
   exact List.contains_iff_mem.mpr (e ▸ ha)
theorem cosU_len : ∀ i, (cosU t o i).length ≤ i
 | 0 => Nat.le_refl _
 | i + 1 => by
  unfold cosU
  have := cosU_len i
  split
  ·omega
  ·rw [List.length_append, List.length_singleton]; omega
theorem nd_inj {α : Type} {l : List α} (nd : l.Nodup) {i j : Nat} (hi : i < l.length) (hj : j < l.length) (e : l[i] = l[j]) : i = j := by
 rw [List.nodup_iff_pairwise_ne, List.pairwise_iff_getElem] at nd
 rcases Nat.lt_trichotomy i j with h | h | h
 ·exact absurd e (nd i j hi hj h)
 ·exact h
 ·exact absurd e.symm (nd j i hj hi h)
def numR (rss : List (List Nat)) (x : Nat) : Nat := rss.findIdx (·.contains x)
theorem sd_of (P : PW t) (S : Sub t o) {rss : List (List Nat)} (hp : rss.Perm (cosU t o t.length)) : Sd t rss.length rss (numR rss) := by
 have nd : rss.Nodup := hp.nodup_iff.mpr (cosU_nd _)
 have of : ∀ k, k < rss.length → ∃ a, a < t.length ∧ rss.getD k [] = sC t o a := fun k hk => cosU_of _ _ (hp.mem_iff.mp (List.mem_of_getElem? (gD hk)))
 have all : ∀ x, x < t.length → sC t o x ∈ rss := fun x hx => hp.mem_iff.mpr (cosU_all _ _ hx)
 have lt : ∀ x, x < t.length → numR rss x < rss.length ∧ x ∈ rss.getD (numR rss x) [] := fun x hx => by
  have h1 : numR rss x < rss.length := List.findIdx_lt_length.mpr ⟨_, all x hx, List.contains_iff_mem.mpr (sC_self P S hx)⟩
  refine ⟨h1, ?_⟩
  have h2 := List.findIdx_getElem (p := fun r : List Nat => r.contains x) (xs := rss) (w := h1)
  have e : rss.getD (numR rss x) [] = rss[numR rss x]'h1 := by
   rw [List.getD_eq_getElem?_getD, List.getElem?_eq_getElem h1]
   rfl
  rw [e]
  exact List.contains_iff_mem.mp h2
 have row : ∀ k x, k < rss.length → x ∈ rss.getD k [] → rss.getD k [] = sC t o x := fun k x hk hx => by
  obtain ⟨a, ha, e⟩ := of k hk
  rw [e] at hx ⊢
  exact (sC_eq P S ha hx).symm
 have un : ∀ k x, k < rss.length → x < t.length → x ∈ rss.getD k [] → numR rss x = k := fun k x hk hxl hx => by
  obtain ⟨h1, h2⟩ := lt x hxl
  have e : rss.getD (numR rss x) [] = rss.getD k [] := by rw [row _ _ h1 h2, row _ _ hk hx]
  have e2 : rss[numR rss x]'h1 = rss[k]'hk := by
   rw [List.getD_eq_getElem?_getD, List.getElem?_eq_getElem h1, List.getD_eq_getElem?_getD, List.getElem?_eq_getElem hk] at e
   exact e
  exact nd_inj nd h1 hk e2
 refine ⟨?_, rfl, fun k hk e => ?_, fun k x hk => ⟨fun hx => ?_, ?_⟩, fun x hx => (lt x hx).1, fun a x y ha hx hy e => ?_⟩
 ·exact List.length_pos_of_mem (all 0 P.n1)
 ·obtain ⟨a, ha, e2⟩ := of k hk
  have := sC_self P S ha
  rw [← e2, e] at this
  cases this
 ·obtain ⟨a, ha, e⟩ := of k hk
  have hxl := (sC_mem.mp (e ▸ hx)).1
  exact ⟨hxl, un k x hk hxl hx⟩
 ·rintro ⟨hx, rfl⟩
  exact (lt x hx).2
 ·obtain ⟨h1, h2⟩ := lt y hy
  have hxy : y ∈ sC t o x := by
   obtain ⟨g1, g2⟩ := lt x hx
   rw [← row _ _ g1 g2, e]
   exact h2
  obtain ⟨_, h, hh, rfl⟩ := sC_mem.mp hxy
  have al := P.lt a x ha hx
  have bl := P.lt a _ ha hy
  obtain ⟨g1, g2⟩ := lt _ al
  refine (un _ _ g1 bl ?_).symm
  rw [row _ _ g1 g2]
  exact sC_mem.mpr ⟨bl, h, hh, P.ass a x h ha hx (S.lt h hh)⟩
end
end Tb
namespace PyZ
open PySem PyProof PyProof.Rows
def Runs (n : Nat) (cmp : Nat → Nat → Bool) {α : Type} : W.KasT α → (α → Prop) → Prop
 | .ret a, Q => Q a
 | .ask i j k, Q => i < n ∧ j < n ∧ Runs n cmp (k (cmp i j)) Q
theorem Runs.run {n : Nat} {cmp : Nat → Nat → Bool} {α : Type} {Q : α → Prop} : ∀ {t : W.KasT α}, Runs n cmp t Q → ∃ a, runB n cmp t = some a ∧ Q a
 | .ret a, h => ⟨a, rfl, h⟩
 | .ask i j k, h => by
  obtain ⟨h1, h2, h3⟩ := h
  obtain ⟨a, e, q⟩ := h3.run
  exact ⟨a, by rw [runB, if_pos ⟨h1, h2⟩]; exact e, q⟩
theorem Runs.bind {n : Nat} {cmp : Nat → Nat → Bool} {α β : Type} {f : α → W.KasT β} {Q : β → Prop} : ∀ {t : W.KasT α}, Runs n cmp t (fun a => Runs n cmp (f a) Q) → Runs n cmp (t.bind f) Q
 | .ret a, h => h
 | .ask i j k, h => ⟨h.1, h.2.1, h.2.2.bind⟩
theorem Runs.mono {n : Nat} {cmp : Nat → Nat → Bool} {α : Type} {Q Q' : α → Prop} (hq : ∀ a, Q a → Q' a) : ∀ {t : W.KasT α}, Runs n cmp t Q → Runs n cmp t Q'
 | .ret a, h => hq a h
 | .ask i j k, h => ⟨h.1, h.2.1, h.2.2.mono hq⟩
section
variable {n : Nat} {rank : Nat → Nat}
abbrev cmpR (rank : Nat → Nat) : Nat → Nat → Bool := fun i j => decide (rank i < rank j)
def RK (rank : Nat → Nat) (p : Array Nat) (i : Nat) : Nat := rank (p.getD i 0)
structure PmO (n : Nat) (p : Array Nat) : Prop where
 pm : p.Perm (List.range n).toArray
theorem PmO.size {p : Array Nat} (h : PmO n p) : p.size = n := by
 have := h.pm.size_eq
 simpa using this
theorem PmO.lt {p : Array Nat} (h : PmO n p) {i : Nat} (hi : i < n) : p.getD i 0 < n := by
 have hs := h.size
 have hp : p.toList.Perm (List.range n) := by have := h.pm; rw [Array.perm_iff_toList_perm] at this; simpa using this
 have e : p.getD i 0 = p[i]'(by omega) := by simp [Array.getD, hs, hi]
 rw [e]
 have hm : p[i]'(by omega) ∈ p.toList := by simp
 exact List.mem_range.mp (hp.mem_iff.mp hm)
theorem RK_congr {p q : Array Nat} {i j : Nat} (h : p[i]? = q[j]?) : RK rank p i = RK rank q j := by
 unfold RK
 rw [Array.getD_eq_getD_getElem?, Array.getD_eq_getD_getElem?, h]
theorem RK_bubble {xs : Array Nat} {src d : Nat} (hs : src < xs.size) (hd : d ≤ src) (k : Nat) :
  RK rank (bubble xs src d) k = if k = src - d then RK rank xs src else if src - d < k ∧ k ≤ src then RK rank xs (k - 1) else RK rank xs k := by
 have e := getElem?_bubble hs d hd k
 by_cases h1 : k = src - d
 ·rw [if_pos h1] at e ⊢; exact RK_congr e
 ·rw [if_neg h1] at e ⊢
  by_cases h2 : src - d < k ∧ k ≤ src
  ·rw [if_pos h2] at e ⊢; exact RK_congr e
  ·rw [if_neg h2] at e ⊢; exact RK_congr e
theorem RK_rev {xs : Array Nat} {i j : Nat} (hj : j ≤ xs.size) (k : Nat) : RK rank (W.kas_rev xs i j) k = if i ≤ k ∧ k < j then RK rank xs (i + j - 1 - k) else RK rank xs k := by
 have e := getElem?_mirror_all (i := i) hj k
 unfold W.kas_rev
 by_cases h1 : i ≤ k ∧ k < j
 ·rw [if_pos h1] at e ⊢; exact RK_congr e
 ·rw [if_neg h1] at e ⊢; exact RK_congr e
theorem RK_rev_eq {xs : Array Nat} {i j : Nat} (hj : j ≤ xs.size) (heq : ∀ k, i ≤ k → k < j → RK rank xs k = RK rank xs (j - 1)) (k : Nat) : RK rank (W.kas_rev xs i j) k = RK rank xs k := by
 rw [RK_rev hj]
 split
 ·rw [heq _ (by omega) (by omega), heq k (by omega) (by omega)]
 ·rfl
theorem PmO.rev {p : Array Nat} (h : PmO n p) (i j : Nat) : PmO n (W.kas_rev p i j) := ⟨(mirror_perm p i j _).trans h.pm⟩
theorem PmO.bub {p : Array Nat} (h : PmO n p) (k d : Nat) : PmO n (bubble p k d) := ⟨(bubble_perm p k d).trans h.pm⟩
def Up (rank : Nat → Nat) (p : Array Nat) (k : Nat) : Prop := ∀ i j, i ≤ j → j < k → RK rank p i ≤ RK rank p j
def Dn (rank : Nat → Nat) (p : Array Nat) (k : Nat) : Prop := ∀ i j, i ≤ j → j < k → RK rank p j ≤ RK rank p i
theorem Up.snoc {p : Array Nat} {k : Nat} (h1 : 1 ≤ k) (h : Up rank p k) (hk : RK rank p (k - 1) ≤ RK rank p k) : Up rank p (k + 1) := fun i j hij hj => by
 by_cases e : j = k
 ·subst e
  by_cases e2 : i = j
  ·rw [e2]; exact Nat.le_refl _
  ·exact Nat.le_trans (h i (j - 1) (by omega) (by omega)) hk
 ·exact h i j hij (by omega)
theorem Dn.snoc {p : Array Nat} {k : Nat} (h1 : 1 ≤ k) (h : Dn rank p k) (hk : RK rank p k ≤ RK rank p (k - 1)) : Dn rank p (k + 1) := fun i j hij hj => by
 by_cases e : j = k
 ·subst e
  by_cases e2 : i = j
  ·rw [e2]; exact Nat.le_refl _
  ·exact Nat.le_trans hk (h i (j - 1) (by omega) (by omega))
 ·exact h i j hij (by omega)
theorem asc_ok {p : Array Nat} (hp : PmO n p) : ∀ (f k : Nat), 1 ≤ k → k + f ≤ n → Up rank p k → Runs n (cmpR rank) (W.kas_asc p f k) fun m => k ≤ m ∧ m ≤ k + f ∧ Up rank p m ∧ (m < k + f → RK rank p m < RK rank p (m - 1))
 | 0, k, h1, hk, hu => ⟨Nat.le_refl _, Nat.le_refl _, hu, fun z => absurd z (by omega)⟩
 | f + 1, k, h1, hk, hu => by
  refine ⟨hp.lt (by omega), hp.lt (by omega), ?_⟩
  by_cases c : rank (p.getD k 0) < rank (p.getD (k - 1) 0)
  ·rw [show cmpR rank _ _ = true from decide_eq_true c]
   exact ⟨Nat.le_refl _, by omega, hu, fun _ => c⟩
  ·rw [show cmpR rank _ _ = false from decide_eq_false c]
   refine (asc_ok hp f (k + 1) (by omega) (by omega) (hu.snoc h1 (by unfold RK; omega))).mono fun m ⟨a, b, u, d⟩ => ⟨by omega, by omega, u, fun z => d (by omega)⟩
theorem desc_ok : ∀ (f : Nat) (p : Array Nat) (k q : Nat), PmO n p → 1 ≤ k → k + f ≤ n → q + 1 ≤ k → Dn rank p k → (∀ j, k - 1 - q ≤ j → j < k → RK rank p j = RK rank p (k - 1)) →
  Runs n (cmpR rank) (W.kas_desc f p k q) fun r => PmO n r.1 ∧ 1 ≤ r.2.1 ∧ r.2.1 ≤ k + f ∧ r.2.2 + 1 ≤ r.2.1 ∧ Dn rank r.1 r.2.1 ∧ ∀ j, r.2.1 - 1 - r.2.2 ≤ j → j < r.2.1 → RK rank r.1 j = RK rank r.1 (r.2.1 - 1)
 | 0, p, k, q, hp, h1, hk, hq, hd, he => ⟨hp, h1, Nat.le_refl _, hq, hd, he⟩
 | f + 1, p, k, q, hp, h1, hk, hq, hd, he => by
  refine ⟨hp.lt (by omega), hp.lt (by omega), ?_⟩
  by_cases c : rank (p.getD k 0) < rank (p.getD (k - 1) 0)
  ·rw [show cmpR rank _ _ = true from decide_eq_true c]
   show Runs n (cmpR rank) (if q > 0 then W.kas_desc f (W.kas_rev p (k - (q + 1)) k) (k + 1) 0 else W.kas_desc f p (k + 1) 0) _
   have hd2 := hd.snoc h1 (Nat.le_of_lt c)
   have sz := hp.size
   split
   ·have er : ∀ j, RK rank (W.kas_rev p (k - (q + 1)) k) j = RK rank p j := fun j => RK_rev_eq (by omega) (fun i a b => he i (by omega) b) j
    refine (desc_ok f _ (k + 1) 0 (hp.rev _ _) (by omega) (by omega) (by omega) (fun i j a b => ?_) (fun j a b => ?_)).mono fun r ⟨a, b, c, d⟩ => ⟨a, b, by omega, d⟩
    ·rw [er, er]; exact hd2 i j a b
    ·rw [show j = k + 1 - 1 by omega]
   ·refine (desc_ok f _ (k + 1) 0 hp (by omega) (by omega) (by omega) hd2 (fun j a b => ?_)).mono fun r ⟨a, b, c, d⟩ => ⟨a, b, by omega, d⟩
    rw [show j = k + 1 - 1 by omega]
  ·rw [show cmpR rank _ _ = false from decide_eq_false c]
   refine ⟨hp.lt (by omega), hp.lt (by omega), ?_⟩
   by_cases d : rank (p.getD (k - 1) 0) < rank (p.getD k 0)
   ·rw [show cmpR rank _ _ = true from decide_eq_true d]
    exact ⟨hp, h1, (show k ≤ k + (f + 1) by omega), hq, hd, he⟩
   ·rw [show cmpR rank _ _ = false from decide_eq_false d]
    have e : RK rank p k = RK rank p (k - 1) := by unfold RK; omega
    refine (desc_ok f _ (k + 1) (q + 1) hp (by omega) (by omega) (by omega) (hd.snoc h1 (by omega)) (fun j a b => ?_)).mono fun r ⟨a, b, c, d⟩ => ⟨a, b, by omega, d⟩
    rw [show k + 1 - 1 = k by omega]
    by_cases ej : j = k
    ·rw [ej]
    ·rw [he j (by omega) (by omega), e]
theorem tail3_ok {p : Array Nat} {k : Nat} (hp : PmO n p) (h1 : 1 ≤ k) (hk : k ≤ n) (hd : Dn rank p k) : Runs n (cmpR rank) (W.kas_tail3 k n p) fun r => 1 ≤ r.1 ∧ r.1 ≤ n ∧ PmO n r.2 ∧ Up rank r.2 r.1 := by
 have sz := hp.size
 have hu : Up rank (W.kas_rev p 0 k) k := fun i j a b => by
  rw [RK_rev (by omega), RK_rev (by omega), if_pos ⟨Nat.zero_le _, by omega⟩, if_pos ⟨Nat.zero_le _, b⟩]
  exact hd _ _ (by omega) (by omega)
 exact Runs.bind ((asc_ok (hp.rev 0 k) (n - k) k h1 (by omega) hu).mono fun m ⟨a, b, c, _⟩ => ⟨Nat.le_trans h1 a, by show m ≤ n; omega, hp.rev 0 k, c⟩)
theorem descPart_ok {p : Array Nat} {k : Nat} (hp : PmO n p) (hk : k + 1 ≤ n) (hd : Dn rank p (k + 1)) : Runs n (cmpR rank) (W.kas_descPart k n p) fun r => 1 ≤ r.1 ∧ r.1 ≤ n ∧ PmO n r.2 ∧ Up rank r.2 r.1 := by
 refine Runs.bind ((desc_ok (n - (k + 1)) p (k + 1) 0 hp (by omega) (by omega) (by omega) hd (fun j a b => by rw [show j = k + 1 - 1 by omega])).mono fun r ⟨a, b, c, d, e, g⟩ => ?_)
 have sz := a.size
 show Runs n (cmpR rank) (if r.2.2 > 0 then W.kas_tail3 r.2.1 n (W.kas_rev r.1 (r.2.1 - (r.2.2 + 1)) r.2.1) else W.kas_tail3 r.2.1 n r.1) _
 split
 ·have er : ∀ j, RK rank (W.kas_rev r.1 (r.2.1 - (r.2.2 + 1)) r.2.1) j = RK rank r.1 j := fun j => RK_rev_eq (by omega) (fun i x y => g i (by omega) y) j
  exact tail3_ok (a.rev _ _) b (by omega) fun i j x y => by rw [er, er]; exact e i j x y
 ·exact tail3_ok a b (by omega) e
theorem count_ok {p : Array Nat} (hp : PmO n p) (h1 : 1 ≤ n) : Runs n (cmpR rank) (W.kas_count n p) fun r => 1 ≤ r.1 ∧ r.1 ≤ n ∧ PmO n r.2 ∧ Up rank r.2 r.1 := by
 refine Runs.bind ((asc_ok hp (n - 1) 1 (Nat.le_refl _) (by omega) (fun i j a b => by rw [show i = 0 by omega, show j = 0 by omega]; exact Nat.le_refl _)).mono fun m ⟨a, b, c, d⟩ => ?_)
 have sz := hp.size
 show Runs n (cmpR rank) (if (m == n) = true then _ else _) _
 by_cases e : m = n
 ·rw [if_pos (by rw [e]; exact beq_self_eq_true n)]
  exact ⟨a, by show m ≤ n; omega, hp, c⟩
 ·rw [if_neg (by simpa using e)]
  have dm := d (by omega)
  have dn : Dn rank p m → Dn rank p (m + 1) := fun h => h.snoc a (Nat.le_of_lt dm)
  split
  ·refine ⟨hp.lt (by omega), hp.lt (by omega), ?_⟩
   by_cases g : rank (p.getD 0 0) < rank (p.getD (m - 1) 0)
   ·rw [show cmpR rank _ _ = true from decide_eq_true g]
    exact ⟨a, by show m ≤ n; omega, hp, c⟩
   ·rw [show cmpR rank _ _ = false from decide_eq_false g]
    have all : ∀ j, j < m → RK rank p j = RK rank p (m - 1) := fun j hj => by
     have x := c 0 j (by omega) hj
     have y := c j (m - 1) (by omega) (by omega)
     unfold RK at x y ⊢
     omega
    have er : ∀ j, RK rank (W.kas_rev p 0 m) j = RK rank p j := fun j => RK_rev_eq (by omega) (fun i _ y => all i y) j
    refine descPart_ok (hp.rev 0 m) (by omega) fun i j x y => ?_
    rw [er, er]
    exact dn (fun i j x y => by rw [all i (by omega), all j y]; exact Nat.le_refl _) i j x y
  ·have e1 : m = 1 := by omega
   subst e1
   exact descPart_ok hp (by omega) (dn fun i j x y => by rw [show i = 0 by omega, show j = 0 by omega]; exact Nat.le_refl _)
theorem place_ok {p : Array Nat} {k : Nat} (hp : PmO n p) (hk : k < n) (hu : Up rank p k) : ∀ (f l r : Nat), r - l ≤ f → l ≤ r → r ≤ k → (∀ i, i < l → RK rank p i ≤ RK rank p k) → (∀ i, r ≤ i → i < k → RK rank p k < RK rank p i) →
  Runs n (cmpR rank) (W.kas_place p k f l r) fun m => m ≤ k ∧ (∀ i, i < m → RK rank p i ≤ RK rank p k) ∧ ∀ i, m ≤ i → i < k → RK rank p k < RK rank p i
 | 0, l, r, hf, hlr, hr, h1, h2 => by
  have e : l = r := by omega
  subst e
  exact ⟨hr, h1, h2⟩
 | f + 1, l, r, hf, hlr, hr, h1, h2 => by
  show Runs n (cmpR rank) (if l ≥ r then _ else _) _
  split
  ·have e : l = r := by omega
   subst e
   exact ⟨hr, h1, h2⟩
  ·refine ⟨hp.lt hk, hp.lt (by omega), ?_⟩
   by_cases c : rank (p.getD k 0) < rank (p.getD ((l + r) / 2) 0)
   ·rw [show cmpR rank _ _ = true from decide_eq_true c]
    refine place_ok hp hk hu f l ((l + r) / 2) (by omega) (by omega) (by omega) h1 fun i a b => ?_
    exact Nat.lt_of_lt_of_le c (hu _ _ a b)
   ·rw [show cmpR rank _ _ = false from decide_eq_false c]
    refine place_ok hp hk hu f ((l + r) / 2 + 1) r (by omega) (by omega) hr (fun i a => ?_) h2
    have := hu i ((l + r) / 2) (by omega) (by omega)
    unfold RK at this ⊢
    omega
theorem bin_ok : ∀ (f : Nat) (p : Array Nat) (k : Nat), PmO n p → k + f = n → Up rank p k → Runs n (cmpR rank) (W.kas_bin f p k) fun r => PmO n r ∧ Up rank r n
 | 0, p, k, hp, hk, hu => ⟨hp, by rw [← hk]; exact hu⟩
 | f + 1, p, k, hp, hk, hu => by
  have sz := hp.size
  refine Runs.bind ((place_ok hp (by omega) hu k 0 k (by omega) (by omega) (Nat.le_refl _) (fun i h => by omega) (fun i a b => by omega)).mono fun l ⟨a, b, c⟩ => ?_)
  refine bin_ok f _ (k + 1) (hp.bub _ _) (by omega) fun i j hij hj => ?_
  have hb := fun x => RK_bubble (rank := rank) (xs := p) (src := k) (d := k - l) (by omega) (by omega) x
  rw [hb i, hb j]
  have el : k - (k - l) = l := by omega
  rw [el]
  have hu' := hu
  by_cases i1 : i = l
  ·rw [if_pos i1]
   by_cases j1 : j = l
   ·rw [if_pos j1]; exact Nat.le_refl _
   ·rw [if_neg j1, if_pos ⟨by omega, by omega⟩]
    exact Nat.le_of_lt (c (j - 1) (by omega) (by omega))
  ·rw [if_neg i1]
   by_cases i2 : l < i ∧ i ≤ k
   ·rw [if_pos i2, if_neg (by omega), if_pos ⟨by omega, by omega⟩]
    exact hu _ _ (by omega) (by omega)
   ·rw [if_neg i2]
    have il : i < l := by omega
    by_cases j1 : j = l
    ·rw [if_pos j1]; exact b i il
    ·rw [if_neg j1]
     by_cases j2 : l < j ∧ j ≤ k
     ·rw [if_pos j2]; exact hu _ _ (by omega) (by omega)
     ·rw [if_neg j2]; exact hu _ _ hij (by omega)
theorem sort_ok (h1 : 1 ≤ n) (rank : Nat → Nat) : ∃ p, runB n (cmpR rank) (W.kas_sort n) = some p ∧ p.toList.Perm (List.range n) ∧ (p.toList.map rank).Pairwise (· ≤ ·) := by
 have : Runs n (cmpR rank) (W.kas_sort n) fun p => PmO n p ∧ Up rank p n := by
  refine Runs.bind ((count_ok (rank := rank) ⟨Array.Perm.refl _⟩ h1).mono fun r ⟨a, b, c, d⟩ => ?_)
  show Runs n (cmpR rank) (if r.1 < n then _ else _) _
  split
  ·have e : max r.1 1 = r.1 := by omega
   rw [e]
   exact bin_ok _ _ _ c (by omega) d
  ·exact ⟨c, by rw [show n = r.1 by omega]; exact d⟩
 obtain ⟨p, e, hp, hu⟩ := this.run
 refine ⟨p, e, ?_, ?_⟩
 ·have := hp.pm
  rw [Array.perm_iff_toList_perm] at this
  simpa using this
 ·have sz := hp.size
  rw [List.pairwise_iff_getElem]
  intro i j hi hj hij
  rw [List.length_map] at hi hj
  have li : i < p.size := by simpa using hi
  have lj : j < p.size := by simpa using hj
  have := hu i j (by omega) (by omega)
  unfold RK at this
  rw [List.getElem_map, List.getElem_map]
  have ei : p.getD i 0 = p.toList[i]'hi := by simp [Array.getD, li]
  have ej : p.getD j 0 = p.toList[j]'hj := by simp [Array.getD, lj]
  rw [ei, ej] at this
  exact this
end
end PyZ
namespace PyZ
open PySem PyProof PyProof.Rows SeqAt
open AutoSeq1 (wpAny_loadPart')
theorem ints_at {vs : List Value} {ns : List Int} (h : IntsAre vs ns) : ∀ {i : Nat} {v : Value}, vs[i]? = some v → ∃ n t, ns[i]? = some n ∧ v = .int n t := by
 induction h with
 | nil => intro i v e; simp at e
 | cons n t _ ih =>
  intro i v e
  match i, e with
  | 0, e => cases e; exact ⟨_, _, rfl, rfl⟩
  | i + 1, e => exact ih (i := i) (by simpa using e)
theorem ints_len {vs : List Value} {ns : List Int} (h : IntsAre vs ns) : vs.length = ns.length := by
 induction h with
 | nil => rfl
 | cons _ _ _ ih => rw [List.length_cons, List.length_cons, ih]
theorem lexB_drop {fin : Bool} {xs ys : List Int} {i : Nat} {x y : Int} (hx : xs[i]? = some x) (hy : ys[i]? = some y) : lexB fin (xs.drop i) (ys.drop i) = if x = y then lexB fin (xs.drop (i + 1)) (ys.drop (i + 1)) else decide (x < y) := by
 have h1 := (List.getElem?_eq_some_iff.mp hx)
 have h2 := (List.getElem?_eq_some_iff.mp hy)
 obtain ⟨l1, e1⟩ := h1
 obtain ⟨l2, e2⟩ := h2
 rw [List.drop_eq_getElem_cons l1, List.drop_eq_getElem_cons l2, e1, e2]
 rfl
theorem lexB_end {fin : Bool} {xs ys : List Int} {i : Nat} (h : xs[i]? = none ∨ ys[i]? = none) : lexB fin (xs.drop i) (ys.drop i) = fin := by
 rcases h with h | h
 ·rw [List.drop_eq_nil_of_le (List.getElem?_eq_none_iff.mp h)]
  rfl
 ·rw [List.drop_eq_nil_of_le (as := ys) (List.getElem?_eq_none_iff.mp h)]
  cases xs.drop i with
  | nil => rfl
  | cons _ _ => rfl
theorem lt_loop (l b : Addr) (items items2 : Array Value) (n n2 : Nat) (dd dd2 : Option Addr) (sl sl2 : Array (Option Value)) {xs ys : List Int} (hx : IntsAre items.toList xs) (hy : IntsAre items2.toList ys) (k : Nat) :
  ∀ i : Nat, items.size - i = k → Meets (Builtin.«list.__eq__.loop» ⟨[.ref l, .ref b, rawInt i, rawInt 0], []⟩)
   (fun A R s => s.heap.get? l = some { cls := .type "list", dict := dd, data := .seq items n, slots := sl } ∧ s.heap.get? b = some { cls := .type "list", dict := dd2, data := .seq items2 n2, slots := sl2 } ∧
    R (.ok (.ret (.bool (lexB (decide (xs.length < ys.length)) (xs.drop i) (ys.drop i))))) s) := by
 have sx : items.size = xs.length := by rw [← ints_len hx, Array.length_toList]
 have sy : items2.size = ys.length := by rw [← ints_len hy, Array.length_toList]
 induction k with
 | zero =>
  intro i hk prog w A R s h
  obtain ⟨hp, g, d, tk, os⟩ := s; obtain ⟨hl, hb, h⟩ := h
  wp_walk using wpAny_loadPart' hl, wpAny_loadPart' hb
  have hi1 : items[((i : Nat) : Int).toNat]? = none := by simp; omega
  rw [lexB_end (.inl (List.getElem?_eq_none (by omega)))] at h
  rw [hi1]
  wp_walk using wpAny_loadPart' hl, wpAny_loadPart' hb
  show R (.ok (.ret (.bool (decide (items.size < items2.size))))) _
  rw [sx, sy]
  exact h
 | succ k ih =>
  intro i hk prog w A R s h
  obtain ⟨hp, g, d, tk, os⟩ := s; obtain ⟨hl, hb, h⟩ := h
  wp_walk using wpAny_loadPart' hl, wpAny_loadPart' hb
  have hlt : i < items.size := by omega
  have hi1 : items[((i : Nat) : Int).toNat]? = some items[i] := by simp [hlt]
  have hc : ((i : Int) + 1) = ((i + 1 : Nat) : Int) := by push_cast; rfl
  by_cases hlt2 : i < items2.size
  ·have hi2 : items2[((i : Nat) : Int).toNat]? = some items2[i] := by simp [hlt2]
   obtain ⟨x, tx, ex, vx⟩ := ints_at hx (i := i) (v := items[i]) (by simp [hlt])
   obtain ⟨y, ty, ey, vy⟩ := ints_at hy (i := i) (v := items2[i]) (by simp [hlt2])
   rw [lexB_drop ex ey] at h
   rw [hi1, hi2, vx, vy]
   refine wpAny_bind (EqAt.int_int _ _ _ _ prog w _ _ ?_)
   by_cases e : x = y
   ·rw [if_pos e] at h
    rw [show (x == y) = true from beq_iff_eq.mpr e]
    wp_walk
    rw [hc]
    exact ⟨plainId_quiet MeetsSeq3.plain_eq_loop _, codeAny_builtin MeetsSeq3.entry_eq_loop (by
     rw [Around.under_plainId MeetsSeq3.plain_eq_loop _]
     exact ih (i + 1) (by omega) prog w A R _ ⟨hl, hb, h⟩)⟩
   ·rw [if_neg e] at h
    rw [show (x == y) = false from beq_eq_false_iff_ne.mpr e]
    wp_walk using wpAny_loadPart' hl, wpAny_loadPart' hb
    rw [hi1, hi2, vx, vy]
    refine wpAny_bind (lt_int ?_)
    exact wpAny_pure h
  ·have hi2 : items2[((i : Nat) : Int).toNat]? = none := by simp; omega
   rw [lexB_end (.inr (List.getElem?_eq_none (by omega)))] at h
   rw [hi1, hi2]
   wp_walk using wpAny_loadPart' hl, wpAny_loadPart' hb
   show R (.ok (.ret (.bool (decide (items.size < items2.size))))) _
   rw [sx, sy]
   exact h
theorem list_lt (l b : Addr) (items items2 : Array Value) (n n2 : Nat) (dd dd2 : Option Addr) (sl sl2 : Array (Option Value)) {xs ys : List Int} (hx : IntsAre items.toList xs) (hy : IntsAre items2.toList ys) :
  Meets (Builtin.«list.__lt__» ⟨[.ref l, .ref b], []⟩)
   (fun A R s => s.heap.get? l = some { cls := .type "list", dict := dd, data := .seq items n, slots := sl } ∧ s.heap.get? b = some { cls := .type "list", dict := dd2, data := .seq items2 n2, slots := sl2 } ∧
    R (.ok (.ret (.bool (ltB xs ys)))) s) := by
 intro prog w A R s h
 obtain ⟨hp, g, d, tk, os⟩ := s; obtain ⟨hl, hb, h⟩ := h
 have f3 := AutoSeq1.sub_list_list
 wp_walk using wpAny_loadPart' hl, wpAny_loadPart' hb
 exact ⟨plainId_quiet MeetsSeq3.plain_eq_loop _, codeAny_builtin MeetsSeq3.entry_eq_loop (by
  rw [Around.under_plainId MeetsSeq3.plain_eq_loop _]
  exact lt_loop l b items items2 n n2 dd dd2 sl sl2 hx hy _ 0 rfl prog w A R _ ⟨hl, hb, by simpa [ltB] using h⟩)⟩
section
variable {prog : Program} {w : World} {A : Around} {E : Value → Shared → Prop} {s : Shared}
theorem oneLt_list {l b : Addr} {us vs : List Value} {xs ys : List Int} {Q : Bool → Shared → Prop} (hu : A.units < cLine) (hl : s.heap.IsList l us.toArray) (hb : s.heap.IsList b vs.toArray) (hx : IntsAre us xs) (hy : IntsAre vs ys) (h : Q (ltB xs ys) s) :
  wpAny (model prog w) A (keyLt' oneType' (.ref l) (.ref b)) Q E s := by
 obtain ⟨ol, e1, c1, n1, d1⟩ := hl
 obtain ⟨ob, e2, c2, n2, d2⟩ := hb
 obtain ⟨ocls, odict, odata, oslots⟩ := ol
 obtain ⟨ocls2, odict2, odata2, oslots2⟩ := ob
 simp only at c1 d1 c2 d2
 subst c1 d1 c2 d2
 rw [keyLt'_oneType, oneLt'_eq]
 simp only [if_true]
 refine wpAny_bind (wpAny_cRoomFor hu ?_)
 refine wpAny_bind (wpAny_callSpecialIfBound?_slot ⟨_, e1, rfl⟩ PySem.F.slot_list_lt ?_)
 refine call_meets PySem.F.slot_list_lt ⟨_, e1, rfl⟩ PySem.F.entry_list_lt (PySem.F.args_list_lt_2 _ _) (list_lt l b us.toArray vs.toArray n1 n2 odict odict2 oslots oslots2 (by simpa using hx) (by simpa using hy)) ⟨e1, e2, ?_⟩
 exact wpAny_truthy_bool h
end
end PyZ
namespace PyZ
open PySem PyProof PyProof.Rows
theorem ltB_nil (ys : List Int) : ltB [] ys = decide (0 < ys.length) := rfl
theorem ltB_nilR (xs : List Int) : ltB xs [] = false := by
 cases xs with
 | nil => rfl
 | cons x xs =>
  show decide ((x :: xs).length < ([] : List Int).length) = false
  exact decide_eq_false (by simp)
theorem ltB_cons (x y : Int) (xs ys : List Int) : ltB (x :: xs) (y :: ys) = if x = y then ltB xs ys else decide (x < y) := by
 unfold ltB
 show (if x = y then lexB _ xs ys else _) = _
 have e : decide ((x :: xs).length < (y :: ys).length) = decide (xs.length < ys.length) := by
  simp only [List.length_cons, Nat.add_lt_add_iff_right]
 rw [e]
theorem ltB_irr : ∀ xs : List Int, ltB xs xs = false
 | [] => rfl
 | x :: xs => by rw [ltB_cons, if_pos rfl]; exact ltB_irr xs
theorem ltB_tot : ∀ {xs ys : List Int}, ltB xs ys = false → ltB ys xs = false → xs = ys
 | [], [], _, _ => rfl
 | [], _ :: _, h, _ => by rw [ltB_nil] at h; simp at h
 | _ :: _, [], _, h => by rw [ltB_nil] at h; simp at h
 | x :: xs, y :: ys, h1, h2 => by
  rw [ltB_cons] at h1 h2
  by_cases e : x = y
  ·rw [if_pos e] at h1
   rw [if_pos e.symm] at h2
   rw [e, ltB_tot h1 h2]
  ·rw [if_neg e] at h1
   rw [if_neg (Ne.symm e)] at h2
   have a := of_decide_eq_false h1
   have b := of_decide_eq_false h2
   omega
theorem ltB_trans : ∀ {xs ys zs : List Int}, ltB xs ys = true → ltB ys zs = true → ltB xs zs = true
 | xs, ys, [], _, h => by rw [ltB_nilR] at h; cases h
 | xs, [], z :: zs, h, _ => by rw [ltB_nilR] at h; cases h
 | [], y :: ys, z :: zs, _, _ => by rw [ltB_nil]; exact decide_eq_true (by simp)
 | x :: xs, y :: ys, z :: zs, h1, h2 => by
  rw [ltB_cons] at h1 h2 ⊢
  by_cases e1 : x = y
  ·rw [if_pos e1] at h1
   by_cases e2 : y = z
   ·rw [if_pos e2] at h2
    rw [if_pos (e1.trans e2)]
    exact ltB_trans h1 h2
   ·rw [if_neg e2] at h2
    have := of_decide_eq_true h2
    rw [if_neg (by omega)]
    exact decide_eq_true (by omega)
  ·rw [if_neg e1] at h1
   have a := of_decide_eq_true h1
   by_cases e2 : y = z
   ·rw [if_neg (by omega)]
    exact decide_eq_true (by omega)
   ·rw [if_neg e2] at h2
    have := of_decide_eq_true h2
    rw [if_neg (by omega)]
    exact decide_eq_true (by omega)
theorem runB_congr {n : Nat} {cmp cmp' : Nat → Nat → Bool} (h : ∀ i j, i < n → j < n → cmp i j = cmp' i j) {α : Type} : ∀ t : W.KasT α, runB n cmp t = runB n cmp' t
 | .ret a => rfl
 | .ask i j k => by
  rw [runB, runB]
  by_cases hh : i < n ∧ j < n
  ·rw [if_pos hh, if_pos hh, h i j hh.1 hh.2]
   exact runB_congr h _
  ·rw [if_neg hh, if_neg hh]
theorem countP_lt {α : Type} {p q : α → Bool} : ∀ {l : List α}, (∀ x ∈ l, p x = true → q x = true) → (∃ x ∈ l, p x = false ∧ q x = true) → l.countP p < l.countP q
 | [], _, ⟨x, hx, _⟩ => by cases hx
 | y :: l, h, ⟨x, hx, hp, hq⟩ => by
  have le : ∀ {l : List α}, (∀ x ∈ l, p x = true → q x = true) → l.countP p ≤ l.countP q := fun {l} h => List.countP_mono_left h
  rw [List.countP_cons, List.countP_cons]
  have h' : ∀ x ∈ l, p x = true → q x = true := fun z hz => h z (List.mem_cons_of_mem _ hz)
  rcases List.mem_cons.mp hx with e | hx
  ·rw [← e, hp, hq]
   have := le h'
   simp only [Bool.false_eq_true, if_false, if_true]
   omega
  ·have := countP_lt h' ⟨x, hx, hp, hq⟩
   have hy := h y List.mem_cons_self
   cases e1 : p y with
   | true => rw [hy e1]; omega
   | false =>
    simp only [Bool.false_eq_true, if_false]
    split <;> omega
def rkB (yss : List (List Int)) (i : Nat) : Nat := (List.range yss.length).countP fun k => ltB (yss.getD k []) (yss.getD i [])
theorem rk_iff {yss : List (List Int)} {i j : Nat} (hi : i < yss.length) (hj : j < yss.length) : ltB (yss.getD i []) (yss.getD j []) = decide (rkB yss i < rkB yss j) := by
 have up : ∀ {i j : Nat}, i < yss.length → ltB (yss.getD i []) (yss.getD j []) = true → rkB yss i < rkB yss j := fun {i j} hi h => by
  refine countP_lt (fun k _ hk => ltB_trans hk h) ⟨i, List.mem_range.mpr hi, ltB_irr _, h⟩
 cases e : ltB (yss.getD i []) (yss.getD j []) with
 | true => rw [decide_eq_true (up hi e)]
 | false =>
  cases e2 : ltB (yss.getD j []) (yss.getD i []) with
  | true =>
   have := up hj e2
   rw [decide_eq_false (by omega)]
  | false =>
   have := ltB_tot e e2
   unfold rkB
   rw [this]
   exact (decide_eq_false (by omega)).symm
theorem sort_rows {yss : List (List Int)} (h1 : 1 ≤ yss.length) : ∃ p, runB yss.length (fun i j => ltB (yss.getD i []) (yss.getD j [])) (W.kas_sort yss.length) = some p ∧ p.toList.Perm (List.range yss.length) ∧ (p.toList.map fun i => yss.getD i []).Pairwise fun a b => ltB b a = false := by
 obtain ⟨p, e, hp, hs⟩ := sort_ok h1 (rkB yss)
 refine ⟨p, (runB_congr (fun i j hi hj => rk_iff hi hj) _).trans e, hp, ?_⟩
 rw [List.pairwise_map] at hs ⊢
 refine List.Pairwise.imp_of_mem (fun {a b} ha hb hab => ?_) hs
 have la := List.mem_range.mp (hp.mem_iff.mp ha)
 have lb := List.mem_range.mp (hp.mem_iff.mp hb)
 rw [rk_iff lb la]
 exact decide_eq_false (by omega)
section
variable {prog : Program} {w : World} {A : Around} {E : Value → Shared → Prop} {s : Shared}
theorem sort_small {a : Addr} {vs : List Value} {n : Nat} {P : Fin → Shared → Prop} (ho : s.heap.get? a = some (seqObj "list" vs.toArray n)) (h2 : vs.length < 2)
  (h : P (.done (.ret .none)) { s with heap := sortedHeap s.heap a vs vs.toArray }) : wpAny (model prog w) A (Builtin.«list.sort» ⟨[.ref a], []⟩) P E s := by
 rw [list_sort_plain]
 have ha : a < s.heap.objs.size := Heap.lt_size ho
 refine wpAny_bind (listItems_at ho rfl ?_)
 refine wpAny_bind (listUpdate_at ho rfl ?_)
 obtain ⟨e1, ho1⟩ : ∃ e1, (s.heap.update a (Obj.mapSeq fun _ => #[])).get? a = some (seqObj "list" #[] e1) := ⟨_, get?_update_seq ho (fun _ => #[])⟩
 refine wpAny_bind (seqEpoch_at ho1 rfl ?_)
 refine wpAny_bind (wpAny_newTuple ?_)
 refine wpAny_bind (wpAny_newList ?_)
 refine wpAny_holding ?_
 have ho6 : (((s.heap.update a (Obj.mapSeq fun _ => #[])).push (seqObj "tuple" vs.toArray 0)).push (seqObj "list" #[] 0)).get? a = some (seqObj "list" #[] e1) := by
  rw [Heap.get?_push_ne _ _ _ (by rw [size_push', Heap.size_update]; exact Nat.ne_of_lt (Nat.lt_succ_of_lt ha)), Heap.get?_push_ne _ _ _ (by rw [Heap.size_update]; exact Nat.ne_of_lt ha)]
  exact ho1
 show wpAny (model prog w) A _ P E { s with heap := ((s.heap.update a (Obj.mapSeq fun _ => #[])).push (seqObj "tuple" vs.toArray 0)).push (seqObj "list" #[] 0) }
 dsimp only
 have hsz : vs.toArray.size = vs.length := by simp
 have h2' : vs.toArray.size < 2 := by omega
 rw [if_pos h2', if_pos h2']
 refine wpAny_bind (wpAny_pure ?_)
 rw [StateT.run_pure]
 refine wpAny_bind (wpAny_pure ?_)
 dsimp only
 have eo : (arrOf (SortSt.mk' general' (vs.toArray.zip vs.toArray) #[] 7 none)).map (·.2) = vs.toArray := by
  show (vs.toArray.zip vs.toArray).map (·.2) = vs.toArray
  match vs, h2 with
  | [], _ => simp
  | [v], _ => simp
 refine wpAny_bind (seqEpoch_at ho6 rfl ?_)
 refine wpAny_bind (listUpdate_at ho6 rfl ?_ (hsz2 := by rw [Array.size_map]; show (pairsOf vs).size ≤ _; rw [pairsOf_size, sizeLine_eq]; omega))
 simp only [bne_self_eq_false, Bool.false_eq_true, if_false]
 refine wpAny_pure ?_
 rw [eo]
 exact h
theorem sorted_small {l : Addr} {vs : List Value} {Q : Value → Shared → Prop} (hl : s.heap.IsList l vs.toArray) (h2 : vs.length < 2)
  (h : Q (.ref (s.heap.objs.size + 1)) { s with heap := sortedAll s.heap vs vs.toArray }) : wpAny (model prog w) A (call (.builtin "sorted") [.ref l]) Q E s := by
 refine Calls.call_function_entry kind_sorted plain_sorted entry_sorted (args_sorted1 _) ?_
 unfold Builtin.«sorted»
 refine wpAny_bind (m := checkCount "sorted" 1 1 _) (wpAny_pure ?_)
 refine wpAny_bind (collect_list hl ?_ (by rw [sizeLine_eq]; omega))
 refine wpAny_bind (wpAny_newList ?_ (by rw [sizeLine_eq]; omega))
 have hsz : ((s.heap.push (seqObj "list" #[] 0)).update s.heap.objs.size (Obj.mapSeq (· ++ vs.toArray))).objs.size = s.heap.objs.size + 1 := by
  rw [Heap.size_update, size_push']
 have hoL : (((s.heap.push (seqObj "list" #[] 0)).update s.heap.objs.size (Obj.mapSeq (· ++ vs.toArray))).push (seqObj "list" vs.toArray 0)).get? (s.heap.objs.size + 1) = some (seqObj "list" vs.toArray 0) := by
  rw [← hsz]; exact Heap.get?_push_size _ rfl
 show wpAny _ _ _ _ _ { s with heap := ((s.heap.push (seqObj "list" #[] 0)).update s.heap.objs.size (Obj.mapSeq (· ++ vs.toArray))).push (seqObj "list" vs.toArray 0) }
 rw [hsz]
 refine wpAny_bind (wpAny_holding (wpAny_call_entry slot_list_sort ⟨_, hoL, rfl⟩ entry_list_sort (sort_small hoL h2 ⟨_, rfl, ?_⟩) (args_list_sort _)))
 exact wpAny_pure ⟨_, rfl, h⟩
end
section
variable {prog : Program} {w : World} {A : Around} {E : Value → Shared → Prop} {s : Shared}
theorem sorted_lists {l L : Addr} {m : Str → Option Value} {as : List Addr} {yss : List (List Int)} {p : Array Nat} {Q : Value → Shared → Prop} (hu : A.units + 2 < cLine) (hNs : s.heap.Ns L m) (hl : s.heap.IsList l (as.map Value.ref).toArray) (n2 : 2 ≤ as.length) (n64 : as.length < 64) (hy : as.length = yss.length)
  (ht : ∀ (i : Nat) a, as[i]? = some a → a ≠ L ∧ ∃ (us : List Value) (ys : List Int), yss[i]? = some ys ∧ s.heap.IsList a us.toArray ∧ IntsAre us ys)
  (hp : runB as.length (fun i j => ltB (yss.getD i []) (yss.getD j [])) (W.kas_sort as.length) = some p)
  (q : ∀ D c h', s.heap.get? D = none → D ≠ L → (∀ b o, b ≠ L → s.heap.get? b = some o → h'.get? b = some o) → h'.Ns L m → h'.get? D = some (W.listOf (p.toList.map fun i => (as.map Value.ref).getD i Value.none).toArray c) → Q (.ref D) { s with heap := h' }) :
  wpAny (model prog w) A (call (.builtin "sorted") [.ref l]) Q E s := by
 have fr : Fr (cutH s.heap L) L s.heap m := by
  refine ⟨hNs, fun b o e => ?_, ?_⟩
  ·by_cases hb : b < L
   ·rw [cutH_get hb] at e; exact e
   ·rw [cutH_none (Nat.le_of_not_lt hb)] at e
    cases e
  ·show (s.heap.objs.extract 0 L).size ≤ L
   rw [Array.size_extract, Nat.sub_zero]
   exact Nat.min_le_left ..
 have nw : News (cutH s.heap L) L s.heap (behind s.heap L) := fun x hx => by
  obtain ⟨h1, h2⟩ := mem_behind.mp hx
  exact ⟨h2, Nat.ne_of_gt h1, cutH_none (Nat.le_of_lt h1)⟩
 have lv : (as.map Value.ref).length = as.length := List.length_map ..
 refine W.kat_sorted fr nw hl (by rw [lv]; exact n2) (by rw [lv]; exact n64) fun D e1 h' fr' nw' big => ?_
 have kept : ∀ b o, b ≠ L → s.heap.get? b = some o → h'.get? b = some o := fun b o hb e => by
  rcases Nat.lt_or_ge b L with h1 | h1
  ·exact fr'.keep b o (by rw [cutH_get h1]; exact e)
  ·exact (nw' (b, o) (List.mem_cons_of_mem _ (mem_behind.mpr ⟨Nat.lt_of_le_of_ne h1 (Ne.symm hb), e⟩))).1
 have dn : s.heap.get? D = none := by
  cases e : s.heap.get? D with
  | none => rfl
  | some o =>
   obtain ⟨_, dL, dc⟩ := nw' _ (List.mem_cons_self ..)
   rcases Nat.lt_or_ge D L with h1 | h1
   ·rw [cutH_get h1] at dc
    rw [dc] at e
    cases e
   ·exact absurd (big (D, o) (mem_behind.mpr ⟨Nat.lt_of_le_of_ne h1 (Ne.symm dL), e⟩)) (Nat.lt_irrefl _)
 have dL : D ≠ L := (nw' _ (List.mem_cons_self ..)).2.1
 have ht' : ∀ (i : Nat) a, as[i]? = some a → ∃ (us : List Value) (ys : List Int), yss[i]? = some ys ∧ h'.IsList a us.toArray ∧ IntsAre us ys := fun i a hi => by
  obtain ⟨aL, us, ys, e, ⟨o, g1, g2⟩, ia⟩ := ht i a hi
  exact ⟨us, ys, e, ⟨o, kept a o aL g1, g2⟩, ia⟩
 refine W.kas_kind (T := Value.type "list") (by rw [lv]; exact n2) (fun v hv => ?_) (by decide +kernel) (by decide +kernel) ?_
 ·obtain ⟨a, ha, rfl⟩ := List.mem_map.mp hv
  obtain ⟨i, hi⟩ := List.getElem?_of_mem ha
  obtain ⟨us, ys, _, ⟨o, g1, g2, _⟩, _⟩ := ht' i a hi
  intro A Q E s' hk q
  refine wpAny_typeOf (T := "list") ⟨o, hk _ _ g1, g2⟩ q
 ·rw [lv]
  refine kasWp_run (cmp := fun i j => ltB (yss.getD i []) (yss.getD j [])) (fun i j C hi hj c => ?_) _ p _ hp ?_
  ·unfold W.kas_ask
   obtain ⟨us, ys, e, i1, ia⟩ := ht' i as[i] (List.getElem?_eq_getElem hi)
   obtain ⟨us2, ys2, e2, i2, ia2⟩ := ht' j as[j] (List.getElem?_eq_getElem hj)
   have v1 : (as.map Value.ref).getD i Value.none = .ref as[i] := by
    rw [List.getD_eq_getElem?_getD, List.getElem?_map, List.getElem?_eq_getElem hi]
    rfl
   have v2 : (as.map Value.ref).getD j Value.none = .ref as[j] := by
    rw [List.getD_eq_getElem?_getD, List.getElem?_map, List.getElem?_eq_getElem hj]
    rfl
   have w1 : yss.getD i [] = ys := by rw [List.getD_eq_getElem?_getD, e]; rfl
   have w2 : yss.getD j [] = ys2 := by rw [List.getD_eq_getElem?_getD, e2]; rfl
   rw [v1, v2]
   rw [w1, w2] at c
   exact oneLt_list (by show A.units + 1 + 1 < cLine; omega) i1 i2 ia ia2 c
  ·refine ⟨_, _, fr', nw', W.UpdF.head (fun x hx => Nat.ne_of_lt (big x hx)), fun h'' c fr'' nw'' => ?_⟩
   refine q D c h'' dn dL (fun b o hb e => ?_) fr''.ns (nw'' _ (List.mem_cons_self ..)).1
   rcases Nat.lt_or_ge b L with h1 | h1
   ·exact fr''.keep b o (by rw [cutH_get h1]; exact e)
   ·exact (nw'' (b, o) (List.mem_cons_of_mem _ (mem_behind.mpr ⟨Nat.lt_of_le_of_ne h1 (Ne.symm hb), e⟩))).1
end
end PyZ
namespace L2
open PySem PySem.Spec PyProof.Rows
section
variable {X : Cx} {pins : List (Addr × Obj)} {σ : St} {H : Hp} {s : Shared}
theorem one_map : ∀ {as : List Addr}, as.length < 2 → ((List.range as.length).map fun i => as.getD i 0) = as
 | [], _ => rfl
 | [_], _ => rfl
theorem one_pw {β : Type} : ∀ {n : Nat}, n < 2 → ∀ (f : Nat → β) (R : β → β → Prop), ((List.range n).map f).Pairwise R
 | 0, _, _, _ => List.Pairwise.nil
 | 1, _, _, _ => List.pairwise_singleton _ _
def rowO (tp : Bool) (ys : List Int) : HO := if tp then .tup (ys.map V.int) else .lst (ys.map V.int)
def rSortG (tp : Bool) : List V → Hp → VK → Prop := fun xs H Q => ∃ (l : Addr) (as : List Addr) (yss : List (List Int)), xs = [.ref l] ∧ H l = some (.lst (as.map V.ref)) ∧ as.length = yss.length ∧ as.length < 64 ∧
 (∀ (i : Nat) a, as[i]? = some a → ∃ ys, yss[i]? = some ys ∧ ys ≠ [] ∧ H a = some (rowO tp ys)) ∧
 ∀ D js, H D = none → List.Perm js (List.range as.length) → (js.map fun i => yss.getD i []).Pairwise (fun a b => PyZ.ltB b a = false) → Q (.ref D) (upd H D (.lst ((js.map fun i => as.getD i 0).map V.ref)))
theorem call_sortG (tp : Bool) (hu : X.A.units + 64 < cLine) : CallR X (.builtin "sorted") (rSortG tp) := by
 intro pins s σ H xs us Q I r h
 obtain ⟨l, as, yss, rfl, hl, hy, n64, ht, q⟩ := h
 obtain ⟨u, rfl, ru⟩ := r.one
 cases ru
 obtain ⟨m, hm, hlk⟩ := id I.loc
 obtain ⟨z, its, n, rv, hlen, e⟩ := I.lstM hl
 have ei := vals_refs rv
 subst ei
 have hil : s.heap.IsList l (as.map Value.ref).toArray := (I.list (.of hl)).elim fun its' hh => by
  obtain ⟨rv', pl, _⟩ := hh
  have := vals_refs rv'
  rw [this] at pl
  exact pl.isList
 have szl : (16777216 : Nat) = sizeLine := by decide
 have neL : ∀ {a : Addr} {o : HO}, H a = some o → a ≠ X.env.locals := fun {a o} e z => by rw [z, I.free] at e; cases e
 by_cases n2 : as.length < 2
 ·refine PyZ.sorted_small hil (by rw [List.length_map]; exact n2) ?_
  obtain ⟨e1, he⟩ := sortedAll_at s.heap (as.map Value.ref) (as.map Value.ref).toArray
  have old : ∀ b o, s.heap.get? b = some o → (sortedAll s.heap (as.map Value.ref) (as.map Value.ref).toArray).get? b = some o := fun b o e => sortedAll_old e
  generalize sortedAll s.heap (as.map Value.ref) (as.map Value.ref).toArray = h' at he old ⊢
  have hle : s.heap.objs.size ≤ s.heap.objs.size + 1 := Nat.le_succ _
  generalize s.heap.objs.size + 1 = D at he hle ⊢
  have em := one_map n2
  have hpw := one_pw n2 (fun i => yss.getD i []) fun a b => PyZ.ltB b a = false
  have fin := q D (List.range as.length) (I.hok.fresh hle) (List.Perm.refl _) hpw
  rw [em] at fin
  have I' : Inv X pins σ (upd H D (.lst (as.map V.ref))) { s with heap := h', toks := s.toks } := I.laid (a := D) (o := .lst (as.map V.ref)) (t' := s.toks) old hle ⟨by rw [List.length_map]; omega, as.map Value.ref, e1, refs_vals as, he⟩
  exact ⟨.ref D, _, I', rfl, fin⟩
 ·obtain ⟨p, hp, hpm, hps⟩ := PyZ.sort_rows (yss := yss) (by omega)
  rw [← hy] at hp hpm
  have hpi : ∀ i ∈ p.toList, i < as.length := fun i hi => List.mem_range.mp (hpm.mem_iff.mp hi)
  have pl : p.toList.length = as.length := by rw [hpm.length_eq, List.length_range]
  have es : (p.toList.map fun i => (as.map Value.ref).getD i Value.none) = (p.toList.map fun i => as.getD i 0).map Value.ref := by
   rw [List.map_map]
   refine List.map_congr_left fun i hi => ?_
   have := hpi i hi
   show (as.map Value.ref).getD i Value.none = Value.ref (as.getD i 0)
   rw [List.getD_eq_getElem?_getD, List.getElem?_map, List.getElem?_eq_getElem this, List.getD_eq_getElem?_getD, List.getElem?_eq_getElem this]
   rfl
  have fin : ∀ D c h', s.heap.get? D = none → D ≠ X.env.locals → (∀ b o, b ≠ X.env.locals → s.heap.get? b = some o → h'.get? b = some o) → h'.Ns X.env.locals m → h'.get? D = some (W.listOf (p.toList.map fun i => (as.map Value.ref).getD i Value.none).toArray c) →
    ∃ v H', Inv X pins σ H' { s with heap := h' } ∧ RelV v (.ref D) ∧ Q v H' := fun D c h' dn dL kept hn' hD => by
   rw [es] at hD
   obtain ⟨I', hH⟩ := I.newL (ys := (p.toList.map fun i => as.getD i 0).map V.ref) hm hlk dn dL kept hn' (by rw [List.length_map, List.length_map]; omega) (refs_vals _) hD
   exact ⟨.ref D, _, I', rfl, q D _ hH hpm hps⟩
  cases tp with
  | true =>
   refine PyZ.sorted_tups (yss := yss) (p := p) hm hil (by omega) n64 hy (fun i a hi => ?_) hp fin
   obtain ⟨ys, e1, ne, ha⟩ := ht i a hi
   have ha : H a = some (.tup (ys.map V.int)) := ha
   obtain ⟨us, rv', pt, _⟩ := I.tuple (.of ha)
   exact ⟨neL ha, us, ys, e1, pt, vals_intsA rv', ne⟩
  | false =>
   refine PyZ.sorted_lists (yss := yss) (p := p) (by omega) hm hil (by omega) n64 hy (fun i a hi => ?_) hp fin
   obtain ⟨ys, e1, ne, ha⟩ := ht i a hi
   have ha : H a = some (.lst (ys.map V.int)) := ha
   obtain ⟨us, rv', pt, _⟩ := I.list (.of ha)
   exact ⟨neL ha, us, ys, e1, pt.isList, vals_intsA rv'⟩
end
end L2
namespace PyY
open PySem
open AutoSeq1 (wpAny_loadPart')
section
variable {prog : Program} {w : World} {A : Around} {E : Value → Shared → Prop} {s : Shared}
end
end PyY
namespace L2
open PySem PySem.Spec PyProof.Rows
section
variable {X : Cx} {pins : List (Addr × Obj)} {σ : St} {H : Hp} {s : Shared}
end
structure ZiIt (J : It) (At : Hp → Prop) (ps : List (V × V)) : Prop where
 go : ∀ i H, At H → i < ps.length → J.go i H
 yld : ∀ i H x H2, At H → J.yld i H x H2 → ∃ T y z, x = .ref T ∧ H T = none ∧ H2 = upd H T (.tup [y, z]) ∧ ps[i]? = some (y, z)
 stop : ∀ i H, At H → ps.length ≤ i → J.stop i H
theorem comp_zip {K : PySem.W.Frag} {J : It} {At : Hp → Prop} {own : List Str} {caps : List Nat} {te : TE} {σ : St} {H Hx : Hp} {Q : VK} {ps : List (V × V)} (S : ZiIt J At ps) (hAt : ∀ H', Same Hx H' → At H') (sx : Same Hx H) (cs : St) (hcs : capS own caps σ = none :: none :: cs) (f : V → V → V) (hz : ps.length ≤ 1000000)
  (hs : ∀ (i : Nat) x y H', ps[i]? = some (x, y) → Same H H' → ∀ R : VK, (∀ H5, Same H' H5 → R (f x y) H5) → te (some x :: some y :: cs) H' R)
  (hd : ∀ D H', H D = none → Same H H' → H' D = some (.lst (ps.map fun p => f p.1 p.2)) → Q (.ref D) H') : CompK own caps (gTup K 2 (gCons (gName 0) (gCons (gName 1) gNil))) tTrue te σ Q J H := by
 intro D hD
 refine ⟨fun i m σ' H' => m = ps.length - i ∧ i ≤ ps.length ∧ (∃ v0 v1, σ' = v0 :: v1 :: cs) ∧ Same H H' ∧ H' D = some (.lst ((ps.take i).map fun p => f p.1 p.2)), ⟨_, rfl, Nat.zero_le _, ⟨none, none, hcs⟩, Same.upd hD, by rw [upd_same, List.take_zero]; rfl⟩, ?_⟩
 rintro i m σ' H' ⟨rfl, hi, ⟨v0, v1, rfl⟩, s, hl⟩
 have at' := hAt H' (sx.trans s)
 by_cases hlt : i < ps.length
 ·refine .inr ⟨S.go i H' at' hlt, fun σ2 H2 => (∃ v0 v1, σ2 = v0 :: v1 :: cs) ∧ Same H H2 ∧ H2 D = some (.lst ((ps.take (i + 1)).map fun p => f p.1 p.2)), fun σ2 H2 z => ⟨ps.length - (i + 1), by omega, rfl, hlt, z.1, z.2.1, z.2.2⟩, fun x H2 hy => ?_⟩
  obtain ⟨T, y, z, rfl, hT, rfl, hx⟩ := S.yld i H' x H2 at' hy
  have ht : ps.take (i + 1) = ps.take i ++ [(y, z)] := by rw [List.take_add_one, hx]; rfl
  refine ⟨T, _, rfl, .of upd_same, rfl, _, _, rfl, _, _, rfl, rfl, ?_⟩
  refine tT (A := fun H4 => te (some y :: some z :: cs) H4 fun v H5 => ∃ xs, H5 D = some (.lst xs) ∧ xs.length < sizeLine ∧ (∃ v0 v1, (some y :: some z :: cs : St) = v0 :: v1 :: cs) ∧ Same H (upd H5 D (.lst (xs ++ [v]))) ∧ (upd H5 D (.lst (xs ++ [v]))) D = some (.lst ((ps.take (i + 1)).map fun p => f p.1 p.2))) ?_
  refine hs i y z _ hx (s.trans (Same.upd hT)) _ fun H5 s5 => ⟨_, s5 _ _ (Same.upd hT _ _ hl), ?_, ⟨_, _, rfl⟩, ((s.trans (Same.upd hT)).trans s5).updr hD, ?_⟩
  ·rw [List.length_map, List.length_take]
   have : (16777216 : Nat) = sizeLine := by decide
   omega
  ·rw [upd_same, ht, List.map_append]
   rfl
 ·have e : i = ps.length := by omega
  subst e
  refine .inl ⟨S.stop _ H' at' (Nat.le_refl _), hd D H' hD s ?_⟩
  rw [hl, List.take_length]
end L2
namespace C28
open PySem L2 PySem.Spec PyProof.Rows
open Tb Pm
abbrev sWhole : Stmt := top 1
abbrev sAreT : Stmt := top 2
abbrev sIsPerm : Stmt := top 8
abbrev sPTimes : Stmt := top 9
abbrev sIsDeed : Stmt := top 11
abbrev sAlong : Stmt := top 12
def spWholeY : Sp := fun vs H Q _ => ∃ z : Int, vs = [.int z] ∧ Q (.bl true) H
def spAreY : Sp := fun vs H Q _ => ∃ (r : Addr) (xs : List Nat) (c : Nat), vs = [.ref r, .int (c : Nat)] ∧ TT2 H r (xs.map nV) ∧ xs.length ≤ 1000 ∧ (∀ x ∈ xs, x < c) ∧ ∀ H', Same H H' → Q (.bl true) H'
def DT (H : Hp) (d : Addr) (ds : List (List Nat)) : Prop := ∃ rs : List Addr, H d = some (.tup (rs.map V.ref)) ∧ rs.length = ds.length ∧ ∀ (i : Nat) r, rs[i]? = some r → TT2 H r ((ds.getD i []).map nV)
theorem DT.mono {H H' : Hp} {d : Addr} {ds : List (List Nat)} (s : Same H H') (h : DT H d ds) : DT H' d ds := by
 obtain ⟨rs, h1, h2, h3⟩ := h
 exact ⟨rs, s _ _ h1, h2, fun i r hr => (h3 i r hr).mono s⟩
theorem DT.gt {H : Hp} {d : Addr} {t : List (List Nat)} (h : GT H d t) : DT H d t := by
 obtain ⟨rs, h1, h2, h3⟩ := h
 exact ⟨rs, h1, h2, fun i r hr => .inr (h3 i r hr)⟩
theorem DT.at {H : Hp} {d : Addr} {ds : List (List Nat)} (h : DT H d ds) {a : Nat} (ha : a < ds.length) : ∃ (rs : List Addr) (r : Addr), H d = some (.tup (rs.map V.ref)) ∧ rs.length = ds.length ∧ atI (rs.map V.ref) (a : Int) = some (.ref r) ∧ TT2 H r ((ds.getD a []).map nV) := by
 obtain ⟨rs, h1, h2, h3⟩ := h
 have hr : rs[a]? = some (rs[a]'(by omega)) := List.getElem?_eq_getElem (by omega)
 exact ⟨rs, _, h1, h2, atI_nat (by rw [List.getElem?_map, hr]; rfl), h3 a _ hr⟩
theorem DT.row {H : Hp} {g : Addr} {t : List (List Nat)} (G : DT H g t) {rs : List Addr} (h : H g = some (.tup (rs.map V.ref))) {i : Nat} {y : V} (hy : (rs.map V.ref)[i]? = some y) : ∃ r, y = .ref r ∧ i < t.length ∧ TT2 H r ((t.getD i []).map nV) := by
 obtain ⟨rs', h1, h2, h3⟩ := G
 have ers : rs' = rs := by
  rw [h] at h1
  have hh := Option.some.inj h1
  injection hh with hh
  exact ((List.map_inj_right (fun x y e => by injection e)).mp hh).symm
 subst ers
 rw [List.getElem?_map] at hy
 cases e : rs'[i]? with
 | none => rw [e] at hy; cases hy
 | some r =>
  rw [e] at hy
  exact ⟨r, (Option.some.inj hy).symm, by have := (List.getElem?_eq_some_iff.mp e).1; omega, h3 i r e⟩
theorem nvAt {l : List Nat} {i : Nat} (h : i < l.length) : atI (l.map nV) (i : Int) = some (.int (l.getD i 0 : Nat)) := atI_nat (by rw [List.getElem?_map, getD_lt h]; rfl)
theorem Dd.mem {t ds : List (List Nat)} {m : Nat} (D : Dd t m ds) {a : Nat} (ha : a < t.length) : ∀ x ∈ ds.getD a [], x < m := fun x hx => by
 obtain ⟨i, hi, e⟩ := List.getElem_of_mem hx
 have := D.lt a i ha (by rw [D.rl a ha] at hi; exact hi)
 unfold mul at this
 rw [List.getD_eq_getElem?_getD, List.getElem?_eq_getElem hi] at this
 rw [← e]
 exact this
theorem Dd.met {t ds : List (List Nat)} {m : Nat} (P : PW t) (D : Dd t m ds) {a : Nat} (ha : a < t.length) : (metOf (nI (ds.getD a [])) (nI (ds.getD a [])).length).length = m := by
 have rl := D.rl a ha
 have ln : (nI (ds.getD a [])).length = m := by unfold nI; rw [List.length_map, rl]
 have := (perm_iff (nI (ds.getD a []))).mpr fun k hk => ?_
 ·rw [this.2, ln]
 ·rw [ln] at hk
  unfold nI
  refine List.mem_map.mpr ⟨k, ?_, rfl⟩
  have hb := bck_of P ha
  have hl := D.lt _ k hb.1 hk
  have e : mul ds a (mul ds (bck t a) k) = k := by rw [← D.go a _ k ha hb.1 hk, hb.2, D.one k hk]
  have : (ds.getD a [])[mul ds (bck t a) k]? = some k := by
   rw [getD_lt (by omega)]
   congr 1
  exact List.mem_of_getElem? this
theorem Dd.aft {t ds : List (List Nat)} {m : Nat} (P : PW t) (D : Dd t m ds) {a b : Nat} (ha : a < t.length) (hb : b < t.length) : ds.getD (mul t a b) [] = Pm.aft (ds.getD a []) (ds.getD b []) := by
 have hm := P.lt a b ha hb
 refine row_ext (by unfold Pm.aft; rw [List.length_map, D.rl _ hm, D.rl b hb]) fun i hi => ?_
 rw [D.rl _ hm] at hi
 have e2 : (Pm.aft (ds.getD a []) (ds.getD b [])).getD i 0 = mul ds a (mul ds b i) := by
  unfold Pm.aft
  rw [List.getD_eq_getElem?_getD, List.getElem?_map, getD_lt (by rw [D.rl b hb]; exact hi)]
  rfl
 rw [e2]
 exact D.go a b i ha hb hi
def spPermY : Sp := fun vs H Q _ => ∃ (r : Addr) (t ds : List (List Nat)) (m a : Nat), vs = [.ref r] ∧ TT2 H r ((ds.getD a []).map nV) ∧ PW t ∧ Dd t m ds ∧ m ≤ 24 ∧ a < t.length ∧ ∀ H', Same H H' → Q (.bl true) H'
def spPTim : Sp := fun vs H Q _ => ∃ (x y : Addr) (f g : List Nat) (m : Nat), vs = [.ref x, .ref y] ∧ TT2 H x (f.map nV) ∧ TT2 H y (g.map nV) ∧ f.length = m ∧ g.length ≤ 1000 ∧ (∀ i ∈ g, i < m) ∧ ∀ r H', Same H H' → H' r = some (.tup ((Pm.aft f g).map nV)) → Q (.ref r) H'
def spDeedY : Sp := fun vs H Q _ => ∃ (g d : Addr) (t ds : List (List Nat)) (m : Nat), vs = [.ref g, .ref d] ∧ GT H g t ∧ PW t ∧ DT H d ds ∧ Dd t m ds ∧ m ≤ 24 ∧ ∀ H', Same H H' → Q (.bl true) H'
theorem decI (a b : Nat) : decide (V.int ((a : Nat) : Int) = V.int ((b : Nat) : Int)) = decide (a = b) := by
 rw [dec_int]
 by_cases e : a = b
 ·rw [decide_eq_true e, e]; exact beq_self_eq_true _
 ·rw [decide_eq_false e]; exact beq_eq_false_iff_ne.mpr (by omega)
theorem en_zi {J : It} {At : Hp → Prop} {xs : List V} (S : EnIt J At xs) : ZiIt J At (((List.range xs.length).map nV).zip xs) where
 go := fun i H h hi => S.go i H h (by rw [List.length_zip, List.length_map, List.length_range, Nat.min_self] at hi; exact hi)
 yld := fun i H x H2 h hy => by
  obtain ⟨T, y, rfl, hT, rfl, e⟩ := S.yld i H x H2 h hy
  have hi := (List.getElem?_eq_some_iff.mp e).1
  refine ⟨T, .int i, y, rfl, hT, rfl, ?_⟩
  rw [List.getElem?_zip_eq_some, List.getElem?_map, List.getElem?_range hi]
  exact ⟨rfl, e⟩
 stop := fun i H h hi => S.stop i H h (by rw [List.length_zip, List.length_map, List.length_range, Nat.min_self] at hi; exact hi)
theorem en_get {xs : List V} {i : Nat} {x y : V} (h : (((List.range xs.length).map nV).zip xs)[i]? = some (x, y)) : i < xs.length ∧ x = .int (i : Nat) ∧ xs[i]? = some y := by
 rw [List.getElem?_zip_eq_some, List.getElem?_map] at h
 obtain ⟨h1, h2⟩ := h
 have hi := (List.getElem?_eq_some_iff.mp h2).1
 rw [List.getElem?_range hi] at h1
 exact ⟨hi, (Option.some.inj h1).symm, h2⟩
theorem shapedR (ns : List Nat) : SeqAt.shaped (dRow ns) = true := by
 unfold SeqAt.shaped dRow
 have h1 : PyData.canLay0 (.tuple (ns.map fun k : Nat => PyData.int (k : Int))) = true := nlay ns
 have h2 : PyData.depth (.tuple (ns.map fun k : Nat => PyData.int (k : Int))) ≤ 64 := by
  show PyData.depthAll (ns.map fun k : Nat => PyData.int (k : Int)) + 1 ≤ 64
  rw [ndep ns]
  omega
 simp only [h1, Bool.true_and, Bool.and_true, decide_eq_true_eq]
 exact h2
theorem eqvR (a b : List Nat) : PyData.eqv (dRow a) (dRow b) = decide (a = b) := by
 rw [← eqvTN a b]
 unfold dRow nI
 rw [List.map_map, List.map_map]
 rfl
theorem allT (n : Nat) : (List.replicate n true).all id = true := by rw [List.all_eq_true]; intro x hx; exact (List.mem_replicate.mp hx).2
theorem anyF (n : Nat) : (List.replicate n false).any id = false := by rw [List.any_eq_false]; intro x hx; rw [(List.mem_replicate.mp hx).2]; decide
theorem map_const {α : Type} (b : Bool) (xs : List α) : (xs.map fun _ => V.bl b) = (List.replicate xs.length b).map V.bl := by
 induction xs with
 | nil => rfl
 | cons x r ih => rw [List.map_cons, ih]; rfl
section
variable {P : Program} {w : World} {K : PySem.W.Frag} {mg : Str → Option Value} {base : Heap}
theorem scWholeY : FnScope ["thing"] ["thing"] (defScope sWhole) := FS
theorem ok_wholeY {f : Addr} {fd : FuncData} (F : Fun K "is_whole" "is_whole" sWhole f fd) (T : Bl mg) : FnOk P w K mg base CX0 1 f fd ["thing"] spWholeY := by
 refine F.ok scWholeY (fun vs H Q E h => ?_) (fun cdv A outer s H vs Q E hr h => ?_)
 ·obtain ⟨z, rfl, _⟩ := h; rfl
 ·obtain ⟨z, rfl, q⟩ := h
  refine ⟨_, pss_one (ps_ret (pe_and (cb (isaK K "int") T.isi (pc (vn 0) (pc (tyv "int" T.int) pa_nil))) (pe_one (pe_not (cb (isaK K "bool") T.isi (pc (vn 0) (pc (tyv "bool" T.bool) pa_nil))))))), ?_⟩
  have hk : Kd K H (.int z) "int" := ⟨.int z, by decide⟩
  exact ⟨_, rfl, _, _, rfl, hk, _, rfl, iteP (by decide) ⟨_, rfl, _, _, rfl, hk, _, rfl, q⟩⟩
theorem scAreT : FnScope ["thing", "count"] ["thing", "count"] (defScope sAreT) := FS
theorem ok_areT {f : Addr} {fd : FuncData} (F : Fun K "are_things" "are_things" sAreT f fd) (T : Bl mg) (GW : Fn P w K mg base CX0 1 "is_whole" ["thing"] spWholeY) : FnOk P w K mg base CX0 2 f fd ["thing", "count"] spAreY := by
 refine F.ok scAreT (fun vs H Q E h => ?_) (fun cdv A outer s H vs Q E hr h => ?_)
 ·obtain ⟨r, xs, c, rfl, _⟩ := h; rfl
 ·obtain ⟨r, xs, c, rfl, hx, hl, hlt, q⟩ := h
  refine ⟨_, pss_one (ps_ret (pe_and (cb (isaZ K) T.isi (pc (vn 0) (pc (tyv "tuple" T.tuple) pa_nil)))
   (pe_one (cb (call_all rfl) T.all (pc (cmp ["x"] [1] ["x", "count"] rfl (itT K (vn 0)) (fun _ _ _ _ _ => gn 0) (fun _ _ _ _ _ => pif_nil)
    (fun _ _ _ _ _ => pe_and (fnc GW hr pass0 (pc (vn 0) pa_nil)) (pe_one (pe_chain op_le op_lt pe_int (vn 0) (vn 1))))) pa_nil))))), ?_⟩
  refine ⟨_, rfl, r, _, rfl, hx, _, rfl, iteP rfl ?_⟩
  refine ⟨_, rfl, r, rfl, ⟨_, hx.sq⟩, ?_⟩
  refine comp_map (seq_tup (K := K) hx.sq) [some (.int c)] rfl (fun _ => .bl true) (by rw [List.length_map]; omega) (fun i y H' hy s R g => ?_) (fun D H' hD s hl' => ?_)
  ·obtain ⟨k, hk, rfl⟩ := nV_get hy
   have := hlt k (List.mem_of_getElem? hk)
   refine ⟨_, rfl, _, rfl, _, rfl, iteP rfl ⟨_, rfl, _, _, rfl, rfl, _, rfl, iteP (decide_eq_true (by omega)) ⟨_, rfl, _, _, rfl, rfl, ?_⟩⟩⟩
   have e : decide (((k : Nat) : Int) < ((c : Nat) : Int)) = true := decide_eq_true (by omega)
   have := g H' (Same.refl _)
   rw [← e] at this
   exact this
  ·refine ⟨D, List.replicate xs.length true, rfl, .of ?_, ?_⟩
   ·rw [hl']
    congr 2
    refine List.ext_getElem? fun i => ?_
    rw [List.getElem?_map, List.getElem?_map, List.getElem?_map, List.getElem?_replicate]
    by_cases h : i < xs.length
    ·rw [List.getElem?_eq_getElem h, if_pos h]; rfl
    ·rw [List.getElem?_eq_none (by omega), if_neg h]; rfl
   ·have e : (List.replicate xs.length true).all id = true := by rw [List.all_eq_true]; intro x hx; exact (List.mem_replicate.mp hx).2
    rw [e]
    exact q H' s
theorem scIsPerm : FnScope ["thing"] ["thing"] (defScope sIsPerm) := FS
theorem ok_isPerm {f : Addr} {fd : FuncData} {tk : Tok} (F : Fun K "is_perm" "is_perm" sIsPerm f fd) (T : Bl mg) (hM : mg "MOST_PLACES" = some (.int 24 tk)) (GA : Fn P w K mg base CX0 2 "are_things" ["thing", "count"] spAreY) :
  FnOk P w K mg base CX0 3 f fd ["thing"] spPermY := by
 refine F.ok scIsPerm (fun vs H Q E h => ?_) (fun cdv A outer s H vs Q E hr h => ?_)
 ·obtain ⟨r, t, ds, m, a, rfl, _⟩ := h; rfl
 ·obtain ⟨r, t, ds, m, a, rfl, hx, Pt, D, m24, ha, q⟩ := h
  refine ⟨_, pss_cons (ps_if (pw_or (pt_not (pt_val (cb (isaZ K) T.isi (pc (vn 0) (pc (tyv "tuple" T.tuple) pa_nil)))))
    (pw_or (pt_cmpR op_lt (cb (lenK K) T.len (pc (vn 0) pa_nil)) pe_int (nomark _)) (pw_or1 (pt_cmpR op_gt (cb (lenK K) T.len (pc (vn 0) pa_nil)) (gint hM) (nomark _))))).pt pss_never pss_nil)
   (pss_one (ps_ret (pe_and (fnc GA hr pass0 (pc (vn 0) (pc (cb (lenK K) T.len (pc (vn 0) pa_nil)) pa_nil)))
    (pe_one (pe_cmpR op_eq (cb call_lenS T.len (pc (ct (call_setT rfl) T.set (pc (vn 0) pa_nil)) pa_nil)) (cb (lenK K) T.len (pc (vn 0) pa_nil)) (nomark _)))))), ?_⟩
  have m1 := D.m1
  have rl : ((ds.getD a []).map nV).length = m := by rw [List.length_map, D.rl a ha]
  refine ⟨_, rfl, r, _, rfl, hx, _, rfl, iteN (by decide) ?_⟩
  refine ⟨_, rfl, r, _, rfl, .inr hx.sq, _, _, rfl, rfl, _, rfl, iteN (fun z => by have := of_decide_eq_true z; omega) ?_⟩
  refine ⟨_, rfl, r, _, rfl, .inr hx.sq, _, _, rfl, rfl, _, rfl, iteN (fun z => by have := of_decide_eq_true z; omega) ?_⟩
  refine ⟨_, rfl, _, rfl, r, _, rfl, .inr hx.sq, r, ds.getD a [], ((ds.getD a []).map nV).length, rfl, hx, by rw [D.rl a ha]; omega, fun x h => by rw [rl]; exact Dd.mem D ha x h, fun H1 s1 => ⟨_, rfl, iteP rfl ?_⟩⟩
  have hx1 := hx.mono s1
  have met := Dd.met Pt D ha
  have nl : (nI (ds.getD a [])).length = m := by unfold nI; rw [List.length_map, D.rl a ha]
  refine ⟨_, rfl, r, nI (ds.getD a []), rfl, by rw [nI_V]; exact hx1.sq, by omega, fun p np => ?_⟩
  have s2 := Same.upd (H := H1) (o := .set (fun k => (metOf (nI (ds.getD a [])) (nI (ds.getD a [])).length).any (· == k)) (metOf (nI (ds.getD a [])) (nI (ds.getD a [])).length).length) np
  refine ⟨p, _, _, rfl, upd_same, _, rfl, r, _, rfl, .inr (hx1.mono s2).sq, rfl, ?_⟩
  rw [met, rl, decI, decide_eq_true rfl]
  exact q _ (s1.trans (met ▸ s2))
theorem scPTim : FnScope ["one", "other"] ["one", "other"] (defScope sPTimes) := FS
theorem ok_pTim {f : Addr} {fd : FuncData} (F : Fun K "perm_times" "perm_times" sPTimes f fd) (T : Bl mg) : FnOk P w K mg base CX0 1 f fd ["one", "other"] spPTim := by
 refine F.ok scPTim (fun vs H Q E h => ?_) (fun cdv A outer s H vs Q E hr h => ?_)
 ·obtain ⟨x, y, f, g, m, rfl, _⟩ := h; rfl
 ·obtain ⟨x, y, f, g, m, rfl, hx, hy, fl, gl, glt, q⟩ := h
  refine ⟨_, pss_one (ps_ret (ct call_tuple_of T.tuple (pc (cmp ["place"] [0] ["place", "one"] rfl (itT K (vn 1)) (fun _ _ _ _ _ => gn 0) (fun _ _ _ _ _ => pif_nil) (fun _ _ _ _ _ => pe_ix (ixT K) (vn 1) (vn 0) (fun _ _ => rfl))) pa_nil))), ?_⟩
  refine ⟨_, rfl, y, rfl, ⟨_, hy.sq⟩, ?_⟩
  refine comp_map (seq_tup (K := K) hy.sq) [some (.ref x)] rfl (fAft f) (by rw [List.length_map]; omega) (fun i z H' hz s R k => ?_) (fun D H' nD s hD => ?_)
  ·obtain ⟨c, hc, rfl⟩ := nV_get hz
   have hcl := glt c (List.mem_of_getElem? hc)
   have := k H' (Same.refl _)
   have e : fAft f (.int (c : Nat)) = .int (f.getD c 0 : Nat) := by
    show nV (f.getD (c : Int).toNat 0) = _
    rw [Int.toNat_natCast]
    rfl
   rw [e] at this
   exact ⟨_, rfl, _, rfl, x, _, _, _, rfl, rfl, (hx.mono s).sq, nvAt (by omega), this⟩
  ·rw [fAft_map] at hD
   refine ⟨D, _, rfl, .inl ⟨.of hD, fun r nr => ?_⟩⟩
   exact q r _ (s.trans (Same.upd nr)) upd_same
theorem scAlong : FnScope ["group", "perms", "a", "row"] ["group", "perms"] (defScope sAlong) := FS
theorem ok_along {f : Addr} {fd : FuncData} (F : Fun K "goes_along" "goes_along" sAlong f fd) (T : Bl mg) (T2 : BlS2 mg) (GP : Fn P w K mg base CX0 1 "perm_times" ["one", "other"] spPTim) : FnOk P w K mg base CX0 2 f fd ["group", "perms"] spDeedY := by
 refine F.ok scAlong (fun vs H Q E h => ?_) (fun cdv A outer s H vs Q E hr h => ?_)
 ·obtain ⟨g, d, t, ds, m, rfl, _⟩ := h; rfl
 ·obtain ⟨g, d, t, ds, m, rfl, G, Pt, hD, D, m24, q⟩ := h
  refine ⟨_, pss_cons (ps_for PassesOwn.never rfl (enumK K T2.enumerate (pc (vn 0) pa_nil)) (g2 K 2 3 rfl (gnf 2 rfl) (gn 3))
    (pss_one (ps_if (pt_val (cb (call_any rfl) T.any (pc (cmp ["b", "c"] [1, 2] ["b", "c", "perms", "a"] rfl (enumK K (by exact T2.enumerate) (pc (vn 3) pa_nil)) (fun _ _ _ _ _ => g2 K 0 1 rfl (gn 0) (gn 1)) (fun _ _ _ _ _ => pif_nil)
     (fun _ _ _ _ _ => pe_cmpR (neC K hr.units) (pe_ix (ixT K) (vn 2) (vn 1) (fun _ _ => rfl)) (fnc GP hr pass0 (pc (pe_ix (ixT K) (vn 2) (vn 3) (fun _ _ => rfl)) (pc (pe_ix (ixT K) (vn 2) (vn 0) (fun _ _ => rfl)) pa_nil))) (nomark _))) pa_nil))) pss_never pss_nil)))
   (pss_one (ps_ret pe_bl)), ?_⟩
  have n60 := Pt.n60
  obtain ⟨gs, u1, u2, _⟩ := id G
  have el : (gs.map V.ref).length = t.length := by rw [List.length_map, u2]
  refine ⟨_, rfl, g, rfl, .inr ⟨⟨_, .of u1⟩, ?_⟩⟩
  refine for_enum (en_tup (K := K) (xs := gs.map V.ref)) (fun i σ' H' => ∃ v2 v3 : Option V, σ' = [some (.ref g), some (.ref d), v2, v3] ∧ Same H H')
   ⟨_, _, rfl, Same.refl _⟩ (fun i σ' H' h => h.choose_spec.choose_spec.2.tup (.of u1)) ?_ ?_
  ·rintro a y σ' H1 T' hy ⟨v2, v3, rfl, s1⟩ nT
   obtain ⟨ra, rfl, ha, hra⟩ := DT.row (DT.gt G) u1 hy
   have sT := s1.trans (Same.upd (o := .tup [.int a, .ref ra]) nT)
   refine ⟨T', _, rfl, .of upd_same, rfl, _, _, rfl, _, _, rfl, rfl, ?_⟩
   generalize upd H1 T' (.tup [.int a, .ref ra]) = H2 at sT ⊢
   have rl := row_len Pt ha
   have hra2 := hra.mono sT
   refine ⟨_, rfl, ra, rfl, .inr ⟨⟨_, hra2.sq⟩, ?_⟩⟩
   refine comp_zip (en_zi (en_tup (K := K) (xs := (t.getD a []).map nV))) (Hx := H2) (fun H' s' => (hra2.mono s').sq) (Same.refl _) [some (.ref d), some (.int (a : Nat))] rfl (fun _ _ => .bl false) (by rw [List.length_zip, List.length_map, List.length_range, List.length_map, rl]; omega) (fun b x y H3 hxy s3 R k => ?_) (fun L H3 nL s3 hL => ?_)
   ·obtain ⟨hb, rfl, ey⟩ := en_get hxy
    rw [List.length_map, rl] at hb
    rw [row_at Pt ha hb] at ey
    have ey := Option.some.inj ey
    subst ey
    have hc := Pt.lt a b ha hb
    have hD3 := hD.mono (sT.trans s3)
    obtain ⟨rs, rc, d1, _, d2, d3⟩ := hD3.at (a := mul t a b) (by rw [D.len]; exact hc)
    obtain ⟨rs1, ra', e1, _, e2, e3⟩ := hD3.at (a := a) (by rw [D.len]; exact ha)
    obtain ⟨rs2, rb', f1, _, f2, f3⟩ := hD3.at (a := b) (by rw [D.len]; exact hb)
    refine ⟨_, rfl, _, rfl, d, _, _, _, rfl, rfl, .of d1, d2, _, rfl, _, rfl, d, _, _, _, rfl, rfl, .of e1, e2, _, rfl, _, rfl, d, _, _, _, rfl, rfl, .of f1, f2, ra', rb', ds.getD a [], ds.getD b [], m, rfl, e3, f3, D.rl a ha, by rw [D.rl b hb]; omega, Dd.mem D hb, fun r H4 s4 hr4 => ?_⟩
    refine ⟨dRow (ds.getD (mul t a b) []), dRow (Pm.aft (ds.getD a []) (ds.getD b [])), .tup (d3.mono s4).sq (rds_nats _), .tup (.of hr4) (rds_nats _), shapedR _, shapedR _, ?_⟩
    rw [Dd.aft Pt D ha hb, eqvR, decide_eq_true rfl]
    exact k H4 s4
   ·refine ⟨L, List.replicate ((((List.range ((t.getD a []).map nV).length).map nV).zip ((t.getD a []).map nV)).length) false, rfl, .of ?_, ?_⟩
    ·rw [hL, map_const]
    ·rw [anyF]
     exact ⟨_, rfl, iteN (by decide) ⟨_, _, rfl, sT.trans s3⟩⟩
  ·rintro σ' H1 ⟨v2, v3, rfl, s1⟩
   exact q H1 s1
theorem scIsDeed : FnScope ["group", "thing"] ["group", "thing"] (defScope sIsDeed) := FS
theorem ok_isDeed {f : Addr} {fd : FuncData} (F : Fun K "is_deed" "is_deed" sIsDeed f fd) (T : Bl mg) (GPm : Fn P w K mg base CX0 3 "is_perm" ["thing"] spPermY) (GL : Fn P w K mg base CX0 2 "goes_along" ["group", "perms"] spDeedY) : FnOk P w K mg base CX0 4 f fd ["group", "thing"] spDeedY := by
 refine F.ok scIsDeed (fun vs H Q E h => ?_) (fun cdv A outer s H vs Q E hr h => ?_)
 ·obtain ⟨g, d, t, ds, m, rfl, _⟩ := h; rfl
 ·obtain ⟨g, d, t, ds, m, rfl, G, Pt, hD, D, m24, q⟩ := h
  refine ⟨_, pss_cons (ps_if (pw_or (pt_not (pt_val (cb (isaZ K) T.isi (pc (vn 1) (pc (tyv "tuple" T.tuple) pa_nil))))) (pw_or1 (pt_cmpR op_ne (cb (lenK K) T.len (pc (vn 1) pa_nil)) (cb (lenK K) T.len (pc (vn 0) pa_nil)) (nomark _)))).pt pss_never pss_nil)
   (pss_cons (ps_if (pt_not (pt_val (cb (call_all rfl) T.all (pc (cmp ["perm"] [] ["perm"] rfl (itT K (vn 1)) (fun _ _ _ _ _ => gn 0) (fun _ _ _ _ _ => pif_nil) (fun _ _ _ _ _ => fnc GPm hr pass0 (pc (vn 0) pa_nil))) pa_nil)))) pss_never pss_nil)
   (pss_cons (ps_if (pt_val (cb (call_any rfl) T.any (pc (cmp ["perm"] [1] ["perm", "thing"] rfl (itT K (vn 1)) (fun _ _ _ _ _ => gn 0) (fun _ _ _ _ _ => pif_nil) (fun _ _ _ _ _ => pe_cmpR op_ne (cb (lenK K) (by exact T.len) (pc (vn 0) pa_nil)) (cb (lenK K) (by exact T.len) (pc (pe_ix (ixT K) (vn 1) pe_int (fun _ _ => rfl)) pa_nil)) (nomark _))) pa_nil))) pss_never pss_nil)
   (pss_one (ps_ret (fnc GL hr pass0 (pc (vn 0) (pc (vn 1) pa_nil))))))), ?_⟩
  have n1 := Pt.n1
  have n60 := Pt.n60
  obtain ⟨gxs, g1, g2⟩ := GT.len (K := K) G
  obtain ⟨rs, h1, h2, h3⟩ := id hD
  have dl := D.len
  have rl : (rs.map V.ref).length = t.length := by rw [List.length_map]; omega
  refine ⟨_, rfl, d, _, rfl, .inl h1, _, rfl, iteN (by decide) ?_⟩
  refine ⟨_, rfl, d, _, rfl, .inr (.of h1), _, rfl, g, gxs, rfl, .inr g1, rfl, _, rfl, iteN (by rw [rl, g2]; simp) ?_⟩
  refine ⟨_, rfl, d, rfl, ⟨_, .of h1⟩, ?_⟩
  refine comp_map (seq_tup (K := K) (.of h1)) [] rfl (fun _ => .bl true) (by omega) (fun a y H1 hy s1 R k => ?_) (fun L H1 nL s1 hL => ?_)
  ·obtain ⟨r, rfl, ha, hr'⟩ := DT.row hD h1 hy
   exact ⟨_, rfl, r, t, ds, m, a, rfl, hr'.mono s1, Pt, D, m24, by omega, fun H5 s5 => k H5 s5⟩
  refine ⟨L, List.replicate (rs.map V.ref).length true, rfl, .of (by rw [hL, map_const]), ?_⟩
  rw [allT]
  refine ⟨_, rfl, iteN (by decide) ?_⟩
  have h11 := s1 _ _ h1
  have hD1 := hD.mono s1
  refine ⟨_, rfl, d, rfl, ⟨_, .of h11⟩, ?_⟩
  refine comp_map (seq_tup (K := K) (.of h11)) [some (.ref d)] rfl (fun _ => .bl false) (by omega) (fun a y H2 hy s2 R k => ?_) (fun L2 H2 nL2 s2 hL2 => ?_)
  ·obtain ⟨r, rfl, ha, hr'⟩ := DT.row hD1 h11 hy
   obtain ⟨rs0, r0, e1, _, e2, e3⟩ := (hD1.mono s2).at (a := 0) (by omega)
   refine ⟨_, rfl, r, _, rfl, .inr (hr'.mono s2).sq, _, rfl, d, _, _, _, rfl, rfl, .of e1, e2, r0, _, rfl, .inr e3.sq, rfl, ?_⟩
   have := k H2 (Same.refl _)
   rw [List.length_map, List.length_map, D.rl a (by omega), D.rl 0 n1, decI, decide_eq_true rfl]
   exact this
  refine ⟨L2, List.replicate (rs.map V.ref).length false, rfl, .of (by rw [hL2, map_const]), ?_⟩
  rw [anyF]
  have s02 := s1.trans s2
  exact ⟨_, rfl, iteN (by decide) ⟨_, rfl, _, rfl, g, d, t, ds, m, rfl, G.mono s02, Pt, hD.mono s02, D, m24, fun H5 s5 => q H5 (s02.trans s5)⟩⟩
end
theorem tup_updL {H : Hp} {a D : Addr} {ys zs : List V} {o : HO} (h : H a = some (.tup ys)) (hD : H D = some (.lst zs)) : upd H D o a = some (.tup ys) := by
 rw [upd_ne (fun z => by rw [z, hD] at h; cases h)]; exact h
theorem comp_rowsN {J : It} {own : List Str} {caps : List Nat} {te : TE} {σ : L2.St} {H : Hp} {Q : VK} {xs : List V} (S : SeqIt J H xs) (cs : L2.St) (hcs : capS own caps σ = none :: cs) (hn : xs.length ≤ 1000) (F : Nat → List Nat)
  (hs : ∀ (i : Nat) y, xs[i]? = some y → ∀ H', Same H H' → ∀ R : VK, (∀ r H5, Same H' H5 → H5 r = some (.tup ((F i).map nV)) → R (.ref r) H5) → te (some y :: cs) H' R)
  (hd : ∀ D (ws : List Addr) H', H D = none → Same H H' → H' D = some (.lst (ws.map V.ref)) → ws.length = xs.length → (∀ (i : Nat) w, ws[i]? = some w → H' w = some (.tup ((F i).map nV))) → Q (.ref D) H') : CompK own caps (gName 0) tTrue te σ Q J H := by
 refine comp_new (W := Addr) id (fun i w H => H w = some (.tup ((F i).map nV))) (fun _ _ => True) S cs hcs hn (fun i w H H' s h => s _ _ h) (fun w H H' s h => trivial) (fun i w H0 H1 D o ys ys' h h0 h1 h2 => tup_updL h h2) (fun i y hy H' s R k => hs i y hy H' s R fun r H5 s5 h5 => k r H5 s5 h5 trivial) fun D ws H' nD s hD wl hw _ => hd D ws H' nD s hD wl fun i w hi => (hw i w hi).1
theorem ct_rows {H : Hp} {c : Addr} {ws : List Addr} {n : Nat} {F : Nat → List Nat} (hc : H c = some (.tup (ws.map V.ref))) (wl : ws.length = n) (hw : ∀ (i : Nat) w, ws[i]? = some w → H w = some (.tup ((F i).map nV))) : CT H c ((List.range n).map F) := by
 refine ⟨ws, hc, by rw [List.length_map, List.length_range]; exact wl, fun i r hr => ?_⟩
 have hi := (List.getElem?_eq_some_iff.mp hr).1
 rw [List.getD_eq_getElem?_getD, List.getElem?_map, List.getElem?_range (by omega)]
 exact hw i r hr
section
variable {P : Program} {w : World} {K : PySem.W.Frag} {mg : Str → Option Value} {base : Heap}
end
def LsAt (H : Hp) (L : Addr) (bs : List Addr) (yss : List (List Nat)) : Prop := H L = some (.lst (bs.map V.ref)) ∧ bs.length = yss.length ∧ ∀ (i : Nat) b, bs[i]? = some b → b ≠ L ∧ H b = some (.lst ((yss.getD i []).map nV))
theorem LsAt.mono {H H' : Hp} {L : Addr} {bs : List Addr} {yss : List (List Nat)} (s : Same H H') (R : LsAt H L bs yss) : LsAt H' L bs yss := ⟨s _ _ R.1, R.2.1, fun i b hb => ⟨(R.2.2 i b hb).1, s _ _ (R.2.2 i b hb).2⟩⟩
theorem LsAt.push {H : Hp} {L : Addr} {bs : List Addr} {yss : List (List Nat)} {b : Addr} {ys : List Nat} (R : LsAt H L bs yss) (hn : b ≠ L) (h : H b = some (.lst (ys.map nV))) : LsAt (upd H L (.lst (bs.map V.ref ++ [.ref b]))) L (bs ++ [b]) (yss ++ [ys]) := by
 refine ⟨by rw [upd_same, List.map_append]; rfl, by rw [List.length_append, List.length_append, R.2.1]; rfl, fun i c hc => ?_⟩
 have bl := R.2.1
 by_cases hi : i < bs.length
 ·rw [List.getElem?_append_left hi] at hc
  obtain ⟨h1, h2⟩ := R.2.2 i c hc
  have e : (yss ++ [ys]).getD i [] = yss.getD i [] := by rw [List.getD_eq_getElem?_getD, List.getElem?_append_left (by omega), List.getD_eq_getElem?_getD]
  rw [e]
  exact ⟨h1, by rw [upd_ne h1]; exact h2⟩
 ·rw [List.getElem?_append_right (by omega)] at hc
  have hi0 : i - bs.length = 0 := by
   apply Classical.byContradiction
   intro z
   rw [List.getElem?_eq_none (by rw [List.length_singleton]; omega)] at hc
   cases hc
  rw [hi0] at hc
  cases hc
  have e : (yss ++ [ys]).getD i [] = ys := by rw [List.getD_eq_getElem?_getD, List.getElem?_append_right (by omega), show i - yss.length = 0 by omega]; rfl
  rw [e]
  exact ⟨hn, by rw [upd_ne hn]; exact h⟩
theorem LsAt.get {H : Hp} {L : Addr} {bs : List Addr} {yss : List (List Nat)} (R : LsAt H L bs yss) {i : Nat} (hi : i < yss.length) : ∃ b, atI (bs.map V.ref) (i : Int) = some (.ref b) ∧ H b = some (.lst ((yss.getD i []).map nV)) := by
 have bl := R.2.1
 have e : bs[i]? = some (bs[i]'(by omega)) := List.getElem?_eq_getElem (by omega)
 exact ⟨_, atI_nat (by rw [List.getElem?_map, e]; rfl), (R.2.2 i _ e).2⟩
def dLs (ns : List Nat) : PyData := .list (ns.map fun k : Nat => PyData.int (k : Int))
theorem rd_ls {K : PySem.W.Frag} {H : Hp} : ∀ (bs : List Addr) (yss : List (List Nat)), bs.length = yss.length → (∀ (j : Nat) b, bs[j]? = some b → H b = some (.lst ((yss.getD j []).map nV))) → RdDs K H (bs.map V.ref) (yss.map dLs)
 | [], [], _, _ => .nil
 | [], _ :: _, h, _ => by cases h
 | _ :: _, [], h, _ => by cases h
 | b :: bs, y :: yss, h, g => .cons (.lst (.of (g 0 b rfl)) (rds_nats y)) (rd_ls bs yss (Nat.succ.inj h) fun j c hc => g (j + 1) c hc)
theorem eqvLN (a b : List Nat) : PyData.eqv (dLs a) (dLs b) = decide (a = b) := by
 have h := eqvTN a b
 unfold dLs
 have e : ∀ c : List Nat, (c.map fun k : Nat => PyData.int (k : Int)) = (nI c).map PyData.int := fun c => by unfold nI; rw [List.map_map]; rfl
 rw [e, e]
 exact h
theorem any_ls (yss : List (List Nat)) (o : List Nat) : ((yss.map dLs).any fun y => y.eqv (dLs o)) = yss.contains o := by
 rw [List.any_map, List.contains_eq_any_beq]
 congr 1
 funext a
 show PyData.eqv (dLs a) (dLs o) = (o == a)
 rw [eqvLN]
 by_cases h : a = o
 ·subst h; simp
 ·rw [decide_eq_false h]
  exact (beq_eq_false_iff_ne.mpr (Ne.symm h)).symm
theorem lay_ls : ∀ yss : List (List Nat), PyData.canLayAll0 (yss.map dLs) = true
 | [] => rfl
 | c :: css => by
  show (PyData.canLayAll0 (c.map fun k : Nat => PyData.int (k : Int)) && PyData.canLayAll0 (css.map dLs)) = true
  rw [nlay, lay_ls css]
  rfl
theorem dep_ls (ns : List Nat) : PyData.depth (dLs ns) ≤ 60 := by
 show PyData.depthAll (ns.map fun k : Nat => PyData.int (k : Int)) + 1 ≤ 60
 rw [ndep ns]
 decide
section
variable {P : Program} {w : World} {K : PySem.W.Frag} {mg : Str → Option Value} {base : Heap}
end
abbrev sHold : Stmt := top 3
def hol (css : List (List Nat)) : Nat → Nat → Nat
 | 0, _ => 0
 | k + 1, a => if (css.getD k []).contains a then k else hol css k a
def spHold : Sp := fun vs H Q _ => ∃ (c : Addr) (css : List (List Nat)) (n : Nat), vs = [.ref c, .int n] ∧ CT H c css ∧ (∀ row ∈ css, ∀ a ∈ row, a < n) ∧ n ≤ 60 ∧ css.length ≤ 60 ∧ ∀ r H', Same H H' → H' r = some (.tup ((rngF n (hol css css.length)).map nV)) → Q (.ref r) H'
section
variable {P : Program} {w : World} {K : PySem.W.Frag} {mg : Str → Option Value} {base : Heap}
theorem scHold : FnScope ["bundles", "count", "numbers", "k", "members", "a"] ["bundles", "count"] (defScope sHold) := FS
theorem ok_hold {f : Addr} {fd : FuncData} (F : Fun K "holders" "holders" sHold f fd) (T : Bl mg) (T2 : BlS2 mg) : FnOk P w K mg base CX0 1 f fd ["bundles", "count"] spHold := by
 refine F.ok scHold (fun vs H Q E h => ?_) (fun cdv A outer s H vs Q E hr h => ?_)
 ·obtain ⟨c, css, n, rfl, _⟩ := h; rfl
 ·obtain ⟨c, css, n, rfl, C, hlt, n60, c60, q⟩ := h
  refine ⟨_, pss_cons (sset 2 rfl (pe_op op_rep (pe_lst (pc pe_int pa_nil)) (vn 1)))
   (pss_cons (ps_for PassesOwn.never rfl (enumK K T2.enumerate (pc (vn 0) pa_nil)) (g2 K 3 4 rfl (gn 3) (gn 4))
    (pss_one (ps_for PassesOwn.never rfl (itT K (vn 4)) (gn 5) (pss_one (ps_asg (vn 3) (pg_sub (vn 2) (vn 5) set_list))))))
   (pss_one (ps_ret (ct call_tuple_of T.tuple (pc (vn 2) pa_nil))))), ?_⟩
  have sz : (16777216 : Nat) = sizeLine := by decide
  obtain ⟨rs, c1, c2, c3⟩ := C.row
  refine ⟨(by show 1 ≤ sizeLine; decide), fun l0 nl0 => ⟨_, rfl, l0, _, _, rfl, rfl, upd_same, by omega, by omega, by show 1 * ((n : Int)).toNat ≤ sizeLine; omega, fun L nL => ?_⟩⟩
  rw [Int.toNat_natCast]
  have s1 := Same.upd (H := H) (o := .lst [.int 0]) nl0
  have nLH : H L = none := s1.free nL
  have e0 : (List.replicate n [V.int 0]).flatten = (rngF n (hol css 0)).map nV := by
   unfold rngF
   rw [List.map_map]
   have : ∀ m k, (List.replicate m [V.int 0]).flatten = (List.range' k m).map fun _ => nV 0 := fun m => by
    induction m with
    | zero => intro k; rfl
    | succ m ih => intro k; rw [List.replicate_succ, List.flatten_cons, ih (k + 1), List.range'_succ, List.map_cons]; rfl
   rw [this n 0, ← List.range_eq_range']
   rfl
  rw [e0]
  have s2 := s1.trans (Same.upd (o := .lst ((rngF n (hol css 0)).map nV)) nL)
  refine ⟨_, rfl, c, rfl, .inr ⟨⟨_, .of (s2 _ _ c1)⟩, ?_⟩⟩
  refine for_enum (en_tup (K := K) (xs := rs.map V.ref)) (fun i σ' H' => ∃ v3 v4 v5 : Option V, σ' = [some (.ref c), some (.int (n : Nat)), some (.ref L), v3, v4, v5] ∧ Same H H' ∧ H' L = some (.lst ((rngF n (hol css i)).map nV)))
   ⟨_, _, _, rfl, s2, upd_same⟩ (fun i σ' H' h => by
    obtain ⟨_, _, _, _, sm, _⟩ := h
    exact sm.tup (.of c1)) ?_ ?_
  ·rintro i y σ' H3 T' hy ⟨v3, v4, v5, rfl, s3, hL3⟩ nT
   obtain ⟨r, rfl, hi, hr'⟩ := c3 i y hy
   have s4 := Same.upd (H := H3) (o := .tup [.int (i : Nat), .ref r]) nT
   refine ⟨T', _, rfl, .of upd_same, rfl, _, _, rfl, _, _, rfl, rfl, ?_⟩
   generalize upd H3 T' (.tup [.int (i : Nat), .ref r]) = H4 at s4 ⊢
   have hr4 := (s3.trans s4) _ _ hr'
   have hm : css.getD i [] ∈ css := by
    rw [List.getD_eq_getElem?_getD, List.getElem?_eq_getElem hi]
    exact List.getElem_mem hi
   have hrow := hlt _ hm
   generalize hrw : css.getD i [] = row at hr' hr4 hrow
   refine ⟨_, rfl, r, rfl, ⟨_, .of hr4⟩, ?_⟩
   refine for_tup (K := K) (a := r) (xs := row.map nV) (fun j σ' H' => ∃ v5 : Option V, σ' = [some (.ref c), some (.int (n : Nat)), some (.ref L), some (.int (i : Nat)), some (.ref r), v5] ∧ Same H H' ∧ H' L = some (.lst ((rngF n fun a => if (row.take j).contains a then i else hol css i a).map nV)))
    ⟨_, rfl, s3.trans s4, by
     have e : (rngF n fun a => if ((row.take 0).contains a) = true then i else hol css i a) = rngF n (hol css i) := rngF_congr fun a _ => by rw [List.take_zero]; rfl
     rw [e]
     exact s4 _ _ hL3⟩ (fun j σ' H' _ h => by
     obtain ⟨_, _, sm, _⟩ := h
     exact .of (sm _ _ (by rw [← hrw] at hr' ⊢; exact hr'))) ?_ ?_
   ·rintro j y σ' H5 hy ⟨v5', rfl, s5, hL5⟩
    obtain ⟨k, hk, rfl⟩ := nV_get hy
    have hkn : k < n := hrow k (List.mem_of_getElem? hk)
    refine ⟨_, rfl, _, rfl, _, rfl, L, _, _, k, rfl, rfl, hL5, ixN_natC (by rw [List.length_map, rngF_len]; exact hkn), ?_⟩
    refine ⟨_, rfl, s5.updr nLH, ?_⟩
    rw [upd_same]
    have e := rngF_set (k := i) (fun a => if ((row.take j).contains a) = true then i else hol css i a) hkn
    have e2 : (rngF n fun b => if b = k then i else if ((row.take j).contains b) = true then i else hol css i b) = rngF n fun a => if ((row.take (j + 1)).contains a) = true then i else hol css i a := rngF_congr fun a _ => by
     rw [List.take_add_one, hk]
     by_cases h1 : a = k
     ·subst h1
      rw [if_pos rfl, if_pos (List.contains_iff_mem.mpr (List.mem_append_right _ (by simp)))]
     ·rw [if_neg h1]
      by_cases h2 : a ∈ row.take j
      ·rw [if_pos (List.contains_iff_mem.mpr h2), if_pos (List.contains_iff_mem.mpr (List.mem_append_left _ h2))]
      ·rw [if_neg (fun z => h2 (List.contains_iff_mem.mp z)), if_neg (fun z => ?_)]
       rcases List.mem_append.mp (List.contains_iff_mem.mp z) with z | z
       ·exact h2 z
       ·exact h1 (by simpa using z)
    rw [e2] at e
    exact congrArg (fun xs => some (HO.lst xs)) e
   ·rintro σ' H5 ⟨v5', rfl, s5, hL5⟩
    refine ⟨_, _, _, rfl, s5, ?_⟩
    rw [List.length_map] at hL5
    rw [hL5]
    have e : (rngF n fun a => if ((row.take row.length).contains a) = true then i else hol css i a) = rngF n (hol css (i + 1)) := rngF_congr fun a _ => by
     rw [List.take_length, hol, hrw]
    rw [e]
  ·rintro σ' H3 ⟨v3, v4, v5, rfl, s3, hL3⟩
   rw [List.length_map, c2] at hL3
   exact ⟨_, rfl, L, _, rfl, .inl ⟨.of hL3, fun r nr => q r _ (s3.trans (Same.upd nr)) upd_same⟩⟩
end
end C28
namespace PyS
open PySem PySem.SetTable
def adv (m : Nat) (p : Probe) : Probe :=
 if p.more > 0 then { p with j := p.j + 1, more := p.more - 1 } else
 let (i, perturb) := leap m p.i p.perturb
 { p with j := i, more := runEnd m i - i, i, perturb }
theorem adv_is (t : SetTable) (p : Probe) : t.advance p = adv t.mask p := rfl
theorem adv_dummy (m : Nat) (p : Probe) : (adv m p).dummy = p.dummy := by
 unfold adv
 split <;> rfl
def wk (m : Nat) : Nat → Probe → Probe
 | 0, p => p
 | k + 1, p => wk m k (adv m p)
theorem wk_add (m : Nat) : ∀ (a b : Nat) (p : Probe), wk m (a + b) p = wk m b (wk m a p)
 | 0, b, p => by rw [Nat.zero_add]; rfl
 | a + 1, b, p => by rw [show a + 1 + b = (a + b) + 1 by omega]; exact wk_add m a b _
theorem wk_succ (m k : Nat) (p : Probe) : wk m (k + 1) p = adv m (wk m k p) := wk_add m k 1 p
theorem wk_dummy (m : Nat) : ∀ (k : Nat) (p : Probe), (wk m k p).dummy = p.dummy
 | 0, p => rfl
 | k + 1, p => (wk_dummy m k _).trans (adv_dummy m p)
def st0 (m i pt : Nat) : Probe := ⟨i, runEnd m i - i, i, pt, none⟩
theorem runEnd_le {m i : Nat} (h : i ≤ m) : i ≤ runEnd m i ∧ runEnd m i ≤ m ∧ runEnd m i ≤ i + 9 := by
 unfold runEnd
 split <;> omega
theorem run (m i pt : Nat) : ∀ c, c ≤ runEnd m i - i → wk m c (st0 m i pt) = ⟨i + c, runEnd m i - i - c, i, pt, none⟩
 | 0, _ => rfl
 | c + 1, h => by
  rw [wk_succ, run m i pt c (by omega)]
  unfold adv
  dsimp only
  rw [if_pos (by omega)]
  congr 1
theorem run_next (m i pt : Nat) : wk m (runEnd m i - i + 1) (st0 m i pt) = st0 m (leap m i pt).1 (leap m i pt).2 := by
 rw [wk_succ, run m i pt _ (Nat.le_refl _)]
 unfold adv
 dsimp only
 rw [if_neg (by omega)]
 rfl
def lp (m : Nat) : Nat → Nat × Nat → Nat × Nat
 | 0, x => x
 | l + 1, x => lp m l (leap m x.1 x.2)
theorem lp_add (m : Nat) : ∀ (a b : Nat) (x : Nat × Nat), lp m (a + b) x = lp m b (lp m a x)
 | 0, b, x => by rw [Nat.zero_add]; rfl
 | a + 1, b, x => by rw [show a + 1 + b = (a + b) + 1 by omega]; exact lp_add m a b _
theorem leap_le (m i pt : Nat) : (leap m i pt).1 ≤ m := by
 unfold leap
 have := Nat.mod_lt (i * 5 + 1 + pt / 32) (show 0 < m + 1 by omega)
 dsimp only
 omega
theorem lp_le (m : Nat) : ∀ (l : Nat) (x : Nat × Nat), x.1 ≤ m → (lp m l x).1 ≤ m
 | 0, x, h => h
 | l + 1, x, h => lp_le m l _ (leap_le m x.1 x.2)
theorem runs (m : Nat) : ∀ (l i pt : Nat), i ≤ m → ∃ k, k ≤ 10 * l ∧ wk m k (st0 m i pt) = st0 m (lp m l (i, pt)).1 (lp m l (i, pt)).2
 | 0, i, pt, _ => ⟨0, by omega, rfl⟩
 | l + 1, i, pt, hi => by
  obtain ⟨k, hk, e⟩ := runs m l (leap m i pt).1 (leap m i pt).2 (leap_le m i pt)
  have := runEnd_le hi
  refine ⟨runEnd m i - i + 1 + k, by omega, ?_⟩
  rw [wk_add, run_next, e]
  rfl
theorem lp_pt (m : Nat) : ∀ (l i pt : Nat), (lp m l (i, pt)).2 = pt / 32 ^ l
 | 0, i, pt => by rw [Nat.pow_zero, Nat.div_one]; rfl
 | l + 1, i, pt => by
  show (lp m l ((leap m i pt).1, pt / 32)).2 = _
  rw [lp_pt m l, Nat.div_div_eq_div_mul, Nat.pow_succ, Nat.mul_comm]
def f5 (m : Nat) : Nat → Nat → Nat
 | 0, i => i
 | c + 1, i => f5 m c ((i * 5 + 1) % (m + 1))
theorem f5_add (m : Nat) : ∀ (a b i : Nat), f5 m (a + b) i = f5 m b (f5 m a i)
 | 0, b, i => by rw [Nat.zero_add]; rfl
 | a + 1, b, i => by rw [show a + 1 + b = (a + b) + 1 by omega]; exact f5_add m a b _
theorem lp_zero (m : Nat) : ∀ (c i : Nat), lp m c (i, 0) = (f5 m c i, 0)
 | 0, i => rfl
 | c + 1, i => by
  show lp m c ((i * 5 + 1 + 0 / 32) % (m + 1), 0 / 32) = _
  rw [Nat.zero_div, Nat.add_zero, lp_zero m c]
  rfl
def ring (m : Nat) : Nat → Nat → List Nat
 | 0, _ => []
 | c + 1, i => i :: ring m c ((i * 5 + 1) % (m + 1))
theorem ring_get (m : Nat) : ∀ (c i j : Nat), j ∈ ring m c i → ∃ k, k < c ∧ f5 m k i = j
 | 0, i, j, h => by cases h
 | c + 1, i, j, h => by
  rcases List.mem_cons.mp h with h | h
  ·exact ⟨0, by omega, h.symm⟩
  ·obtain ⟨k, hk, e⟩ := ring_get m c _ j h
   exact ⟨k + 1, by omega, e⟩
def ringOk (m : Nat) : Bool := (List.range (m + 1)).all (fun j => (ring m (m + 1) 0).contains j) && f5 m (m + 1) 0 == 0
theorem ring_reach {m : Nat} (h : ringOk m = true) {i j : Nat} (hi : i ≤ m) (hj : j ≤ m) : ∃ c, c ≤ m ∧ f5 m c i = j := by
 unfold ringOk at h
 rw [Bool.and_eq_true, List.all_eq_true] at h
 have all : ∀ j, j ≤ m → ∃ k, k < m + 1 ∧ f5 m k 0 = j := fun j hj => ring_get m _ _ _ (List.contains_iff_mem.mp (h.1 j (List.mem_range.mpr (by omega))))
 have e0 : f5 m (m + 1) 0 = 0 := eq_of_beq h.2
 obtain ⟨a, ha, ea⟩ := all i hi
 obtain ⟨b, hb, eb⟩ := all j hj
 by_cases hab : a ≤ b
 ·refine ⟨b - a, by omega, ?_⟩
  rw [← ea, ← f5_add, show a + (b - a) = b by omega, eb]
 ·refine ⟨m + 1 - a + b, by omega, ?_⟩
  rw [← ea, ← f5_add, show a + (m + 1 - a + b) = (m + 1) + b by omega, f5_add, e0, eb]
def Msk (m : Nat) : Prop := m = 7 ∨ m = 31 ∨ m = 127
theorem Msk.ring {m : Nat} (h : Msk m) : ringOk m = true := by
 rcases h with rfl | rfl | rfl <;> decide +kernel
theorem bits_lt (h : Int) : bits h < 2 ^ 64 := by
 unfold bits
 have := Int.emod_lt_of_pos h (show (0 : Int) < 2 ^ 64 by decide)
 have := Int.emod_nonneg h (show (2 ^ 64 : Int) ≠ 0 by decide)
 omega
def sth (m : Nat) (h : Int) : Probe := st0 m (bits h % (m + 1)) (bits h)
theorem start_le (m : Nat) (h : Int) : bits h % (m + 1) ≤ m := by
 have := Nat.mod_lt (bits h) (show 0 < m + 1 by omega)
 omega
theorem cover_l {m : Nat} (M : Msk m) (h : Int) {j : Nat} (hj : j ≤ m) : ∃ l, l < turns m ∧ (lp m l (bits h % (m + 1), bits h)).1 = j := by
 have h0 : (lp m 13 (bits h % (m + 1), bits h)).2 = 0 := by
  rw [lp_pt]
  refine Nat.div_eq_of_lt (Nat.lt_of_lt_of_le (bits_lt h) (by decide))
 have hi := lp_le m 13 (bits h % (m + 1), bits h) (start_le m h)
 obtain ⟨c, hc, e⟩ := ring_reach M.ring hi hj
 refine ⟨13 + c, by unfold turns; omega, ?_⟩
 rw [lp_add]
 have : lp m 13 (bits h % (m + 1), bits h) = ((lp m 13 (bits h % (m + 1), bits h)).1, 0) := by rw [← h0]
 rw [this, lp_zero]
 exact e
theorem cover {m : Nat} (M : Msk m) (h : Int) {j : Nat} (hj : j ≤ m) : ∃ k, k < 10 * turns m ∧ (wk m k (sth m h)).j = j := by
 obtain ⟨l, hl, e⟩ := cover_l M h hj
 obtain ⟨k, hk, e'⟩ := runs m l (bits h % (m + 1)) (bits h) (start_le m h)
 refine ⟨k, by omega, ?_⟩
 unfold sth
 rw [e']
 exact e
theorem wk_le (m : Nat) : ∀ (k : Nat) (p : Probe), p.j + p.more ≤ m → (wk m k p).j + (wk m k p).more ≤ m
 | 0, p, h => h
 | k + 1, p, h => by
  refine wk_le m k _ ?_
  unfold adv
  split
  ·dsimp only; omega
  ·dsimp only
   have := leap_le m p.i p.perturb
   have := runEnd_le (leap_le m p.i p.perturb)
   show (leap m p.i p.perturb).1 + (runEnd m (leap m p.i p.perturb).1 - (leap m p.i p.perturb).1) ≤ m
   omega
theorem pos_le (m : Nat) (h : Int) (k : Nat) : (wk m k (sth m h)).j ≤ m := by
 have := wk_le m k (sth m h) (by
  unfold sth st0
  dsimp only
  have := runEnd_le (start_le m h)
  omega)
 omega
def OnP (m : Nat) (L : Nat → Prop) (h : Int) (j : Nat) : Prop := ∃ k, (wk m k (sth m h)).j = j ∧ ∀ k', k' < k → L (wk m k' (sth m h)).j
theorem OnP.mono {m : Nat} {L L' : Nat → Prop} {h : Int} {j : Nat} (H : ∀ x, x ≤ m → L x → L' x) (o : OnP m L h j) : OnP m L' h j := by
 obtain ⟨k, e, a⟩ := o
 exact ⟨k, e, fun k' hk => H _ (pos_le m h k') (a k' hk)⟩
def Lv (t : SetTable) (j : Nat) : Prop := j ∈ t.place.toList
section
variable {t : SetTable}
theorem slot_live (R : Rise t.place) {i j : Nat} (h : t.place[i]? = some j) : t.slot j = .live i := by
 have hi : i ≤ t.place.size := by
  have := Array.getElem?_eq_some_iff.mp h
  have := this.1
  omega
 have hb : below t.place j = i := (below_cut R j).uniq ⟨hi, fun k x hk e => R.lt hk e h, fun k x hk e => by
  by_cases z : i = k
  ·subst z; rw [h] at e; cases e; exact Nat.le_refl _
  ·have := R.lt (by omega) h e; omega⟩
 unfold slot
 rw [hb]
 dsimp only
 rw [h]
 simp
theorem slot_out (hd : t.dummies = #[]) (j : Nat) : (∃ i, t.slot j = .live i ∧ t.place[i]? = some j) ∨ (t.slot j = .empty ∧ t.place[below t.place j]? ≠ some j) := by
 unfold slot
 dsimp only
 split
 ·rename_i hh
  exact .inl ⟨_, rfl, by simpa using hh⟩
 ·rename_i hh
  right
  rw [if_neg (by unfold has; rw [hd]; simp)]
  exact ⟨rfl, by simpa using hh⟩
theorem live_of {j : Nat} {i : Nat} (h : t.place[i]? = some j) : Lv t j := by
 unfold Lv
 rw [← Array.getElem?_toList] at h
 exact List.mem_of_getElem? h
theorem empty_not (R : Rise t.place) (hd : t.dummies = #[]) {j : Nat} (h : t.slot j = .empty) : ¬ Lv t j := fun z => by
 obtain ⟨i, e⟩ := List.getElem?_of_mem z
 rw [Array.getElem?_toList] at e
 rw [slot_live R e] at h
 cases h
inductive GoOut (t : SetTable) (hashAt : Nat → Int) (h : Int) (fuel : Nat) (p : Probe) : Option Met → Prop
 | none : (∀ k, k < fuel → Lv t (wk t.mask k p).j) → GoOut t hashAt h fuel p none
 | empty {j : Nat} (k : Nat) : k < fuel → (wk t.mask k p).j = j → t.slot j = .empty → (∀ k', k' < k → ∃ i, t.slot (wk t.mask k' p).j = .live i ∧ hashAt i ≠ h) → GoOut t hashAt h fuel p (some (.empty j none))
 | cand {j i : Nat} (k : Nat) : k < fuel → (wk t.mask k p).j = j → t.slot j = .live i → t.place[i]? = some j → hashAt i = h → (∀ k', k' < k → ∃ i, t.slot (wk t.mask k' p).j = .live i ∧ hashAt i ≠ h) → GoOut t hashAt h fuel p (some (.candidate j i (wk t.mask (k + 1) p)))
theorem go_out (hd : t.dummies = #[]) {hashAt : Nat → Int} {h : Int} : ∀ (fuel : Nat) (p : Probe), p.dummy = none → GoOut t hashAt h fuel p (probe.go t hashAt h fuel p)
 | 0, p, _ => .none fun k hk => absurd hk (Nat.not_lt_zero _)
 | fuel + 1, p, hp => by
  unfold probe.go
  rcases slot_out hd p.j with ⟨i, hs, hpl⟩ | ⟨hs, _⟩
  ·rw [hs]
   dsimp only
   by_cases e : hashAt i = h
   ·rw [if_pos (by simpa using e)]
    exact .cand 0 (by omega) rfl hs hpl e fun k' hk => absurd hk (Nat.not_lt_zero _)
   ·rw [if_neg (by simpa using e)]
    have ih := go_out hd (hashAt := hashAt) (h := h) fuel (t.advance p) ((adv_dummy _ _).trans hp)
    generalize probe.go t hashAt h fuel (t.advance p) = r at ih
    rw [adv_is] at ih
    have pre : ∀ {k : Nat}, (∀ k', k' < k → ∃ i, t.slot (wk t.mask k' (adv t.mask p)).j = .live i ∧ hashAt i ≠ h) → ∀ k', k' < k + 1 → ∃ i, t.slot (wk t.mask k' p).j = .live i ∧ hashAt i ≠ h := fun {k} a k' hk => by
     cases k' with
     | zero => exact ⟨i, hs, e⟩
     | succ k' => exact a k' (by omega)
    cases ih with
    | none a =>
     refine .none fun k hk => ?_
     cases k with
     | zero => exact live_of hpl
     | succ k => exact a k (by omega)
    | empty k hk e1 e2 a => exact .empty (k + 1) (by omega) e1 e2 (pre a)
    | cand k hk e1 e2 e3 e4 a => exact .cand (k + 1) (by omega) e1 e2 e3 e4 (pre a)
  ·rw [hs]
   dsimp only
   rw [hp]
   exact .empty 0 (by omega) rfl hs fun k' hk => absurd hk (Nat.not_lt_zero _)
end
theorem len_le_sub : ∀ (l l' : List Nat), l.Nodup → (∀ a ∈ l, a ∈ l') → l.length ≤ l'.length
 | [], l', _, _ => Nat.zero_le _
 | a :: l, l', hn, hs => by
  rw [List.nodup_cons] at hn
  have ha := hs a List.mem_cons_self
  have h1 := len_le_sub l (l'.erase a) hn.2 fun b hb => (List.mem_erase_of_ne (show b ≠ a from fun z => hn.1 (z ▸ hb))).mpr (hs b (List.mem_cons_of_mem _ hb))
  have h2 := List.length_erase_of_mem ha
  have h3 := List.length_pos_of_mem ha
  rw [List.length_cons]
  omega
structure T3 (t : SetTable) (es : Array (Int × Value)) : Prop where
 rise : Rise t.place
 dum : t.dummies = #[]
 msk : Msk t.mask
 le : ∀ j, Lv t j → j ≤ t.mask
 sz : t.place.size = es.size
 room : es.size ≤ t.mask
 path : ∀ (i j : Nat) (e : Int × Value), t.place[i]? = some j → es[i]? = some e → OnP t.mask (Lv t) e.1 j
section
variable {t : SetTable} {es : Array (Int × Value)}
theorem some_empty (T : T3 t es) : ∃ j, j ≤ t.mask ∧ ¬ Lv t j := by
 refine Classical.byContradiction fun h => ?_
 have h : ∀ j, j ≤ t.mask → Lv t j := fun j hj => Classical.byContradiction fun z => h ⟨j, hj, z⟩
 have := len_le_sub (List.range (t.mask + 1)) t.place.toList List.nodup_range fun a ha => h a (by have := List.mem_range.mp ha; omega)
 rw [List.length_range, Array.length_toList, T.sz] at this
 have := T.room
 omega
theorem least {P : Nat → Prop} : ∀ n, (∀ k, k < n → P k) ∨ ∃ K, K < n ∧ ¬ P K ∧ ∀ k, k < K → P k
 | 0 => .inl fun k hk => absurd hk (Nat.not_lt_zero _)
 | n + 1 => by
  rcases least (P := P) n with h | ⟨K, hK, h⟩
  ·by_cases hn : P n
   ·refine .inl fun k hk => ?_
    by_cases e : k = n
    ·exact e ▸ hn
    ·exact h k (by omega)
   ·exact .inr ⟨n, by omega, hn, h⟩
  ·exact .inr ⟨K, by omega, h⟩
theorem first_empty (T : T3 t es) (h : Int) : ∃ K, K < 10 * turns t.mask ∧ ¬ Lv t (wk t.mask K (sth t.mask h)).j ∧ ∀ k, k < K → Lv t (wk t.mask k (sth t.mask h)).j := by
 obtain ⟨j, hj, hn⟩ := some_empty T
 obtain ⟨k, hk, e⟩ := cover T.msk h hj
 rcases least (P := fun k => Lv t (wk t.mask k (sth t.mask h)).j) (10 * turns t.mask) with a | b
 ·exact absurd (e ▸ a k hk) hn
 ·exact b
theorem ins_get {α : Type} (xs : Array α) {p : Nat} (hp : p ≤ xs.size) (x : α) (i : Nat) : (insertAt xs p x)[i]? = if i < p then xs[i]? else if i = p then some x else xs[i - 1]? := by
 rw [← Array.getElem?_toList, toList_insertAt]
 have hl : (xs.toList.take p).length = p := by rw [List.length_take, Array.length_toList]; omega
 by_cases h1 : i < p
 ·rw [if_pos h1, List.getElem?_append_left (by omega), List.getElem?_take_of_lt h1, Array.getElem?_toList]
 ·rw [if_neg h1, List.getElem?_append_right (by omega), hl]
  by_cases h2 : i = p
  ·rw [if_pos h2, h2, Nat.sub_self]; rfl
  ·rw [if_neg h2, show i - p = (i - p - 1) + 1 by omega, List.getElem?_cons_succ, List.getElem?_drop, Array.getElem?_toList, show p + (i - p - 1) = i - 1 by omega]
theorem put_is (hd : t.dummies = #[]) (j : Nat) : t.put j = ({ t with place := insertAt t.place (below t.place j) j }, below t.place j) := by
 unfold put
 dsimp only
 rw [if_neg (by unfold has; rw [hd]; simp)]
theorem lv_put {p j x : Nat} : x ∈ (insertAt t.place p j).toList ↔ Lv t x ∨ x = j := by
 rw [(insertAt_perm t.place p j).mem_iff, Array.toList_push, List.mem_append, List.mem_singleton]
 rfl
theorem T3.put (T : T3 t es) {h : Int} {K : Nat} {x : Value} (hn : ¬ Lv t (wk t.mask K (sth t.mask h)).j) (ha : ∀ k, k < K → Lv t (wk t.mask k (sth t.mask h)).j) (hroom : es.size + 1 ≤ t.mask) :
  T3 { t with place := insertAt t.place (below t.place (wk t.mask K (sth t.mask h)).j) (wk t.mask K (sth t.mask h)).j } (insertAt es (below t.place (wk t.mask K (sth t.mask h)).j) (h, x)) := by
 have hj := pos_le t.mask h K
 have hO : OnP t.mask (Lv t) h (wk t.mask K (sth t.mask h)).j := ⟨K, rfl, ha⟩
 generalize (wk t.mask K (sth t.mask h)).j = j at hn hj hO
 have hb := (below_cut T.rise j).le
 have hb' : below t.place j ≤ es.size := by rw [← T.sz]; exact hb
 have hne : t.place[below t.place j]? ≠ some j := fun z => hn (live_of z)
 have up : ∀ {h' : Int} {j' : Nat}, OnP t.mask (Lv t) h' j' → OnP t.mask (fun x => x ∈ (insertAt t.place (below t.place j) j).toList) h' j' := fun o => o.mono fun x _ l => lv_put.mpr (.inl l)
 have szI : ∀ {α : Type} (a : Array α) (p : Nat) (y : α), (insertAt a p y).size = a.size + 1 := fun a p y => by
  rw [← Array.length_toList, (insertAt_perm a p y).length_eq, Array.toList_push, List.length_append, Array.length_toList]; rfl
 refine ⟨T.rise.insert hne, T.dum, T.msk, fun x hx => ?_, ?_, ?_, fun i j' e h1 h2 => ?_⟩
 ·rcases lv_put.mp hx with l | rfl
  ·exact T.le x l
  ·exact hj
 ·show (insertAt _ _ _).size = _
  rw [szI, szI, T.sz]
 ·show _ ≤ t.mask
  rw [szI]
  exact hroom
 ·have h1 : (insertAt t.place (below t.place j) j)[i]? = some j' := h1
  rw [ins_get t.place hb] at h1
  rw [ins_get es hb'] at h2
  show OnP t.mask (fun x => x ∈ (insertAt t.place (below t.place j) j).toList) e.1 j'
  by_cases c1 : i < below t.place j
  ·rw [if_pos c1] at h1 h2
   exact up (T.path i j' e h1 h2)
  ·rw [if_neg c1] at h1 h2
   by_cases c2 : i = below t.place j
   ·rw [if_pos c2] at h1 h2
    cases h1
    cases h2
    exact up hO
   ·rw [if_neg c2] at h1 h2
    exact up (T.path _ j' e h1 h2)
end
def Ow (o : Array (Option Nat)) (j : Nat) : Prop := (o.getD j (some 0)).isSome = true
theorem ow_iff {o : Array (Option Nat)} {j : Nat} (h : j < o.size) : Ow o j ↔ ∃ q, o[j]? = some (some q) := by
 unfold Ow
 rw [Array.getD_eq_getD_getElem?, Array.getElem?_eq_getElem h]
 simp only [Option.getD_some, Option.some.injEq]
 exact Option.isSome_iff_exists
theorem ow_of {o : Array (Option Nat)} {j : Nat} (h : ¬ (o.getD j (some 0)).isNone = true) : Ow o j := by
 unfold Ow
 cases e : o.getD j (some 0) with
 | none => rw [e] at h; exact absurd rfl h
 | some q => rfl
theorem range_find {P : Nat → Bool} {n k : Nat} (h : (List.range n).find? P = some k) : k < n ∧ P k = true ∧ ∀ k', k' < k → P k' = false := by
 rw [List.find?_range_eq_some] at h
 obtain ⟨h1, h2, h3⟩ := h
 exact ⟨List.mem_range.mp h2, h1, fun k' hk => by simpa using h3 k' hk⟩
theorem free_some {m : Nat} {o : Array (Option Nat)} : ∀ (fuel i pt : Nat) {j : Nat}, i ≤ m → layClean.free m o fuel i pt = some j → ∃ k, (wk m k (st0 m i pt)).j = j ∧ ¬ Ow o j ∧ ∀ k', k' < k → Ow o (wk m k' (st0 m i pt)).j
 | 0, i, pt, j, _, e => by
  unfold layClean.free at e
  cases e
 | fuel + 1, i, pt, j, hi, e => by
  unfold layClean.free at e
  have hre := runEnd_le hi
  have hpos : ∀ c, c ≤ runEnd m i - i → (wk m c (st0 m i pt)).j = i + c := fun c hc => by rw [run m i pt c hc]
  split at e
  ·rename_i k hk
   obtain ⟨h1, h2, h3⟩ := range_find hk
   cases e
   refine ⟨k, hpos k (by omega), fun z => ?_, fun k' hk' => ?_⟩
   ·unfold Ow at z
    rw [Option.isNone_iff_eq_none] at h2
    rw [h2] at z
    cases z
   ·rw [hpos k' (by omega)]
    have := h3 k' hk'
    unfold Ow
    simpa using this
  ·rename_i hk
   dsimp only at e
   obtain ⟨k, e1, e2, e3⟩ := free_some fuel _ _ (leap_le m i pt) e
   rw [List.find?_eq_none] at hk
   refine ⟨runEnd m i - i + 1 + k, ?_, e2, fun k' hk' => ?_⟩
   ·rw [wk_add, run_next]
    exact e1
   ·by_cases c : k' ≤ runEnd m i - i
    ·rw [hpos k' c]
     have := hk k' (List.mem_range.mpr (by omega))
     exact ow_of this
    ·rw [show k' = runEnd m i - i + 1 + (k' - (runEnd m i - i + 1)) by omega, wk_add, run_next]
     exact e3 _ (by omega)
theorem free_none {m : Nat} {o : Array (Option Nat)} : ∀ (fuel i pt : Nat), i ≤ m → layClean.free m o fuel i pt = none → ∀ l, l < fuel → Ow o (lp m l (i, pt)).1
 | 0, i, pt, _, _, l, hl => absurd hl (Nat.not_lt_zero _)
 | fuel + 1, i, pt, hi, e, l, hl => by
  unfold layClean.free at e
  have hre := runEnd_le hi
  split at e
  ·cases e
  ·rename_i hk
   dsimp only at e
   rw [List.find?_eq_none] at hk
   cases l with
   | zero =>
    have := hk 0 (List.mem_range.mpr (by omega))
    exact ow_of this
   | succ l => exact free_none fuel _ _ (leap_le m i pt) e l (by omega)
structure Own (m : Nat) (hs : List Int) (o : Array (Option Nat)) (n : Nat) : Prop where
 sz : o.size = m + 1
 put : ∀ k : Nat, k < n → ∃ (j : Nat) (h : Int), hs[k]? = some h ∧ o[j]? = some (some k) ∧ OnP m (Ow o) h j
 lt : ∀ (j q : Nat), o[j]? = some (some q) → q < n
 inj : ∀ (j j' q : Nat), o[j]? = some (some q) → o[j']? = some (some q) → j = j'
theorem own_room {m : Nat} {hs : List Int} {o : Array (Option Nat)} {n : Nat} (O : Own m hs o n) (hn : n ≤ m) : ∃ j, j ≤ m ∧ ¬ Ow o j := by
 refine Classical.byContradiction fun h => ?_
 have h : ∀ j, j ≤ m → ∃ q, o[j]? = some (some q) := fun j hj => (ow_iff (by rw [O.sz]; omega)).mp (Classical.byContradiction fun z => h ⟨j, hj, z⟩)
 have e1 : ((List.range (m + 1)).map fun j => ((o[j]?.getD none).getD 0)).Nodup := by
  refine List.Pairwise.map _ (R := fun a b => a < b ∧ b < m + 1) (fun a b ⟨hab, hb⟩ e => ?_) ?_
  ·obtain ⟨q, hq⟩ := h a (by omega)
   obtain ⟨q', hq'⟩ := h b (by omega)
   rw [hq, hq'] at e
   have e : q = q' := e
   subst e
   have := O.inj a b q hq hq'
   omega
  ·exact (List.Pairwise.and_mem.mp List.pairwise_lt_range).imp fun ⟨_, hb, hab⟩ => ⟨hab, List.mem_range.mp hb⟩
 have := len_le_sub _ (List.range n) e1 fun x hx => by
  obtain ⟨j, hj, rfl⟩ := List.mem_map.mp hx
  obtain ⟨q, hq⟩ := h j (by have := List.mem_range.mp hj; omega)
  rw [hq]
  exact List.mem_range.mpr (O.lt j q hq)
 rw [List.length_map, List.length_range, List.length_range] at this
 omega
theorem own_step {m : Nat} (M : Msk m) {hs : List Int} {o : Array (Option Nat)} {n : Nat} {h : Int} (O : Own m hs o n) (hn : n ≤ m) (hh : hs[n]? = some h) :
  ∃ j, layClean.free m o (turns m) (bits h % (m + 1)) (bits h) = some j ∧ Own m hs (o.setIfInBounds j (some n)) (n + 1) := by
 cases e : layClean.free m o (turns m) (bits h % (m + 1)) (bits h) with
 | none =>
  obtain ⟨j, hj, hno⟩ := own_room O hn
  obtain ⟨l, hl, el⟩ := cover_l M h hj
  exact absurd (el ▸ free_none _ _ _ (start_le m h) e l hl) hno
 | some j =>
  obtain ⟨k, e1, e2, e3⟩ := free_some _ _ _ (start_le m h) e
  have hj : j ≤ m := e1 ▸ pos_le m h k
  have hjs : j < o.size := by rw [O.sz]; omega
  have get : ∀ i, (o.setIfInBounds j (some n))[i]? = if j = i then some (some n) else o[i]? := fun i => by
   rw [Array.getElem?_setIfInBounds]
   by_cases c : j = i
   ·subst c
    rw [if_pos rfl, if_pos rfl, if_pos hjs]
   ·rw [if_neg c, if_neg c]
  have hjn : ∀ q, o[j]? ≠ some (some q) := fun q z => e2 ((ow_iff hjs).mpr ⟨q, z⟩)
  have up : ∀ x, x ≤ m → Ow o x → Ow (o.setIfInBounds j (some n)) x := fun x hx ho => by
   rw [ow_iff (by rw [O.sz]; omega)] at ho
   rw [ow_iff (by rw [Array.size_setIfInBounds, O.sz]; omega)]
   obtain ⟨q, hq⟩ := ho
   rw [get]
   by_cases c : j = x
   ·exact ⟨n, by rw [if_pos c]⟩
   ·exact ⟨q, by rw [if_neg c]; exact hq⟩
  refine ⟨j, rfl, by rw [Array.size_setIfInBounds]; exact O.sz, fun k' hk' => ?_, fun i q hq => ?_, fun i i' q hi hi' => ?_⟩
  ·by_cases c : k' = n
   ·subst c
    exact ⟨j, h, hh, by rw [get, if_pos rfl], k, e1, fun k' hk' => up _ (pos_le m h k') (e3 k' hk')⟩
   ·obtain ⟨i, h', a1, a2, a3⟩ := O.put k' (by omega)
    exact ⟨i, h', a1, by rw [get, if_neg fun z => hjn _ (z ▸ a2)]; exact a2, a3.mono up⟩
  ·rw [get] at hq
   by_cases c : j = i
   ·rw [if_pos c] at hq
    cases hq
    omega
   ·rw [if_neg c] at hq
    have := O.lt i q hq
    omega
  ·rw [get] at hi hi'
   by_cases c : j = i
   ·rw [if_pos c] at hi
    cases hi
    by_cases c' : j = i'
    ·omega
    ·rw [if_neg c'] at hi'
     have := O.lt _ _ hi'
     omega
   ·rw [if_neg c] at hi
    by_cases c' : j = i'
    ·rw [if_pos c'] at hi'
     cases hi'
     have := O.lt _ _ hi
     omega
    ·rw [if_neg c'] at hi'
     exact O.inj i i' q hi hi'
theorem lay_fold {m : Nat} (M : Msk m) : ∀ (rest done : List Int) (o : Array (Option Nat)), Own m (done ++ rest) o done.length → (done ++ rest).length ≤ m →
  ∃ o', rest.foldl (fun acc h => do
   let (owner, k) ← acc
   let j ← layClean.free m owner (turns m) (bits h % (m + 1)) (bits h)
   pure (owner.setIfInBounds j (some k), k + 1)) (some (o, done.length)) = some (o', (done ++ rest).length) ∧ Own m (done ++ rest) o' (done ++ rest).length
 | [], done, o, O, _ => ⟨o, by rw [List.append_nil]; rfl, by rw [List.append_nil] at O ⊢; exact O⟩
 | h :: rest, done, o, O, hl => by
  rw [List.length_append, List.length_cons] at hl
  obtain ⟨j, e, O'⟩ := own_step M (h := h) O (by omega) (by rw [List.getElem?_append_right (Nat.le_refl _), Nat.sub_self]; rfl)
  have ea : done ++ h :: rest = (done ++ [h]) ++ rest := by simp
  have el : (done ++ [h]).length = done.length + 1 := by simp
  rw [ea, ← el] at O'
  obtain ⟨o', e1, e2⟩ := lay_fold M rest (done ++ [h]) _ O' (by rw [← ea, List.length_append, List.length_cons]; omega)
  refine ⟨o', ?_, ea ▸ e2⟩
  rw [List.foldl_cons]
  show List.foldl _ (do let j ← layClean.free m o (turns m) (bits h % (m + 1)) (bits h); pure (o.setIfInBounds j (some done.length), done.length + 1)) rest = _
  rw [e, ea, ← e1, el]
  rfl
theorem lay_clean {m : Nat} (M : Msk m) (hs : Array Int) (hl : hs.size ≤ m) : ∃ o, layClean m hs = some o ∧ Own m hs.toList o hs.size := by
 have O0 : Own m ([] ++ hs.toList) (Array.replicate (m + 1) none) ([] : List Int).length := by
  have hnn : ∀ (j q : Nat), (Array.replicate (m + 1) (none : Option Nat))[j]? ≠ some (some q) := fun j q z => by
   rw [Array.getElem?_replicate] at z
   split at z <;> cases z
  exact ⟨Array.size_replicate, fun k hk => absurd hk (Nat.not_lt_zero _), fun j q z => absurd z (hnn j q), fun j j' q z => absurd z (hnn j q)⟩
 obtain ⟨o, e1, e2⟩ := lay_fold M hs.toList [] _ O0 (by rw [List.nil_append, Array.length_toList]; exact hl)
 rw [List.nil_append, Array.length_toList] at e1 e2
 refine ⟨o, ?_, e2⟩
 unfold layClean
 rw [← Array.foldl_toList]
 have e1' : (List.foldl (fun acc h => do
   let (owner, k) ← acc
   let j ← layClean.free m owner (turns m) (bits h % (m + 1)) (bits h)
   pure (owner.setIfInBounds j (some k), k + 1)) (some (Array.replicate (m + 1) (none : Option Nat), 0)) hs.toList) = some (o, hs.size) := e1
 rw [e1']
 rfl
theorem fm_get {α β : Type} {f : α → Option β} : ∀ {l : List α}, (∀ x ∈ l, (f x).isSome = true) → ∀ i : Nat, (l.filterMap f)[i]? = l[i]?.bind f
 | [], _, i => by simp
 | x :: l, h, i => by
  obtain ⟨y, hy⟩ := Option.isSome_iff_exists.mp (h x List.mem_cons_self)
  rw [List.filterMap_cons, hy]
  dsimp only
  cases i with
  | zero => rw [List.getElem?_cons_zero, List.getElem?_cons_zero]; exact hy.symm
  | succ i => rw [List.getElem?_cons_succ, List.getElem?_cons_succ]; exact fm_get (fun z hz => h z (List.mem_cons_of_mem _ hz)) i
theorem fm_range {α : Type} (l : List α) : (List.range l.length).filterMap (fun i => l[i]?) = l := by
 refine List.ext_getElem? fun i => ?_
 rw [fm_get (fun x hx => by rw [List.getElem?_eq_getElem (List.mem_range.mp hx)]; rfl)]
 by_cases h : i < l.length
 ·rw [List.getElem?_range h]; rfl
 ·rw [List.getElem?_eq_none (by rw [List.length_range]; omega), List.getElem?_eq_none (by omega)]; rfl
section
variable {t : SetTable} {es : Array (Int × Value)}
def liveL (m : Nat) (o : Array (Option Nat)) : List (Nat × Nat) := (List.range (m + 1)).filterMap fun j => (o.getD j none).map (j, ·)
theorem live_mem {m : Nat} {o : Array (Option Nat)} (hs : o.size = m + 1) {j q : Nat} : (j, q) ∈ liveL m o ↔ o[j]? = some (some q) := by
 unfold liveL
 rw [List.mem_filterMap]
 constructor
 ·rintro ⟨a, ha, e⟩
  obtain ⟨q', e1, e2⟩ := Option.map_eq_some_iff.mp e
  injection e2 with e2 e3
  subst e2
  subst e3
  rw [Array.getD_eq_getD_getElem?] at e1
  cases h : o[a]? with
  | none => rw [h] at e1; cases e1
  | some z => rw [h] at e1; rw [show z = some q' from e1]
 ·intro e
  have hl := (Array.getElem?_eq_some_iff.mp e).1
  refine ⟨j, List.mem_range.mpr (by omega), ?_⟩
  rw [Array.getD_eq_getD_getElem?, e]
  rfl
theorem relaid_ok {m wanted : Nat} (hm : sizeAbove wanted - 1 = m) (M : Msk m) (hl : es.size ≤ m) : ∃ t' order, t.relaid (es.map (·.1)) wanted = some (t', order) ∧ List.Perm (order.filterMap (es[·]?)).toList es.toList ∧ T3 t' (order.filterMap (es[·]?)) ∧ t'.mask = m ∧ t'.led = t.led ∧ t'.plain = t.plain := by
 obtain ⟨o, e, O⟩ := lay_clean M (es.map (·.1)) (by rw [Array.size_map]; exact hl)
 rw [Array.size_map] at O
 have hmem : ∀ {j q : Nat}, (j, q) ∈ liveL m o ↔ o[j]? = some (some q) := live_mem O.sz
 refine ⟨{ mask := m, place := ((liveL m o).map (·.1)).toArray, dummies := #[], finger := t.finger, led := t.led, moves := t.movedTo m, plain := t.plain }, ((liveL m o).map (·.2)).toArray, by unfold relaid laid; rw [hm, e]; rfl, ?_⟩
 have hL : ∀ q ∈ (liveL m o).map (·.2), (es[q]?).isSome = true := fun q hq => by
  obtain ⟨⟨j, q'⟩, hjq, rfl⟩ := List.mem_map.mp hq
  rw [Array.getElem?_eq_getElem (O.lt j q' (hmem.mp hjq))]
  rfl
 have eL : (((liveL m o).map (·.2)).toArray.filterMap (es[·]?)).toList = ((liveL m o).map (·.2)).filterMap (es[·]?) := by simp
 have hfst : (liveL m o).Pairwise fun a b => a.1 < b.1 := List.pairwise_map.mp (pair_fm fun j => o.getD j none)
 have hnd : ((liveL m o).map (·.2)).Nodup := by
  refine List.pairwise_map.mpr ((List.Pairwise.and_mem.mp hfst).imp fun {a b} ⟨ha, hb, hab⟩ z => ?_)
  have h1 := hmem.mp (show (a.1, a.2) ∈ _ from ha)
  have h2 := hmem.mp (show (b.1, b.2) ∈ _ from hb)
  rw [z] at h1
  have := O.inj _ _ _ h1 h2
  omega
 have hp : List.Perm ((liveL m o).map (·.2)) (List.range es.size) := (List.perm_ext_iff_of_nodup hnd List.nodup_range).mpr fun q => by
  rw [List.mem_range]
  constructor
  ·intro hq
   obtain ⟨⟨j, q'⟩, hjq, rfl⟩ := List.mem_map.mp hq
   exact O.lt j q' (hmem.mp hjq)
  ·intro hq
   obtain ⟨j, _, _, e2, _⟩ := O.put q hq
   exact List.mem_map.mpr ⟨(j, q), hmem.mpr e2, rfl⟩
 have hperm : List.Perm (((liveL m o).map (·.2)).filterMap (es[·]?)) es.toList := by
  refine (hp.filterMap _).trans ?_
  have := fm_range es.toList
  rw [Array.length_toList] at this
  simp only [Array.getElem?_toList] at this
  rw [this]
 rw [eL]
 refine ⟨hperm, ?_, rfl, rfl, rfl⟩
 have lvw : ∀ x q, o[x]? = some (some q) → x ∈ (liveL m o).map (·.1) := fun x q hq => List.mem_map.mpr ⟨(x, q), hmem.mpr hq, rfl⟩
 have szp : (liveL m o).length = es.size := by
  have := hp.length_eq
  rwa [List.length_map, List.length_range] at this
 refine ⟨?_, rfl, M, fun x hx => ?_, ?_, ?_, fun i j e' h1 h2 => ?_⟩
 ·unfold Rise
  exact pair_fm fun j => o.getD j none
 ·have hx : x ∈ ((liveL m o).map (·.1)).toArray.toList := hx
  rw [List.toList_toArray] at hx
  obtain ⟨⟨j, q⟩, hjq, rfl⟩ := List.mem_map.mp hx
  have h := (Array.getElem?_eq_some_iff.mp (hmem.mp hjq)).1
  rw [O.sz] at h
  show j ≤ m
  omega
 ·show ((liveL m o).map (·.1)).toArray.size = _
  rw [← Array.length_toList (xs := Array.filterMap _ _), eL, hperm.length_eq, Array.length_toList, List.size_toArray, List.length_map, szp]
 ·rw [← Array.length_toList, eL, hperm.length_eq, Array.length_toList]
  exact hl
 ·have h1 : ((liveL m o).map (·.1)).toArray[i]? = some j := h1
  rw [List.getElem?_toArray, List.getElem?_map] at h1
  rw [← Array.getElem?_toList, eL, fm_get hL, List.getElem?_map] at h2
  obtain ⟨⟨j', q⟩, hi, ej⟩ := Option.map_eq_some_iff.mp h1
  have ej : j' = j := ej
  subst ej
  rw [hi] at h2
  have h2 : es[q]? = some e' := h2
  have hq := hmem.mp (List.mem_of_getElem? hi)
  obtain ⟨j2, h, a1, a2, a3⟩ := O.put q (O.lt _ _ hq)
  have := O.inj _ _ _ hq a2
  subst this
  rw [Array.getElem?_toList, Array.getElem?_map, h2] at a1
  have a1 : e'.1 = h := Option.some.inj a1
  rw [a1]
  refine a3.mono fun x hx ho => ?_
  have hx : x ≤ m := hx
  rw [ow_iff (by rw [O.sz]; omega)] at ho
  obtain ⟨q', hq'⟩ := ho
  show x ∈ ((liveL m o).map (·.1)).toArray.toList
  rw [List.toList_toArray]
  exact lvw x q' hq'
end
end PyS
namespace PyS
open PySem PySem.SetTable PySem.W PyProof.Rows PySem.Calls PyProof.V PySem.Spec
abbrev TK (prog : Program) (w : World) (h : Heap) (ks : List Int) (a : Addr) : Prop := IsTupleKey (intKind prog w) h ks a
abbrev hT (prog : Program) (w : World) (ks : List Int) : Int := tupleKeyHash (intKind prog w) ks
section
variable {prog : Program} {w : World} {A : Around} {E : Value → Shared → Prop} {s : Shared}
theorem items_int {ks : List Int} {vs : List Value} (h : ItemsAre (intKind prog w) ks vs) : ∀ v ∈ vs, ∃ k t, v = .int k t := by
 induction h with
 | nil => intro v hv; cases hv
 | cons h1 _ ih =>
  intro v hv
  rcases List.mem_cons.mp hv with rfl | hv
  ·obtain ⟨t, e⟩ := Value.isInt_shape h1
   exact ⟨_, t, e⟩
  ·exact ih v hv
theorem noclass {ks : List Int} {b : Addr} {Q : Bool → Shared → Prop} (hk : TK prog w s.heap ks b) (q : Q false s) : wpAny (model prog w) A (ofAClassStatement 8 (.ref b)) Q E s := by
 have hTy := hk.typeIs
 obtain ⟨o, items, n, ho, _, hd, hi⟩ := hk
 have hint := items_int hi
 unfold ofAClassStatement
 refine wpAny_bind (wpAny_typeOf hTy ?_)
 dsimp only
 rw [if_pos (by decide)]
 refine wpAny_bind (wpAny_pure ?_)
 simp only [Bool.not_true, Bool.false_eq_true, if_false]
 refine wpAny_bind (wpAny_seqItems ho hd ?_)
 dsimp only
 refine wpAny_bind ?_
 rw [← Array.forIn_toList]
 refine wpAny_forIn_list _ (fun rest r s' => r.1 = none ∧ s' = s ∧ ∀ v ∈ rest, ∃ k t, v = .int k t) _ ?_ ?_ _ _ ⟨rfl, rfl, hint⟩
 ·rintro v rest r s' ⟨hr, rfl, hall⟩
  obtain ⟨k, t, rfl⟩ := hall v List.mem_cons_self
  unfold ofAClassStatement
  refine wpAny_bind (wpAny_pure ?_)
  simp only [Bool.false_eq_true, if_false]
  exact wpAny_pure ⟨rfl, rfl, fun u hu => hall u (List.mem_cons_of_mem _ hu)⟩
 ·rintro ⟨r1, r2⟩ s' ⟨hr, rfl, _⟩
  simp only at hr
  subst hr
  exact wpAny_pure q
theorem by_value {ks : List Int} {b : Addr} {Q : Bool → Shared → Prop} (hk : TK prog w s.heap ks b) (q : Q true s) : wpAny (model prog w) A (hashByValue 8 (.ref b)) Q E s := by
 have hTy := hk.typeIs
 obtain ⟨o, items, n, ho, _, hd, hi⟩ := hk
 have hint := items_int hi
 unfold hashByValue
 refine wpAny_bind (wpAny_specialOf hTy F.slot_tuple_hash.lookup ?_)
 show wpAny _ _ (seqItems? (.ref b) >>= _) _ _ s
 refine wpAny_bind (wpAny_seqItems ho hd ?_)
 refine wpAny_bind ?_
 show wpAny _ _ (forIn items _ _) _ _ s
 rw [← Array.forIn_toList]
 refine wpAny_forIn_list _ (fun rest r s' => r.1 = none ∧ s' = s ∧ ∀ v ∈ rest, ∃ k t, v = .int k t) _ ?_ ?_ _ _ ⟨rfl, rfl, hint⟩
 ·rintro v rest r s' ⟨hr, rfl, hall⟩
  obtain ⟨k, t, rfl⟩ := hall v List.mem_cons_self
  unfold hashByValue
  refine wpAny_bind (wpAny_pure ?_)
  simp only [Bool.not_true, Bool.false_eq_true, if_false]
  exact wpAny_pure ⟨rfl, rfl, fun u hu => hall u (List.mem_cons_of_mem _ hu)⟩
 ·rintro ⟨r1, r2⟩ s' ⟨hr, rfl, _⟩
  simp only at hr
  subst hr
  exact wpAny_pure q
theorem not_seen {kb : List Int} {b : Addr} {stored : List Value} {Q : Bool → Shared → Prop} (hb : TK prog w s.heap kb b) (hs : ∀ y ∈ stored, ∃ c ks, y = .ref c ∧ TK prog w s.heap ks c) (q : Q false s) : wpAny (model prog w) A (searchCouldBeSeen (.ref b) stored) Q E s := by
 unfold searchCouldBeSeen
 refine wpAny_bind ?_
 refine wpAny_forIn_list _ (fun rest r s' => r.1 = none ∧ s' = s ∧ ∀ y ∈ rest, ∃ c ks, y = .ref c ∧ TK prog w s.heap ks c) _ ?_ ?_ _ _ ⟨rfl, rfl, hs⟩
 ·rintro v rest r s' ⟨hr, rfl, hall⟩
  obtain ⟨c, ks, rfl, hc⟩ := hall v List.mem_cons_self
  have go : ∀ u ∈ rest, ∃ c ks, u = Value.ref c ∧ TK prog w s'.heap ks c := fun u hu => hall u (List.mem_cons_of_mem _ hu)
  dsimp only
  by_cases e : (b == c) = true
  ·rw [e]
   simp only [Bool.true_or, if_true]
   exact wpAny_pure ⟨rfl, rfl, go⟩
  ·have e : (b == c) = false := by simpa using e
   rw [e]
   simp only [carriedByValue, Bool.false_or, Bool.and_self, Bool.false_eq_true, if_false]
   refine wpAny_bind (wpAny_eqIsQuiet_tuple hb ?_)
   simp only [Bool.not_true, Bool.false_eq_true, if_false]
   refine wpAny_bind (wpAny_eqIsQuiet_tuple hc ?_)
   simp only [Bool.not_true, Bool.false_eq_true, if_false]
   refine wpAny_bind (noclass hb ?_)
   simp only [Bool.false_eq_true, if_false]
   refine wpAny_bind (noclass hc ?_)
   simp only [Bool.false_eq_true, if_false]
   exact wpAny_pure ⟨rfl, rfl, go⟩
 ·rintro ⟨r1, r2⟩ s' ⟨hr, rfl, _⟩
  simp only at hr
  subst hr
  exact wpAny_pure q
end
structure SXT (prog : Program) (w : World) (key : Addr → List Int) (h : Heap) (a : Addr) (es : Array (Int × Value)) (ep : Nat) (t : SetTable) : Prop where
 at_ : SAt h a es ep t
 t3 : T3 t es
 full : es.size * 5 < t.mask * 3
 led : t.led = !w.params.followText "set-order"
 pl : t.plain = true
 el : ∀ e ∈ es.toList, ∃ b, e.2 = .ref b ∧ e.1 = hT prog w (key b) ∧ TK prog w h (key b) b
section
variable {prog : Program} {w : World} {A : Around} {E : Value → Shared → Prop} {s : Shared} {a b : Addr} {es : Array (Int × Value)} {ep : Nat} {t : SetTable} {key : Addr → List Int}
theorem es_at (X : SXT prog w key s.heap a es ep t) {i j : Nat} (h : t.place[i]? = some j) : ∃ c, es[i]? = some (hT prog w (key c), .ref c) ∧ TK prog w s.heap (key c) c := by
 have hi := (Array.getElem?_eq_some_iff.mp h).1
 rw [X.t3.sz] at hi
 have e : es[i]? = some es[i] := Array.getElem?_eq_getElem hi
 obtain ⟨c, e1, e2, e3⟩ := X.el es[i] (by simp)
 exact ⟨c, by rw [e, ← e2, ← e1], e3⟩
theorem place_inj (R : Rise t.place) {i i' j : Nat} (h : t.place[i]? = some j) (h' : t.place[i']? = some j) : i = i' := by
 rcases Nat.lt_trichotomy i i' with c | c | c
 ·have := R.lt c h h'; omega
 ·exact c
 ·have := R.lt c h' h; omega
theorem search_ok {Q : SetFound → Shared → Prop} (hu : A.units < cLine) (X : SXT prog w key s.heap a es ep t) (hb : TK prog w s.heap (key b) b) {K : Nat} (hK : K < 10 * turns t.mask) (hn : ¬ Lv t (wk t.mask K (sth t.mask (hT prog w (key b)))).j) (hl : ∀ k, k < K → Lv t (wk t.mask k (sth t.mask (hT prog w (key b)))).j)
  (q1 : ∀ c, Value.ref c ∈ vals es → key c = key b → Q (.there none) s) (q2 : (∀ c, Value.ref c ∈ vals es → key c ≠ key b) → Q (.free (wk t.mask K (sth t.mask (hT prog w (key b)))).j false) s) :
  ∀ (n m : Nat) (stand : Option Probe), K - m = n → m ≤ K → stand.getD (t.probeStart (hT prog w (key b))) = wk t.mask m (sth t.mask (hT prog w (key b))) →
   (∀ (k i : Nat) (c : Addr), k < m → t.place[i]? = some (wk t.mask k (sth t.mask (hT prog w (key b)))).j → es[i]? = some (hT prog w (key c), .ref c) → key c ≠ key b) → ∀ fuel, n < fuel → wpAny (model prog w) A (setSearchFrom a (.ref b) (hT prog w (key b)) true fuel stand) Q E s := by
 intro n
 induction n using Nat.strongRecOn with
 | _ n ih =>
 intro m stand hnm hmK hst hkn fuel hf
 obtain ⟨fuel, rfl⟩ : ∃ f, fuel = f + 1 := ⟨fuel - 1, by omega⟩
 unfold setSearchFrom
 refine wpAny_bind (X.at_.state ?_)
 dsimp only
 have hgw : t.gaveWay = false := by
  unfold SetTable.gaveWay
  rcases X.t3.msk with h | h | h <;> rw [h] <;> decide
 rw [hgw]
 simp only [Bool.false_eq_true, if_false]
 rw [hst]
 have hg := go_out X.t3.dum (hashAt := fun i => (es[i]?.map (·.1)).getD 0) (h := hT prog w (key b)) (10 * turns t.mask) (wk t.mask m (sth t.mask (hT prog w (key b)))) (wk_dummy _ _ _)
 have hashAt : ∀ {i j : Nat}, t.place[i]? = some j → ∃ c, es[i]? = some (hT prog w (key c), .ref c) ∧ ((es[i]?.map (·.1)).getD 0) = hT prog w (key c) := fun {i j} h => by
  obtain ⟨c, e, _⟩ := es_at X h
  exact ⟨c, e, by rw [e]; rfl⟩
 show wpAny _ A (match probe.go t (fun i => (es[i]?.map (·.1)).getD 0) (hT prog w (key b)) (10 * turns t.mask) (wk t.mask m (sth t.mask (hT prog w (key b)))) with | some met => _ | _ => _) Q E s
 generalize probe.go t (fun i => (es[i]?.map (·.1)).getD 0) (hT prog w (key b)) (10 * turns t.mask) (wk t.mask m (sth t.mask (hT prog w (key b)))) = r at hg
 cases hg with
 | none al =>
  exfalso
  have := al (K - m) (by omega)
  rw [← wk_add, show m + (K - m) = K by omega] at this
  exact hn this
 | @empty j k hk e1 e2 al =>
  dsimp only
  rw [← wk_add] at e1
  have hne : ¬ Lv t j := empty_not X.t3.rise X.t3.dum e2
  have h1 : ¬ m + k < K := fun z => hne (e1 ▸ hl _ z)
  have h2 : ¬ K < m + k := fun z => by
   obtain ⟨i, hi, _⟩ := al (K - m) (by omega)
   rw [← wk_add, show m + (K - m) = K by omega] at hi
   rcases slot_out X.t3.dum (wk t.mask K (sth t.mask (hT prog w (key b)))).j with ⟨i', _, e⟩ | ⟨e, _⟩
   ·exact hn (live_of e)
   ·rw [e] at hi; cases hi
  have h3 : m + k = K := by omega
  rw [h3] at e1
  subst e1
  refine wpAny_pure (q2 fun c hc hkey => ?_)
  obtain ⟨e, he, hec⟩ := List.mem_map.mp hc
  obtain ⟨i, hi⟩ := List.getElem?_of_mem he
  rw [Array.getElem?_toList] at hi
  have his : i < es.size := (Array.getElem?_eq_some_iff.mp hi).1
  have hp : t.place[i]? = some (t.place[i]'(by rw [X.t3.sz]; exact his)) := Array.getElem?_eq_getElem _
  generalize t.place[i]'(by rw [X.t3.sz]; exact his) = j' at hp
  obtain ⟨c', ec', _⟩ := es_at X hp
  rw [hi] at ec'
  have ee := Option.some.inj ec'
  subst ee
  have hcc : c' = c := by injection hec
  subst hcc
  obtain ⟨k0, p1, p2⟩ := X.t3.path i j' _ hp hi
  rw [hkey] at p1 p2
  have hk0 : k0 < K := by
   rcases Nat.lt_trichotomy k0 K with z | z | z
   ·exact z
   ·rw [z] at p1
    exact absurd (p1 ▸ live_of hp) hn
   ·exact absurd (p2 K z) hn
  by_cases z : k0 < m
  ·exact hkn k0 i c' z (by rw [p1]; exact hp) hi hkey
  ·obtain ⟨i', q3, q4⟩ := al (k0 - m) (by omega)
   rw [← wk_add, show m + (k0 - m) = k0 by omega, p1, slot_live X.t3.rise hp] at q3
   injection q3 with q3
   subst q3
   obtain ⟨c2, ec2, hh⟩ := hashAt hp
   rw [hi] at ec2
   have := Option.some.inj ec2
   injection this with z1 z2
   exact q4 (by rw [hh, ← z1, hkey])
 | @cand j i k hk e1 e2 e3 e4 al =>
  dsimp only
  rw [← wk_add] at e1
  obtain ⟨c, ec, hh⟩ := hashAt e3
  obtain ⟨c', ec', hc⟩ := es_at X e3
  have : c' = c := by
   rw [ec] at ec'
   have := Option.some.inj ec'
   injection this with _ z
   injection z with z
   exact z.symm
  subst this
  have hlt : m + k < K := by
   rcases Nat.lt_trichotomy (m + k) K with z | z | z
   ·exact z
   ·rw [z] at e1
    exact absurd (e1 ▸ live_of e3) hn
   ·obtain ⟨i', q3, _⟩ := al (K - m) (by omega)
    rw [← wk_add, show m + (K - m) = K by omega] at q3
    rcases slot_out X.t3.dum (wk t.mask K (sth t.mask (hT prog w (key b)))).j with ⟨i', _, e⟩ | ⟨e, _⟩
    ·exact absurd (live_of e) hn
    ·rw [e] at q3; cases q3
  have fin : ∀ {s' : Shared}, s' = s → wpAny (model prog w) A (match es[i]? with
    | some (_, y) => do
     let equal ← holding [y] (eqBool y (.ref b))
     let (es', _, t') ← setState a
     if (true && equal) = true then pure (SetFound.there none) else do
     match t'.sameMemory t.moves t.mask with
     | some same0 => do
      let still ← match (if same0 then t'.slot j else .empty) with
       | .live i' => match es'[i']? with
        | some (_, y') => do pure (if ← isSame y' y then some i' else none)
        | none => pure none
       | _ => pure none
      match still with
      | none => do rule "set.search.anew"; setSearchFrom a (.ref b) (hT prog w (key b)) true fuel none
      | some i' => if equal = true then pure (SetFound.there (some i')) else setSearchFrom a (.ref b) (hT prog w (key b)) true fuel (some (wk t.mask (k + 1) (wk t.mask m (sth t.mask (hT prog w (key b))))))
     | _ => unsupported "set.changed-during-lookup:is-the-new-block-at-the-old-address"
    | _ => unsupported "internal:set-entry") Q E s' := by
   intro s' hs'
   subst hs'
   rw [ec]
   dsimp only
   refine wpAny_bind (wpAny_holding (wpAny_eqBool_tuple hu hc hb ?_))
   refine wpAny_bind (X.at_.state ?_)
   dsimp only
   by_cases hkey : key c' = key b
   ·rw [decide_eq_true hkey]
    simp only [Bool.and_self, if_true]
    refine wpAny_pure (q1 c' (List.mem_map.mpr ⟨(hT prog w (key c'), .ref c'), ?_, rfl⟩) hkey)
    rw [← Array.getElem?_toList] at ec
    exact List.mem_of_getElem? ec
   ·rw [decide_eq_false hkey]
    simp only [Bool.and_false, Bool.false_eq_true, if_false]
    have hsm : t.sameMemory t.moves t.mask = some true := by
     unfold SetTable.sameMemory
     rw [if_pos (by simp)]
    rw [hsm]
    simp only [if_true]
    rw [e2]
    dsimp only
    rw [ec]
    dsimp only
    refine wpAny_bind (wpAny_isSame_ref_self ?_)
    refine wpAny_bind (wpAny_pure ?_)
    simp only [if_true]
    refine ih (K - (m + (k + 1))) (by omega) (m + (k + 1)) _ rfl (by omega) ?_ (fun k' i' c2 hk' hp' he' => ?_) fuel (by omega)
    ·rw [Option.getD_some]
     exact (wk_add _ _ _ _).symm
    ·by_cases z : k' < m
     ·exact hkn k' i' c2 z hp' he'
     ·by_cases z2 : k' = m + k
      ·subst z2
       rw [e1] at hp'
       have := place_inj X.t3.rise e3 hp'
       subst this
       rw [ec] at he'
       have := Option.some.inj he'
       injection this with _ z3
       injection z3 with z3
       exact z3 ▸ hkey
      ·obtain ⟨i2, q3, q4⟩ := al (k' - m) (by omega)
       rw [← wk_add, show m + (k' - m) = k' by omega, slot_live X.t3.rise hp'] at q3
       injection q3 with q3
       subst q3
       intro zk
       refine q4 ?_
       show (es[i']?.map (·.1)).getD 0 = _
       rw [he', ← zk]
       rfl
  by_cases hled : t.led = true
  ·rw [hled]
   simp only [Bool.not_true, Bool.false_eq_true, if_false]
   exact fin rfl
  ·have hled : t.led = false := by simpa using hled
   rw [hled]
   simp only [Bool.not_false, if_true]
   refine wpAny_bind (not_seen hb (fun y hy => ?_) ?_)
   ·obtain ⟨e, he, rfl⟩ := List.mem_map.mp hy
    have he : e ∈ es.toList := by
     rw [Array.toList_filter] at he
     exact (List.mem_filter.mp he).1
    obtain ⟨c, e1, _, e3⟩ := X.el e he
    exact ⟨c, _, e1, e3⟩
   ·simp only [Bool.false_eq_true, if_false]
    exact fin rfl
end
def SetT (prog : Program) (w : World) (key : Addr → List Int) (h : Heap) (a : Addr) (M : List Addr) : Prop := ∃ es ep t, SXT prog w key h a es ep t ∧ List.Perm (vals es) (M.map Value.ref)
section
variable {prog : Program} {w : World} {A : Around} {E : Value → Shared → Prop} {s : Shared} {a b : Addr} {es : Array (Int × Value)} {ep : Nat} {t : SetTable} {key : Addr → List Int} {M : List Addr}
theorem tk_keep {h h' : Heap} {ks : List Int} {c : Addr} (x : TK prog w h ks c) (S : SAt h a es ep t) (sb : Heap.SameBut a h h') : TK prog w h' ks c := by
 obtain ⟨o, items, n, ho, hc, hd, hi⟩ := x
 obtain ⟨o', e1, e2, e3, e4⟩ := S
 have hne : c ≠ a := fun z => by
  subst z
  obtain rfl : o = o' := Option.some.inj (ho.symm.trans e1)
  rw [hd] at e3
  cases e3
 exact ⟨o, items, n, (sb.2 c hne).trans ho, hc, hd, hi⟩
theorem SXT.size (X : SXT prog w key s.heap a es ep t) (p : List.Perm (vals es) (M.map Value.ref)) : es.size = M.length := by
 have := p.length_eq
 unfold vals at this
 rwa [List.length_map, List.length_map, Array.length_toList] at this
theorem relay_ok {m wanted : Nat} {Q : Unit → Shared → Prop} (S : SAt s.heap a es ep t) (hsz : es.size ≤ sizeLine) (hm : sizeAbove wanted - 1 = m) (hbig : ¬ sizeAbove wanted > sizeLine) (Mk : Msk m) (hl : es.size ≤ m)
  (q : ∀ (es' : Array (Int × Value)) (t' : SetTable), List.Perm es'.toList es.toList → T3 t' es' → t'.mask = m → t'.led = t.led → t'.plain = t.plain → t'.fits es'.size = true → Q () { s with heap := s.heap.update a (Obj.putSet es' t') }) : wpAny (model prog w) A (setRelay a wanted) Q E s := by
 unfold setRelay
 refine wpAny_bind (S.state ?_)
 dsimp only
 rw [if_neg hbig]
 obtain ⟨t', order, e, hp, h3, h4, h5, h6⟩ := relaid_ok (t := t) (es := es) hm Mk hl
 rw [e]
 have hz : (order.filterMap (es[·]?)).size = es.size := by rw [← Array.length_toList, hp.length_eq, Array.length_toList]
 refine wpAny_bind (m := _) ?_
 show wpAny _ A (if ((order.filterMap (es[·]?)).size != es.size) = true then _ else _) _ E s
 rw [if_neg (by rw [hz]; simp)]
 refine wpAny_pure ?_
 dsimp only
 refine store_ok S (by rw [hz]; exact hsz) (q _ t' hp h3 h4 h5 h6 ?_)
 unfold SetTable.fits SetTable.fill
 rw [h3.dum, h3.sz]
 have := h3.room
 simp
 omega
theorem add_tup {Q : Bool → Shared → Prop} (hu : A.units < cLine) (X : SetT prog w key s.heap a M) (hb : TK prog w s.heap (key b) b) (hM : M.length + 1 ≤ 70)
  (q1 : ∀ c ∈ M, key c = key b → Q false s) (q2 : (∀ c ∈ M, key c ≠ key b) → ∀ h', Heap.SameBut a s.heap h' → SetT prog w key h' a (M ++ [b]) → Q true { s with heap := h' }) :
  wpAny (model prog w) A (setAddHashed a (.ref b) (hT prog w (key b))) Q E s := by
 obtain ⟨es, ep, t, X, hp⟩ := X
 have hsz := X.size hp
 unfold setAddHashed setAddHashedIn
 refine wpAny_holding (wpAny_bind (X.at_.state ?_))
 dsimp only
 have hbs : byScan (.ref b) es = false := rfl
 rw [hbs]
 simp only [Bool.false_eq_true, if_false]
 obtain ⟨K, hK, hn, hl⟩ := first_empty X.t3 (hT prog w (key b))
 have hv : ∀ c, Value.ref c ∈ vals es ↔ c ∈ M := fun c => by
  rw [hp.mem_iff, List.mem_map]
  constructor
  ·rintro ⟨d, hd, e⟩
   cases e
   exact hd
  ·exact fun h => ⟨c, h, rfl⟩
 refine wpAny_bind ?_
 unfold setSearch
 refine search_ok hu X hb hK hn hl (fun c hc hk => ?_) (fun hno => ?_) _ 0 none rfl (Nat.zero_le _) rfl (fun k i c hk => absurd hk (Nat.not_lt_zero _)) _ ?_
 ·exact wpAny_pure (q1 c ((hv c).mp hc) hk)
 ·dsimp only
  refine wpAny_bind (X.at_.state ?_)
  dsimp only
  rw [put_is X.t3.dum]
  dsimp only
  rw [X.pl]
  simp only [if_true]
  refine wpAny_bind (by_value hb ?_)
  simp only [if_true]
  have hfull := X.full
  have msk := X.t3.msk
  have hroom : es.size + 1 ≤ t.mask := by rcases msk with h | h | h <;> rw [h] at hfull ⊢ <;> omega
  have T' := X.t3.put (x := Value.ref b) hn hl hroom
  generalize (wk t.mask K (sth t.mask (hT prog w (key b)))).j = j at T' ⊢
  have hlv : (insertAt es (below t.place j) (hT prog w (key b), Value.ref b)).size = es.size + 1 := by
   rw [← Array.length_toList, (insertAt_perm _ _ _).length_eq, Array.toList_push, List.length_append, Array.length_toList]; rfl
  have hperm : List.Perm (vals (insertAt es (below t.place j) (hT prog w (key b), Value.ref b))) ((M ++ [b]).map Value.ref) := by
   unfold vals
   refine ((insertAt_perm _ _ _).map _).trans ?_
   rw [Array.toList_push, List.map_append, List.map_append]
   exact hp.append_right _
  have hel : ∀ e ∈ (insertAt es (below t.place j) (hT prog w (key b), Value.ref b)).toList, ∃ c, e.2 = .ref c ∧ e.1 = hT prog w (key c) ∧ TK prog w s.heap (key c) c := fun e he => by
   rw [(insertAt_perm _ _ _).mem_iff, Array.toList_push, List.mem_append, List.mem_singleton] at he
   rcases he with he | rfl
   ·exact X.el e he
   ·exact ⟨b, rfl, rfl, hb⟩
  generalize insertAt es (below t.place j) (hT prog w (key b), Value.ref b) = es1 at T' hlv hperm hel ⊢
  have hno' : ∀ c ∈ M, key c ≠ key b := fun c hc => hno c ((hv c).mpr hc)
  have led1 : ({ t with place := insertAt t.place (below t.place j) j, plain := true } : SetTable).led = !w.params.followText "set-order" := X.led
  have plT : ({ t with place := insertAt t.place (below t.place j) j } : SetTable) = { t with place := insertAt t.place (below t.place j) j, plain := true } := by rw [← X.pl]
  rw [plT] at T'
  generalize ht1 : ({ t with place := insertAt t.place (below t.place j) j, plain := true } : SetTable) = t1 at T' led1 ⊢
  have hmk : t1.mask = t.mask := by rw [← ht1]
  have pl1 : t1.plain = true := by rw [← ht1]
  have sz1 : es1.size ≤ sizeLine := by
   have : (16777216 : Nat) = sizeLine := by decide
   omega
  have fit1 : t1.fits es1.size = true := by
   unfold SetTable.fits SetTable.fill
   rw [T'.dum, T'.sz]
   have := T'.room
   simp
   omega
  have tk2 : ∀ {h' : Heap}, Heap.SameBut a s.heap h' → ∀ e ∈ es1.toList, ∃ c, e.2 = .ref c ∧ e.1 = hT prog w (key c) ∧ TK prog w h' (key c) c := fun sb e he => by
   obtain ⟨c, e1, e2, e3⟩ := hel e he
   exact ⟨c, e1, e2, tk_keep e3 X.at_ sb⟩
  refine wpAny_bind (store_ok X.at_ sz1 ?_)
  have S2 := stored X.at_ (es' := es1) fit1
  have sbb := Heap.SameBut.update s.heap a (Obj.putSet es1 t1)
  generalize s.heap.update a (Obj.putSet es1 t1) = h2 at S2 sbb ⊢
  have hfl : t1.fill = es.size + 1 := by
   unfold SetTable.fill
   rw [T'.dum, T'.sz, hlv]
   rfl
  by_cases hf : t1.tooFull = true
  ·rw [hf]
   simp only [Bool.not_false, Bool.and_self, if_true]
   have hf' : (es.size + 1) * 5 ≥ t.mask * 3 := by
    unfold SetTable.tooFull at hf
    rw [hfl, hmk] at hf
    exact of_decide_eq_true hf
   have cases2 : (t.mask = 7 ∧ es.size = 4) ∨ (t.mask = 31 ∧ es.size = 18) := by
    rcases msk with h | h | h <;> rw [h] at hf' hfull <;> omega
   obtain ⟨m', e1, e2, e3, e4, e5⟩ : ∃ m', sizeAbove (grown (es.size + 1)) - 1 = m' ∧ ¬ sizeAbove (grown (es.size + 1)) > sizeLine ∧ Msk m' ∧ es1.size ≤ m' ∧ es1.size * 5 < m' * 3 := by
    have sl : (16777216 : Nat) = sizeLine := by decide
    rcases cases2 with ⟨_, h⟩ | ⟨_, h⟩
    ·rw [hlv, h]
     exact ⟨31, by decide +kernel, by rw [← sl]; decide +kernel, .inr (.inl rfl), by decide, by decide⟩
    ·rw [hlv, h]
     exact ⟨127, by decide +kernel, by rw [← sl]; decide +kernel, .inr (.inr rfl), by decide, by decide⟩
   refine wpAny_bind (relay_ok (s := { s with heap := h2 }) S2 sz1 e1 e2 e3 e4 fun es' t' hpe h3 h4 h5 h6 h7 => ?_)
   have sb2 := sbb.trans (Heap.SameBut.update h2 a (Obj.putSet es' t'))
   have hsz' : es'.size = es1.size := by rw [← Array.length_toList, hpe.length_eq, Array.length_toList]
   refine wpAny_pure (q2 hno' _ sb2 ⟨es', _, t', ⟨stored S2 h7, h3, by rw [h4, hsz']; exact e5, h5.trans led1, h6.trans pl1, fun e he => tk2 sb2 e (hpe.mem_iff.mp he)⟩, ?_⟩)
   exact (hpe.map _).trans hperm
  ·have hf : t1.tooFull = false := by simpa using hf
   rw [hf]
   simp only [Bool.and_false, Bool.false_eq_true, if_false]
   have hf' : ¬ (es.size + 1) * 5 ≥ t.mask * 3 := by
    unfold SetTable.tooFull at hf
    rw [hfl, hmk] at hf
    exact of_decide_eq_false hf
   exact wpAny_pure (q2 hno' _ sbb ⟨es1, _, t1, ⟨S2, T', by rw [hlv, hmk]; omega, led1, pl1, tk2 sbb⟩, hperm⟩)
 ·rcases X.t3.msk with h | h | h <;> rw [h] at hK <;> unfold turns at hK <;> omega
end
def stepA (key : Addr → List Int) (acc : List Addr) (b : Addr) : List Addr := if (acc.any fun c => decide (key c = key b)) = true then acc else acc ++ [b]
def metA (key : Addr → List Int) (bs : List Addr) : List Addr := bs.foldl (stepA key) []
theorem metA_snoc (key : Addr → List Int) (bs : List Addr) (b : Addr) : metA key (bs ++ [b]) = stepA key (metA key bs) b := by
 unfold metA
 rw [List.foldl_append]
 rfl
theorem stepA_old {key : Addr → List Int} {acc : List Addr} {b c : Addr} (hc : c ∈ acc) (e : key c = key b) : stepA key acc b = acc := by
 unfold stepA
 rw [if_pos (List.any_eq_true.mpr ⟨c, hc, decide_eq_true e⟩)]
theorem stepA_new {key : Addr → List Int} {acc : List Addr} {b : Addr} (h : ∀ c ∈ acc, key c ≠ key b) : stepA key acc b = acc ++ [b] := by
 unfold stepA
 rw [if_neg]
 intro z
 obtain ⟨c, hc, e⟩ := List.any_eq_true.mp z
 exact h c hc (of_decide_eq_true e)
structure MetOk (key : Addr → List Int) (bs M : List Addr) : Prop where
 sub : ∀ c ∈ M, c ∈ bs
 nd : (M.map key).Nodup
 all : ∀ b ∈ bs, ∃ c ∈ M, key c = key b
 len : M.length ≤ bs.length
theorem met_ok (key : Addr → List Int) (bs : List Addr) : MetOk key bs (metA key bs) := by
 suffices h : ∀ n, n ≤ bs.length → MetOk key (bs.take n) (metA key (bs.take n)) by
  have := h bs.length (Nat.le_refl _)
  rwa [List.take_length] at this
 intro n
 induction n with
 | zero => intro _; exact ⟨fun c h => (by cases h), List.nodup_nil, fun b h => (by cases h), Nat.le_refl _⟩
 | succ n ih =>
  intro hn
  have ih := ih (by omega)
  have et : bs.take (n + 1) = bs.take n ++ [bs[n]] := (List.take_append_getElem (by omega)).symm
  rw [et, metA_snoc]
  generalize bs.take n = p at ih ⊢
  generalize bs[n] = b
  generalize metA key p = M at ih ⊢
  by_cases h : ∃ c ∈ M, key c = key b
  ·obtain ⟨c, hc, e⟩ := h
   rw [stepA_old hc e]
   refine ⟨fun c hc => List.mem_append_left _ (ih.sub c hc), ih.nd, fun x hx => ?_, by rw [List.length_append]; have := ih.len; omega⟩
   rcases List.mem_append.mp hx with hx | hx
   ·exact ih.all x hx
   ·rw [List.mem_singleton.mp hx]; exact ⟨c, hc, e⟩
  ·have h : ∀ c ∈ M, key c ≠ key b := fun c hc e => h ⟨c, hc, e⟩
   rw [stepA_new h]
   refine ⟨fun c hc => ?_, ?_, fun x hx => ?_, by rw [List.length_append, List.length_append]; have := ih.len; exact Nat.add_le_add this (Nat.le_refl _)⟩
   ·rcases List.mem_append.mp hc with hc | hc
    ·exact List.mem_append_left _ (ih.sub c hc)
    ·exact List.mem_append_right _ hc
   ·rw [List.map_append, List.nodup_append]
    refine ⟨ih.nd, by simp, fun x hx y hy => ?_⟩
    obtain ⟨c, hc, rfl⟩ := List.mem_map.mp hx
    have hy : y = key b := by simpa using hy
    rw [hy]
    exact h c hc
   ·rcases List.mem_append.mp hx with hx | hx
    ·obtain ⟨c, hc, e⟩ := ih.all x hx
     exact ⟨c, List.mem_append_left _ hc, e⟩
    ·rw [List.mem_singleton.mp hx]
     exact ⟨b, List.mem_append_right _ (List.mem_singleton.mpr rfl), rfl⟩
section
variable {prog : Program} {w : World} {A : Around} {R : Result → Shared → Prop} {I : Addr} {fp wr : List Addr} {G : Array GenState → Array GenState → Prop} {n : Nat} {P : Nat → Value → Prop} {St : Nat → Shared → Prop}
theorem SetT.keep {key : Addr → List Int} {h h' : Heap} {a : Addr} {M : List Addr} (X : SetT prog w key h a M) (k : ∀ o, h.get? a = some o → h'.get? a = some o) (kt : ∀ c ∈ M, TK prog w h (key c) c → TK prog w h' (key c) c) : SetT prog w key h' a M := by
 obtain ⟨es, ep, t, X, p⟩ := X
 refine ⟨es, ep, t, ⟨X.at_.keep k, X.t3, X.full, X.led, X.pl, fun e he => ?_⟩, p⟩
 obtain ⟨b, e1, e2, e3⟩ := X.el e he
 refine ⟨b, e1, e2, kt b ?_ e3⟩
 have : Value.ref b ∈ vals es := List.mem_map.mpr ⟨e, he, e1⟩
 obtain ⟨c, hc, z⟩ := List.mem_map.mp (p.mem_iff.mp this)
 cases z
 exact hc
theorem tk_same {h h' : Heap} {ks : List Int} {c : Addr} (k : ∀ o, h.get? c = some o → h'.get? c = some o) (x : TK prog w h ks c) : TK prog w h' ks c := by
 obtain ⟨o, items, m, ho, r⟩ := x
 exact ⟨o, items, m, k o ho, r⟩
theorem updT_loop (hu : A.in1.units < cLine) (W : WalksS prog w A.in1 I fp wr G n P St) (S : Addr) (hSf : S ∉ fp) (key : Addr → List Int) (bs : List Addr) (hbl : bs.length = n) (hn : n ≤ 69) (hval : ∀ i v, P i v → ∃ b, bs[i]? = some b ∧ v = .ref b) (hbw : ∀ b ∈ bs, b ∉ S :: wr) :
  ∀ (k i : Nat) (s : Shared), n - i = k → i ≤ n → St i s → SetT prog w key s.heap S (metA key (bs.take i)) → (∀ b ∈ bs, TK prog w s.heap (key b) b) →
   (∀ s', Moved (S :: wr) G s s' → SetT prog w key s'.heap S (metA key bs) → R (.ok (.ret .none)) s') →
   codeAny (model prog w) A (.builtin "set.update.loop" ⟨[.ref S, .ref I], []⟩) R s := by
 have hSw : S ∉ wr := fun h => hSf (W.sub _ h)
 have hsub : ∀ b ∈ wr, b ∈ S :: wr := fun b hb => List.mem_cons_of_mem _ hb
 have hbw' : ∀ b ∈ bs, b ∉ wr := fun b hb z => hbw b hb (List.mem_cons_of_mem _ z)
 have msub : ∀ i, ∀ c ∈ metA key (bs.take i), c ∈ bs := fun i c hc => List.mem_of_mem_take ((met_ok key (bs.take i)).sub c hc)
 intro k
 induction k with
 | zero =>
  intro i s hk hi hst hS hT hR
  have hin : i = n := by omega
  subst hin
  refine codeAny_builtin PyProof.Rows.F.entry_set_update_loop ?_
  rw [Around.under_plainId PyProof.Rows.F.plain_set_update_loop _]
  show wpAny _ A.in1 (pyNext (.ref I) >>= _) _ _ s
  refine wpAny_bind (W.done s _ _ hst fun s' hm => ?_)
  show wpAny _ A.in1 (ret Value.none) _ _ s'
  rw [← hbl, List.take_length] at hS
  refine wpAny_pure (hR s' (hm.mono hsub) (hS.keep (fun o e => hm.heap S o hSw e) fun c hc => tk_same fun o e => hm.heap c o (hbw' c ((met_ok key bs).sub c hc)) e))
 | succ k ih =>
  intro i s hk hi hst hS hT hR
  have hlt : i < n := by omega
  refine codeAny_builtin PyProof.Rows.F.entry_set_update_loop ?_
  rw [Around.under_plainId PyProof.Rows.F.plain_set_update_loop _]
  show wpAny _ A.in1 (pyNext (.ref I) >>= _) _ _ s
  refine wpAny_bind (W.item i s _ _ hlt hst fun v s' hP hst' hm => ?_)
  obtain ⟨b, hb, rfl⟩ := hval i v hP
  have hbm : b ∈ bs := List.mem_of_getElem? hb
  have hT' : ∀ b ∈ bs, TK prog w s'.heap (key b) b := fun c hc => tk_same (fun o e => hm.heap c o (hbw' c hc) e) (hT c hc)
  have hS' := hS.keep (fun o e => hm.heap S o hSw e) fun c hc => tk_same fun o e => hm.heap c o (hbw' c (msub i c hc)) e
  show wpAny _ A.in1 (holding [Value.ref b] (setAdd S (.ref b)) >>= _) _ _ s'
  refine wpAny_bind (wpAny_holding ?_)
  unfold setAdd
  refine wpAny_holding ?_
  refine wpAny_bind (wpAny_pyHash_tuple hu (hT' b hbm) ?_)
  have et : bs.take (i + 1) = bs.take i ++ [b] := by
   have hi' : i < bs.length := by omega
   have e : bs[i] = b := Option.some.inj ((List.getElem?_eq_getElem hi').symm.trans hb)
   rw [← e]
   exact (List.take_append_getElem hi').symm
  have hln : (metA key (bs.take i)).length ≤ i := Nat.le_trans (met_ok key (bs.take i)).len (by rw [List.length_take]; omega)
  have fin : ∀ h' : Heap, Heap.SameBut S s'.heap h' → SetT prog w key h' S (metA key (bs.take (i + 1))) → ∀ tk : Nat, s'.toks ≤ tk →
    codeAny (model prog w) A (.builtin "set.update.loop" ⟨[.ref S, .ref I], []⟩) R { s' with heap := h', toks := tk } := fun h' hsb hSi tk htk => by
   refine ih (i + 1) _ (by omega) hlt (W.frame _ s' _ _ hst' htk fun b hb o e => ?_) hSi (fun c hc => tk_same (fun o e => by rw [hsb.2 c fun z => hbw c hc (by rw [z]; exact List.mem_cons_self)]; exact e) (hT' c hc)) fun s'' hm'' hS'' => ?_
   ·rw [hsb.2 b (fun h : b = S => hSf (by rw [← h]; exact hb))]; exact e
   ·refine hR s'' (Moved.trans W.gtrans ((hm.mono hsub).then_heap htk fun b o hb e => ?_) hm'') hS''
    rw [hsb.2 b (fun h : b = S => hb (by rw [h]; exact List.mem_cons_self))]; exact e
  refine add_tup (s := { s' with toks := _ }) hu hS' (hT' b hbm) (by omega) (fun c hc e => ?_) (fun hno h' hsb hS2 => ?_)
  ·refine wpAny_pure ⟨plainId_quiet PyProof.Rows.F.plain_set_update_loop _, ?_⟩
   refine fin s'.heap (Heap.SameBut.refl S s'.heap) ?_ _ (Nat.le_add_right _ _)
   rw [et, metA_snoc, stepA_old hc e]
   exact hS'
  ·refine wpAny_pure ⟨plainId_quiet PyProof.Rows.F.plain_set_update_loop _, ?_⟩
   refine fin h' hsb ?_ _ (Nat.le_add_right _ _)
   rw [et, metA_snoc, stepA_new hno]
   exact hS2
end
section
variable {prog : Program} {w : World} {A : Around} {E : Value → Shared → Prop} {s : Shared}
theorem freshT {key : Addr → List Int} {h : Heap} {a : Addr} (e : h.get? a = some { cls := .type "set", dict := none, data := .set #[] 0 (.fresh 0 0 (!w.params.followText "set-order")) }) : SetT prog w key h a [] := by
 refine ⟨#[], 0, _, ⟨⟨_, e, ⟨rfl, rfl, rfl⟩, rfl, rfl⟩, ⟨List.Pairwise.nil, rfl, .inl rfl, fun j hj => (by cases hj), rfl, Nat.zero_le _, fun i j e h => (by have h : (#[] : Array Nat)[i]? = some j := h; simp at h)⟩, (by show 0 * 5 < 7 * 3; decide), rfl, rfl, fun x hx => (by simp at hx)⟩, List.Perm.refl _⟩
abbrev SetEndT (prog : Program) (w : World) (s : Shared) (key : Addr → List Int) (bs : List Addr) (h' : Heap) : Prop :=
 SetT prog w key h' s.heap.objs.size (metA key bs) ∧ ∀ b o, b < s.heap.objs.size → s.heap.get? b = some o → h'.get? b = some o
theorem set_of_tups {l : Addr} {items : Array Value} {key : Addr → List Int} {bs : List Addr} {Q : Value → Shared → Prop} (hu : A.units + 8 < cLine) (hh : A.handled = none) (hl : s.heap.IsList l items) (hi : items.toList = bs.map Value.ref) (hb : bs.length ≤ 69) (hT : ∀ b ∈ bs, TK prog w s.heap (key b) b)
  (h : ∀ (h' : Heap) (tk : Nat), SetEndT prog w s key bs h' → Q (.ref s.heap.objs.size) { s with heap := h', toks := tk }) : wpAny (model prog w) A (call (.type "set") [.ref l]) Q E s := by
 obtain ⟨c, tl, hmro⟩ := PySem.F.called_set.mro
 have hmade := PySem.F.called_set.made; have hsub := PySem.F.called_set.sub
 refine wpAny_call (codeAny_of_tree ?_); show wpAny _ _ (callAny (.type "set") _) _ _ _
 refine wpAny_pure ⟨Code.quiet_builtin _ (by decide +kernel), codeAny_builtin PySem.F.entry_type_call ?_⟩; rw [Around.under_plain (weight_type_call_type "set" [.ref l] []) rfl]
 have h1 := PySem.F.called_set.notType; have h2 := PySem.F.called_set.canCreate; have hct := PySem.F.typeCall_set_1 (.ref l)
 repeat (any_goals (first | assumption | wp_step))
 let ob : Obj := { cls := .type "set", dict := none, data := .set #[] 0 (.fresh 0 0 (!w.params.followText "set-order")) }
 refine codeAny_mono (set_new (.ref l) (E := E) (Q₁ := fun obj s₁ => obj = .ref s.heap.objs.size ∧ s₁ = { s with heap := s.heap.push ob }) ⟨rfl, rfl⟩) fun r s₁ hr => ?_
 cases r with
 | error e => exact hr
 | ok fl =>
  cases fl with
  | ret obj =>
   obtain ⟨rfl, rfl⟩ := hr
   have hS : (s.heap.push ob).get? s.heap.objs.size = some ob := Heap.get?_push_size _ rfl
   have hTy : Shared.TypeIs { s with heap := s.heap.push ob } (.ref s.heap.objs.size) "set" := ⟨_, hS, rfl⟩
   have hli := PySem.F.called_set.init.lookup; have hbi := PySem.F.called_set.init.bind (.ref s.heap.objs.size)
   repeat (any_goals (first | assumption | wp_step))
   refine codeAny_mono (codeAny_call_builtin (R := wants (fun r s₂ => r = .none ∧ ∃ h' tk, s₂ = { s with heap := h', toks := tk } ∧ SetEndT prog w s key bs h') E) PySem.F.called_set.init.plain PySem.F.entry_set_init (check_set_init_1 hTy ?_)) fun r₂ s₂ hr₂ => ?_
   ·obtain ⟨ol, hol, hcl, nl, hdl⟩ := id hl
    obtain ⟨ocls, odict, odata, oslots⟩ := ol
    simp only at hcl hdl
    subst hcl; subst hdl
    have hol' : (s.heap.push ob).get? l = some { cls := .type "list", dict := odict, data := .seq items nl, slots := oslots } := Heap.get?_push_of_some _ hol
    have hsls := PySem.F.sub_list_set; have hslf := PySem.F.sub_list_frozenset
    have hne : (Value.type "list" == Value.type "dict") = false := by decide
    have hl1 : (s.heap.push ob).IsList l items := ⟨_, hol', rfl, nl, rfl⟩
    unfold Builtin.«set.__init__» noKeywords Builtin.Frozenset.updateFrom; generalize hPI : pyIter = PI
    wp_walk
    subst hPI
    refine wpAny_pyIter_list hl1 ?_
    refine wpAny_bind (wpAny_runValue ?_)
    have hlS : l < s.heap.objs.size := Heap.lt_size hol
    have hneI : l ≠ (s.heap.push ob).objs.size := by rw [Heap.size_push]; exact Nat.ne_of_lt (Nat.lt_succ_of_lt hlS)
    have hSf : s.heap.objs.size ∉ [(s.heap.push ob).objs.size, l] := by
     rw [Heap.size_push]; intro z
     rcases List.mem_cons.mp z with z | z
     ·exact absurd z (Nat.ne_of_lt (Nat.lt_succ_self _))
     ·exact absurd (List.mem_singleton.mp z) (Nat.ne_of_gt hlS)
    have hzs : bs.length = items.size := by rw [← Array.length_toList, hi, List.length_map]
    have hblt : ∀ b ∈ bs, b < s.heap.objs.size := fun b hb => by
     obtain ⟨o, _, _, e, _⟩ := hT b hb
     exact Heap.lt_size e
    refine updT_loop (by simp only [Around.in1_units]; omega) ((Walks.list (A := A.in1.in1.in1) (by simp [hh]) _ l hneI items).toS) s.heap.objs.size hSf key bs hzs (by omega) (fun i v hv => ?hv) (fun b hb z => ?hbw) (items.size - 0) 0 _ (by omega) (Nat.zero_le _)
     ⟨⟨_, Heap.get?_push_size _ rfl, rfl, rfl⟩, ⟨_, Heap.get?_push_of_some _ hol', rfl, nl, rfl⟩⟩ ?hS0 (fun b hb => tk_same (fun o e => Heap.get?_push_of_some _ (Heap.get?_push_of_some _ e)) (hT b hb)) ?hR
    case hv =>
     have hv : items[i]? = some v := hv
     rw [← Array.getElem?_toList, hi, List.getElem?_map] at hv
     obtain ⟨b, hb, e⟩ := Option.map_eq_some_iff.mp hv
     exact ⟨b, hb, e.symm⟩
    case hbw =>
     have := hblt b hb
     rcases List.mem_cons.mp z with z | z
     ·rw [z] at this
      exact absurd this (Nat.lt_irrefl _)
     ·rw [List.mem_singleton.mp z, Heap.size_push] at this
      exact absurd this (Nat.not_lt.mpr (Nat.le_succ _))
    case hS0 => exact freshT (Heap.get?_push_of_some _ hS)
    case hR =>
     intro s' hm hS'
     obtain ⟨h', g', d', tk', os'⟩ := s'
     obtain rfl : g' = s.gens := hm.gens
     obtain rfl : d' = s.drawn := hm.drawn
     obtain rfl : os' = s.os := hm.os
     show wpAny _ _ _ _ _ _
     refine wpAny_pure ?_; show wpAny _ _ (ret Value.none) _ _ _
     refine wpAny_pure ⟨rfl, h', tk', rfl, hS', fun b o hb e => hm.heap b o (fun z => ?_) (Heap.get?_push_of_some _ (Heap.get?_push_of_some _ e))⟩
     rcases List.mem_cons.mp z with z | z
     ·exact absurd z (Nat.ne_of_lt hb)
     ·refine absurd (List.mem_singleton.mp z) (Nat.ne_of_lt ?_); rw [Heap.size_push]; exact Nat.lt_succ_of_lt hb
   ·cases r₂ with
    | error e => exact hr₂
    | ok fl₂ =>
     cases fl₂ with
     | ret r =>
      obtain ⟨rfl, h', tk, rfl, he⟩ := hr₂
      repeat (any_goals (first | assumption | wp_step))
      exact h _ _ he
     | _ => exact hr₂.elim
  | _ => exact hr.elim
end
end PyS
namespace PyS
open PySem PySem.W PyProof.Rows PySem.Calls PyProof.V PySem.Spec
section
variable {prog : Program} {w : World} {A : Around} {E : Value → Shared → Prop} {s : Shared} {a L : Addr} {m : Str → Option Value} {T : String} {n : Nat} {Good : (Nat → Value → Prop) → Prop} {OK : Heap → Prop}
theorem sorted_tupS {M : List Addr} {key : Addr → List Int} {Q : Value → Shared → Prop} (C : Src prog w T a n Good OK) (hh : A.handled = none) (n2 : 2 ≤ n) (n64 : n < 64) (hok : OK s.heap) (hNs : s.heap.Ns L m)
    (hi : ∀ P acc, Good P → ItemsOf P acc n → ∃ as : List Addr, acc.toList = as.map Value.ref ∧ List.Perm as M)
    (ht : ∀ b ∈ M, b ≠ L ∧ key b ≠ [] ∧ ∃ us : List Value, s.heap.IsTuple b us.toArray ∧ IntsAre us (key b))
    (q : ∀ D c h' dr tk (as : List Addr), s.heap.get? D = none → D ≠ L → (∀ b o, b ≠ L → s.heap.get? b = some o → h'.get? b = some o) → h'.Ns L m → List.Perm as M → (as.map key).Pairwise (fun x y => PyZ.ltB y x = false) → h'.get? D = some (W.listOf (as.map Value.ref).toArray c) → Q (.ref D) { s with heap := h', drawn := dr, toks := tk }) :
    wpAny (model prog w) A (call (.builtin "sorted") [.ref a]) Q E s := by
  have hz : n ≤ sizeLine := by have : (16777216 : Nat) = sizeLine := by decide
                               omega
  refine call_function_entry kind_sorted plain_sorted entry_sorted (args_sorted1 _) ?_
  unfold Builtin.«sorted»
  refine wpAny_bind (m := checkCount "sorted" 1 1 _) (wpAny_pure ?_)
  refine wpAny_bind (src_collect (A := A.in1) C hh hz hok fun h1 dr tk acc P hgt hk hg hacc => ?_)
  obtain ⟨as, ea, hperm⟩ := hi P acc hg hacc
  have hl : as.length = n := by rw [← List.length_map (f := Value.ref), ← ea, Array.length_toList]; exact hacc.1
  rw [ea]
  have lv : (as.map Value.ref).length = as.length := List.length_map ..
  refine wpAny_bind (wpAny_newList ?_ (by rw [lv, hl]; exact hz))
  have hLs : L < s.heap.objs.size := hNs.lt
  have hL : L < h1.objs.size := Nat.lt_trans hLs hgt
  have hNs1 : h1.Ns L m := hNs.keeps hk
  obtain ⟨h2, hh2⟩ : ∃ h2, h2 = h1.push { cls := .type "list", data := .seq (as.map Value.ref).toArray } := ⟨_, rfl⟩
  have hoL : h2.get? h1.objs.size = some (seqObj "list" (as.map Value.ref).toArray 0) := by rw [hh2]; exact Heap.get?_push_size _ rfl
  have hk2 : ∀ b o, h1.get? b = some o → h2.get? b = some o := fun b o e => by rw [hh2]; exact Heap.get?_push_of_some _ e
  have hNs2 : h2.Ns L m := hNs1.keeps hk2
  have hbig : ∀ b o, h2.get? b = some o → b ≠ h1.objs.size → b < h1.objs.size := fun b o e ne => by
    have := Heap.lt_size e
    rw [hh2, Heap.size_push] at this
    exact Nat.lt_of_le_of_ne (Nat.le_of_lt_succ this) ne
  show wpAny _ _ _ _ _ { s with heap := h1.push { cls := .type "list", data := .seq (as.map Value.ref).toArray }, drawn := dr, toks := tk }
  rw [← hh2]
  have fr : Fr (PyZ.cutH h2 L) L h2 m := by
    refine ⟨hNs2, fun b o e => ?_, ?_⟩
    · by_cases hb : b < L
      · rw [PyZ.cutH_get hb] at e; exact e
      · rw [PyZ.cutH_none (Nat.le_of_not_lt hb)] at e
        cases e
    · show (h2.objs.extract 0 L).size ≤ L
      rw [Array.size_extract, Nat.sub_zero]
      exact Nat.min_le_left ..
  have nw : News (PyZ.cutH h2 L) L h2 (PyZ.behind h1 L) := fun x hx => by
    obtain ⟨e1, e2⟩ := PyZ.mem_behind.mp hx
    exact ⟨hk2 _ _ e2, Nat.ne_of_gt e1, PyZ.cutH_none (Nat.le_of_lt e1)⟩
  have big : ∀ x ∈ PyZ.behind h1 L, x.1 < h1.objs.size := fun x hx => Heap.lt_size (PyZ.mem_behind.mp hx).2
  refine wpAny_bind (wpAny_holding (wpAny_call_entry slot_list_sort ⟨_, hoL, rfl⟩ entry_list_sort ?body (args_list_sort _)))
  case body =>
    refine W.kat_list_sort (s := { s with heap := h2, drawn := dr, toks := tk }) fr nw hoL (Nat.ne_of_gt hL) (PyZ.cutH_none (Nat.le_of_lt hL)) (fun x hx => Nat.ne_of_lt (big x hx)) (by rw [lv, hl]; exact n2) (by rw [lv, hl]; exact n64) fun e1 h' fr' nw' => ?_
    have kept : ∀ b o, b ≠ L → h1.get? b = some o → h'.get? b = some o := fun b o hb e => by
      rcases Nat.lt_or_ge b L with c1 | c1
      · exact fr'.keep b o (by rw [PyZ.cutH_get c1]; exact hk2 b o e)
      · exact (nw' (b, o) (List.mem_cons_of_mem _ (PyZ.mem_behind.mpr ⟨Nat.lt_of_le_of_ne c1 (Ne.symm hb), e⟩))).1
    obtain ⟨yss, hyss⟩ : ∃ yss, yss = as.map key := ⟨_, rfl⟩
    have hy : as.length = yss.length := by rw [hyss, List.length_map]
    have yat : ∀ i a, as[i]? = some a → yss[i]? = some (key a) := fun i a e => by rw [hyss, List.getElem?_map, e]; rfl
    have ht' : ∀ (i : Nat) a, as[i]? = some a → ∃ (us : List Value) (ys : List Int), yss[i]? = some ys ∧ h'.IsTuple a us.toArray ∧ IntsAre us ys ∧ ys ≠ [] := fun i a e => by
      obtain ⟨aL, ne, us, ⟨o, g1, g2⟩, ia⟩ := ht a (hperm.mem_iff.mp (List.mem_of_getElem? e))
      exact ⟨us, _, yat i a e, ⟨o, kept a o aL (hk a o g1), g2⟩, ia, ne⟩
    obtain ⟨fs, kt, fl, fi⟩ := PyZ.katTups as yss hy ht'
    obtain ⟨p, hp, hpm, hps⟩ := PyZ.sort_rows (yss := yss) (by omega)
    rw [← hy] at hp hpm
    have hpi : ∀ i ∈ p.toList, i < as.length := fun i hi => List.mem_range.mp (hpm.mem_iff.mp hi)
    have es : (p.toList.map fun i => (as.map Value.ref).getD i Value.none) = (p.toList.map fun i => as.getD i 0).map Value.ref := by
      rw [List.map_map]
      refine List.map_congr_left fun i hi => ?_
      have := hpi i hi
      show (as.map Value.ref).getD i Value.none = Value.ref (as.getD i 0)
      rw [List.getD_eq_getElem?_getD, List.getElem?_map, List.getElem?_eq_getElem this, List.getD_eq_getElem?_getD, List.getElem?_eq_getElem this]
      rfl
    have ekey : (p.toList.map fun i => as.getD i 0).map key = p.toList.map fun i => yss.getD i [] := by
      rw [List.map_map]
      refine List.map_congr_left fun i hi => ?_
      have := hpi i hi
      show key (as.getD i 0) = yss.getD i []
      rw [List.getD_eq_getElem?_getD, List.getElem?_eq_getElem this, List.getD_eq_getElem?_getD, yat i _ (List.getElem?_eq_getElem this)]
      rfl
    have pas : List.Perm (p.toList.map fun i => as.getD i 0) M := by
      refine List.Perm.trans ?_ hperm
      refine (hpm.map _).trans ?_
      have : ((List.range as.length).map fun i => as.getD i 0) = as := by
        refine List.ext_getElem? fun i => ?_
        rw [List.getElem?_map]
        by_cases c : i < as.length
        · rw [List.getElem?_range c, List.getElem?_eq_getElem c]
          show some (as.getD i 0) = _
          rw [List.getD_eq_getElem?_getD, List.getElem?_eq_getElem c]
          rfl
        · rw [List.getElem?_eq_none (by rw [List.length_range]; omega), List.getElem?_eq_none (by omega)]
          rfl
      rw [this]
    refine W.kat_kind (T := Value.type "int") kt (by omega) (fun v hv => ?_) (by decide +kernel) ?_
    · obtain ⟨n, t, rfl⟩ := fi v hv
      intro A Q E s' _ q
      exact wpAny_pure q
    · rw [lv]
      have kb : (Value.type "int" != Value.type "tuple") = true := by decide +kernel
      rw [kb]
      refine PyZ.kasWp_run (cmp := fun i j => PyZ.ltB (yss.getD i []) (yss.getD j [])) (fun i j C hi hj c => ?_) _ p _ hp ?_
      · unfold W.kas_ask
        obtain ⟨us, ys, e, ⟨o, g1, g2, n1, g3⟩, ia, _⟩ := ht' i as[i] (List.getElem?_eq_getElem hi)
        obtain ⟨us2, ys2, e2, ⟨o2, k1, k2, n2', k3⟩, ia2, _⟩ := ht' j as[j] (List.getElem?_eq_getElem hj)
        have v1 : (as.map Value.ref).getD i Value.none = .ref as[i] := by
          rw [List.getD_eq_getElem?_getD, List.getElem?_map, List.getElem?_eq_getElem hi]
          rfl
        have v2 : (as.map Value.ref).getD j Value.none = .ref as[j] := by
          rw [List.getD_eq_getElem?_getD, List.getElem?_map, List.getElem?_eq_getElem hj]
          rfl
        have w1 : yss.getD i [] = ys := by rw [List.getD_eq_getElem?_getD, e]; rfl
        have w2 : yss.getD j [] = ys2 := by rw [List.getD_eq_getElem?_getD, e2]; rfl
        rw [v1, v2]
        refine W.kat_lt g1 g3 k1 k3 ?_
        have il : ∀ {us : List Value} {ys : List Int}, IntsAre us ys → us.length = ys.length := fun {us ys} h => by
          induction h with
          | nil => rfl
          | cons _ _ _ ih => rw [List.length_cons, List.length_cons, ih]
        refine PyZ.katLex us us2 ys ys2 0 ia ia2 ?_
        rw [w1, w2] at c
        unfold PyZ.ltB at c
        rw [List.size_toArray, List.size_toArray, il ia, il ia2]
        exact c
      · refine ⟨_, _, fr', nw', W.UpdF.head (fun x hx => Nat.ne_of_lt (big x hx)), fun h'' c fr'' nw'' => ?_⟩
        refine ⟨_, rfl, wpAny_pure ⟨_, rfl, ?_⟩⟩
        have hD := (nw'' _ (List.mem_cons_self ..)).1
        rw [es] at hD
        refine q h1.objs.size c h'' dr tk _ (Heap.get?_none_of_le (Nat.le_of_lt hgt)) (Nat.ne_of_gt hL) (fun b o hb e => ?_) fr''.ns pas (by rw [ekey]; exact hps) hD
        rcases Nat.lt_or_ge b L with c1 | c1
        · exact fr''.keep b o (by rw [PyZ.cutH_get c1]; exact hk2 b o (hk b o e))
        · exact (nw'' (b, o) (List.mem_cons_of_mem _ (PyZ.mem_behind.mpr ⟨Nat.lt_of_le_of_ne c1 (Ne.symm hb), hk b o e⟩))).1
end
section
variable {prog : Program} {w : World} {A : Around} {E : Value → Shared → Prop} {s : Shared} {a L : Addr} {m : Str → Option Value} {T : String} {n : Nat} {Good : (Nat → Value → Prop) → Prop} {OK : Heap → Prop}
theorem sorted_smallS {M : List Addr} {Q : Value → Shared → Prop} (C : Src prog w T a n Good OK) (hh : A.handled = none) (n2 : n < 2) (hok : OK s.heap)
    (hi : ∀ P acc, Good P → ItemsOf P acc n → ∃ as : List Addr, acc.toList = as.map Value.ref ∧ List.Perm as M)
    (q : ∀ D c h' dr tk (as : List Addr), s.heap.objs.size ≤ D → (∀ b o, s.heap.get? b = some o → h'.get? b = some o) → List.Perm as M → h'.get? D = some (seqObj "list" (as.map Value.ref).toArray c) → Q (.ref D) { s with heap := h', drawn := dr, toks := tk }) :
    wpAny (model prog w) A (call (.builtin "sorted") [.ref a]) Q E s := by
  have hz : n ≤ sizeLine := by have : (16777216 : Nat) = sizeLine := by decide
                               omega
  refine call_function_entry kind_sorted plain_sorted entry_sorted (args_sorted1 _) ?_
  unfold Builtin.«sorted»
  refine wpAny_bind (m := checkCount "sorted" 1 1 _) (wpAny_pure ?_)
  refine wpAny_bind (src_collect (A := A.in1) C hh hz hok fun h1 dr tk acc P hgt hk hg hacc => ?_)
  obtain ⟨as, ea, hperm⟩ := hi P acc hg hacc
  have hl : as.length = n := by rw [← List.length_map (f := Value.ref), ← ea, Array.length_toList]; exact hacc.1
  rw [ea]
  have lv : (as.map Value.ref).length = as.length := List.length_map ..
  refine wpAny_bind (wpAny_newList ?_ (by rw [lv, hl]; exact hz))
  have ho : (h1.push { cls := .type "list", data := .seq (as.map Value.ref).toArray }).get? h1.objs.size = some (seqObj "list" (as.map Value.ref).toArray 0) := Heap.get?_push_size _ rfl
  refine wpAny_bind (wpAny_holding (wpAny_call_entry slot_list_sort ⟨_, ho, rfl⟩ entry_list_sort (PyZ.sort_small ho (by rw [lv]; omega) ⟨_, rfl, ?_⟩) (args_list_sort _)))
  refine wpAny_pure ⟨_, rfl, ?_⟩
  have o1 := get?_update_seq ho (fun _ => (#[] : Array Value))
  have o2 := Heap.get?_push_of_some (seqObj "tuple" (as.map Value.ref).toArray 0) o1
  have o3 := Heap.get?_push_of_some (seqObj "list" #[] 0) o2
  have o4 := get?_update_seq o3 (fun _ => (as.map Value.ref).toArray)
  refine q h1.objs.size _ _ dr tk as (Nat.le_of_lt hgt) (fun b o e => ?_) hperm o4
  have hb : b ≠ h1.objs.size := Nat.ne_of_lt (Nat.lt_trans (Heap.lt_size e) hgt)
  unfold sortedHeap
  rw [Heap.get?_update_other _ _ (Ne.symm hb)]
  refine Heap.get?_push_of_some _ (Heap.get?_push_of_some _ ?_)
  rw [Heap.get?_update_other _ _ (Ne.symm hb)]
  exact Heap.get?_push_of_some _ (hk b o e)
def SetW (w : World) (h : Heap) (a : Addr) (M : List Addr) : Prop := ∃ es ep t, SAt h a es ep t ∧ Wk t (!w.params.followText "set-order") ∧ List.Perm (vals es) (M.map Value.ref)
theorem SetW.of {key : Addr → List Int} {h : Heap} {M : List Addr} (X : SetT prog w key h a M) : SetW w h a M := by
 obtain ⟨es, ep, t, X, p⟩ := X
 exact ⟨es, ep, t, X.at_, ⟨X.t3.rise, X.t3.dum, X.led⟩, p⟩
theorem SetW.keep {h h' : Heap} {M : List Addr} (X : SetW w h a M) (k : ∀ o, h.get? a = some o → h'.get? a = some o) : SetW w h' a M := by
 obtain ⟨es, ep, t, S, r⟩ := X
 exact ⟨es, ep, t, S.keep k, r⟩
end
end PyS
namespace L2
open PySem PySem.Spec PyProof.Rows
def setOT (w : World) (a : Addr) (M : List Addr) : HO := .ext fun h => PyS.SetW w h a M
def numO : V → Int
 | .int k => k
 | _ => 0
def rowOf (H : Hp) (b : Addr) : List Int := match H b with
 | some (.tup xs) => xs.map numO
 | _ => []
theorem rowOf_eq {H : Hp} {b : Addr} {ys : List Int} (h : H b = some (.tup (ys.map V.int))) : rowOf H b = ys := by
 unfold rowOf
 rw [h]
 show (ys.map V.int).map numO = ys
 rw [List.map_map]
 exact List.map_id' _
section
variable {X : Cx} {pins : List (Addr × Obj)} {σ : L2.St} {H : Hp} {s : Shared}
theorem items_of {P : Program} {w : World} : ∀ {ks : List Int} {us : List Value}, Vals (ks.map V.int) us → ItemsAre (intKind P w) ks us
 | [], _, r => by rw [List.map_nil] at r; cases r; exact .nil
 | k :: ks, _, r => by
  rw [List.map_cons] at r
  cases r with
  | cons h t =>
   obtain ⟨tk, rfl⟩ := (show ∃ t, _ = Value.int k t from h)
   exact .cons (intKind_is _ _ _ _) (items_of t)
theorem tk_of (I : Inv X pins σ H s) {b : Addr} {ys : List Int} (h : H b = some (.tup (ys.map V.int))) : PyS.TK X.prog X.w s.heap ys b := by
 obtain ⟨its, rv, ⟨o, e, c, n, d⟩, _⟩ := I.tuple (.of h)
 exact ⟨o, _, n, e, c, d, by simpa using items_of rv⟩
theorem call_setTs (hc : X.calm = true) (hu : X.A.units + 64 < cLine) : CallR X (.type "set") (fun xs H Q => ∃ (a : Addr) (bs : List Addr), xs = [.ref a] ∧ H a = some (.lst (bs.map V.ref)) ∧ bs.length ≤ 60 ∧ (∀ b ∈ bs, ∃ ys : List Int, H b = some (.tup (ys.map V.int))) ∧ ∀ p, H p = none → Q (.ref p) (upd H p (setOT X.w p (PyS.metA (rowOf H) bs)))) := by
 intro pins s σ H xs us Q I r h
 obtain ⟨a, bs, rfl, ha, hn, ht, q⟩ := h
 obtain ⟨u, rfl, ru⟩ := vals1 r
 cases ru
 obtain ⟨its, rv, p, hz⟩ := I.list (.of ha)
 have ei := vals_refs rv
 subst ei
 refine PyS.set_of_tups (key := rowOf H) (bs := bs) (by omega) (I.ok.hd hc) p.isList (by simp) (by omega) (fun b hb => ?_) fun h' tk ⟨e1, e2⟩ => ?_
 ·obtain ⟨ys, hy⟩ := ht b hb
  rw [rowOf_eq hy]
  exact tk_of I hy
 ·have e1 := PyS.SetW.of e1
  refine ⟨.ref _, _, I.laid (a := s.heap.objs.size) (o := setOT X.w s.heap.objs.size (PyS.metA (rowOf H) bs)) (t' := tk) (fun b o e => e2 b o (Heap.lt_size e) e) (Nat.le_refl _) ⟨e1, ?_, fun h1 h2 x k => x.keep k⟩, rfl, q _ (I.hok.fresh (Nat.le_refl _))⟩
  obtain ⟨es, ep, t, ⟨o, e, _⟩, _⟩ := e1
  exact ⟨o, e⟩
theorem call_sortST (hc : X.calm = true) : CallR X (.builtin "sorted") (fun xs H Q => ∃ (a : Addr) (M : List Addr), xs = [.ref a] ∧ H a = some (setOT X.w a M) ∧ M.length < 64 ∧ (∀ b ∈ M, ∃ ys : List Int, ys ≠ [] ∧ H b = some (.tup (ys.map V.int))) ∧
  ∀ l as, H l = none → List.Perm as M → (as.map (rowOf H)).Pairwise (fun x y => PyZ.ltB y x = false) → Q (.ref l) (upd H l (.lst (as.map V.ref)))) := by
 intro pins s σ H xs us Q I r h
 obtain ⟨a, M, rfl, ha, h64, ht, q⟩ := h
 obtain ⟨u, rfl, ru⟩ := vals1 r
 cases ru
 obtain ⟨X0, _, _⟩ := (show ObjOk X.prog X.w H s.heap a (setOT X.w a M) from I.hok a _ ha)
 obtain ⟨es, ep, t, S, wk, pm⟩ := X0
 have hsz : es.size = M.length := by
  have := pm.length_eq
  unfold PyS.vals at this
  rwa [List.length_map, List.length_map, Array.length_toList] at this
 have szl : (16777216 : Nat) = sizeLine := by decide
 have C := PyS.src_set (prog := X.prog) (w := X.w) (a := a) (ep := ep) (es := es) (t := t) (by omega) wk
 have hi : ∀ P acc, (∃ L : List Value, List.Perm L (PyS.vals es) ∧ P = fun i v => L[i]? = some v) → ItemsOf P acc es.size → ∃ as : List Addr, acc.toList = as.map Value.ref ∧ List.Perm as M := fun P acc hg hacc => by
  obtain ⟨L, hp, rfl⟩ := hg
  have e := PyS.items_eq (by rw [hp.length_eq]; unfold PyS.vals; rw [List.length_map, Array.length_toList]) hacc
  rw [e]
  have hp' := hp.trans pm
  clear e hacc hp
  have hr : ∀ v ∈ L, ∃ b, v = Value.ref b := fun v hv => by
   obtain ⟨b, _, e⟩ := List.mem_map.mp (hp'.mem_iff.mp hv)
   exact ⟨b, e.symm⟩
  obtain ⟨as, rfl⟩ : ∃ as : List Addr, L = as.map Value.ref := by
   clear hp'
   induction L with
   | nil => exact ⟨[], rfl⟩
   | cons v L ih =>
    obtain ⟨as, e⟩ := ih fun v hv => hr v (List.mem_cons_of_mem _ hv)
    obtain ⟨b, rfl⟩ := hr v List.mem_cons_self
    exact ⟨b :: as, by rw [e]; rfl⟩
  refine ⟨as, rfl, ?_⟩
  have := hp'.map (fun v => match v with | Value.ref b => b | _ => 0)
  rw [List.map_map, List.map_map] at this
  have e1 : as.map ((fun v => match v with | Value.ref b => b | _ => 0) ∘ Value.ref) = as := List.map_id' _
  have e2 : M.map ((fun v => match v with | Value.ref b => b | _ => 0) ∘ Value.ref) = M := List.map_id' _
  rwa [e1, e2] at this
 have neL : ∀ {a : Addr} {o : HO}, H a = some o → a ≠ X.env.locals := fun {a o} e z => by rw [z, I.free] at e; cases e
 obtain ⟨m, hm, hlk⟩ := id I.loc
 by_cases n2 : es.size < 2
 ·refine PyS.sorted_smallS C (I.ok.hd hc) n2 S hi fun D c h' dr tk as hD kp pas hD' => ?_
  have hll : as.length < 2 := by rw [pas.length_eq, ← hsz]; exact n2
  refine ⟨.ref D, _, (I.laid (a := D) (o := .lst (as.map V.ref)) (t' := tk) kp hD ⟨by rw [List.length_map]; omega, as.map Value.ref, c, refs_vals as, hD'⟩).drawn dr, rfl, q _ as (I.hok.fresh hD) pas ?_⟩
  match as, hll with
  | [], _ => exact List.Pairwise.nil
  | [_], _ => exact List.pairwise_singleton _ _
 ·refine PyS.sorted_tupS (key := rowOf H) C (I.ok.hd hc) (by omega) (by omega) S hm hi (fun b hb => ?_) fun D c h' dr tk as dn dL kept hn' pas hso hD => ?_
  ·obtain ⟨ys, ne, hy⟩ := ht b hb
   obtain ⟨us, rv', pt, _⟩ := I.tuple (.of hy)
   rw [rowOf_eq hy]
   exact ⟨neL hy, ne, us, pt, vals_intsA rv'⟩
  ·have hll : as.length < 64 := by rw [pas.length_eq]; exact h64
   obtain ⟨I', hH⟩ := I.newL (ys := as.map V.ref) hm hlk dn dL kept hn' (by rw [List.length_map]; omega) (refs_vals _) hD
   exact ⟨.ref D, _, (I'.kept (t' := tk) fun b o e => e).drawn dr, rfl, q D as hH pas hso⟩
theorem setTK (w : World) (hc : X.calm = true) (hu : X.A.units + 64 < cLine) (hw : X.w = w := by rfl) : CallR X (.type "set") (fun xs H Q => ∃ (a : Addr) (bs : List Addr), xs = [.ref a] ∧ H a = some (.lst (bs.map V.ref)) ∧ bs.length ≤ 60 ∧ (∀ b ∈ bs, ∃ ys : List Int, H b = some (.tup (ys.map V.int))) ∧ ∀ p, H p = none → Q (.ref p) (upd H p (setOT w p (PyS.metA (rowOf H) bs)))) := hw ▸ call_setTs hc hu
theorem sortSTK (w : World) (hc : X.calm = true) (hw : X.w = w := by rfl) : CallR X (.builtin "sorted") (fun xs H Q => ∃ (a : Addr) (M : List Addr), xs = [.ref a] ∧ H a = some (setOT w a M) ∧ M.length < 64 ∧ (∀ b ∈ M, ∃ ys : List Int, ys ≠ [] ∧ H b = some (.tup (ys.map V.int))) ∧
  ∀ l as, H l = none → List.Perm as M → (as.map (rowOf H)).Pairwise (fun x y => PyZ.ltB y x = false) → Q (.ref l) (upd H l (.lst (as.map V.ref)))) := hw ▸ call_sortST hc
end
section
variable {X : Cx}
theorem call_sortI (K : PySem.W.Frag) (hK : X.K = K := by rfl) : CallR X (.builtin "sorted") (fun xs H Q => ∃ (a : Addr) (ns : List Int), xs = [.ref a] ∧ SqL K H a (ns.map V.int) ∧ ns.length < 64 ∧ ∀ l ns', H l = none → List.Perm ns' ns → ns'.Pairwise (· ≤ ·) → Q (.ref l) (upd H l (.lst (ns'.map V.int)))) := by
 subst hK
 intro pins s σ H xs us Q I r h
 obtain ⟨a, ns, rfl, hq, h64, q⟩ := h
 obtain ⟨u, rfl, ru⟩ := vals1 r
 cases ru
 obtain ⟨its, rv, p, hz⟩ := I.list hq
 have hl : its.length = ns.length := by rw [← rv.length, List.length_map]
 have szl : (16777216 : Nat) = sizeLine := by decide
 refine sorted_ints p.isList (ns := ns) (ints_of rv) (by omega) fun out ns' h1 h2 h3 => ?_
 obtain ⟨e1, he⟩ := sortedAll_at s.heap its out
 have old : ∀ b o, s.heap.get? b = some o → (sortedAll s.heap its out).get? b = some o := fun b o e => sortedAll_old e
 generalize sortedAll s.heap its out = h' at he old ⊢
 have hle : s.heap.objs.size ≤ s.heap.objs.size + 1 := Nat.le_succ _
 generalize s.heap.objs.size + 1 = D at he hle ⊢
 have fin := q D ns' (I.hok.fresh hle) h2 h3
 have I' : Inv X pins σ (upd H D (.lst (ns'.map V.int))) { s with heap := h', toks := s.toks } := I.laid (a := D) (o := .lst (ns'.map V.int)) (t' := s.toks) old hle ⟨by rw [List.length_map, h2.length_eq]; omega, out.toList, e1, vals_ia h1, by simpa using he⟩
 exact ⟨.ref D, _, I', rfl, fin⟩
end
end L2
namespace Tb
open Pm
section
variable {t : List (List Nat)} {o : List Nat}
def nJ (l : List Nat) : List Int := l.map fun k : Nat => (k : Int)
theorem nJ_inj {a b : List Nat} (h : nJ a = nJ b) : a = b := by
 have := congrArg (List.map Int.toNat) h
 unfold nJ at this
 rw [List.map_map, List.map_map] at this
 have e : ∀ l : List Nat, l.map (Int.toNat ∘ fun k : Nat => (k : Int)) = l := fun l => by
  have : (Int.toNat ∘ fun k : Nat => (k : Int)) = id := funext fun k => Int.toNat_natCast k
  rw [this, List.map_id]
 rwa [e, e] at this
structure SidOk (t : List (List Nat)) (o : List Nat) (rss : List (List Nat)) : Prop where
 pm : rss.Perm (cosU t o t.length)
 so : rss.Pairwise fun a b => PyZ.ltB (nJ b) (nJ a) = false
theorem SidOk.uniq {a b : List (List Nat)} (x : SidOk t o a) (y : SidOk t o b) : a = b :=
 List.Perm.eq_of_pairwise (fun p q _ _ h1 h2 => nJ_inj (PyZ.ltB_tot h2 h1)) x.so y.so (x.pm.trans y.pm.symm)
theorem cosU_iff {r : List Nat} : r ∈ cosU t o t.length ↔ ∃ a, a < t.length ∧ r = sC t o a :=
 ⟨cosU_of _ r, fun ⟨a, ha, e⟩ => e ▸ cosU_all _ _ ha⟩
theorem SidOk.mk' {rss : List (List Nat)} (nd : rss.Nodup) (hm : ∀ r, r ∈ rss ↔ ∃ a, a < t.length ∧ r = sC t o a) (so : rss.Pairwise fun a b => PyZ.ltB (nJ b) (nJ a) = false) : SidOk t o rss :=
 ⟨(List.perm_ext_iff_of_nodup nd (cosU_nd _)).mpr fun r => (hm r).trans cosU_iff.symm, so⟩
theorem raw_nodup (P : PW t) (S : Sub t o) {a : Nat} (ha : a < t.length) : (o.map (mul t a)).Nodup := by
 refine List.Pairwise.map _ (R := fun x y => x ≠ y ∧ x < t.length ∧ y < t.length) (fun x y h e => h.1 (lcan P ha h.2.1 h.2.2 e)) ?_
 exact List.pairwise_and_iff.mpr ⟨S.nd, List.pairwise_of_forall_mem_list fun x hx y hy => ⟨S.lt x hx, S.lt y hy⟩⟩
theorem sC_perm (P : PW t) (S : Sub t o) {a : Nat} (ha : a < t.length) : (sC t o a).Perm (o.map (mul t a)) := by
 refine (List.perm_ext_iff_of_nodup ((sC_sort a).imp fun h => Nat.ne_of_lt h) (raw_nodup P S ha)).mpr fun x => ?_
 rw [sC_mem, List.mem_map]
 constructor
 ·rintro ⟨_, h, hh, e⟩
  exact ⟨h, hh, e⟩
 ·rintro ⟨h, hh, e⟩
  exact ⟨e ▸ P.lt _ _ ha (S.lt h hh), h, hh, e⟩
theorem sC_len (P : PW t) (S : Sub t o) {a : Nat} (ha : a < t.length) : (sC t o a).length = o.length := by
 rw [(sC_perm P S ha).length_eq, List.length_map]
theorem SidOk.row {rss : List (List Nat)} (x : SidOk t o rss) {r : List Nat} (h : r ∈ rss) : ∃ a, a < t.length ∧ r = sC t o a := cosU_of _ r (x.pm.mem_iff.mp h)
end
end Tb
namespace C28
open PySem L2 PySem.Spec PyProof.Rows
open Tb Pm
abbrev sSides : Stmt := top 5
def spSides (K : PySem.W.Frag) : Sp := fun vs H Q _ => ∃ (g a : Addr) (t : List (List Nat)) (o : List Nat), vs = [.ref g, .ref a] ∧ GT H g t ∧ PW t ∧ Sub t o ∧ SqT K H a (o.map nV) ∧ ∀ r rss H', Same H H' → SidOk t o rss → CT H' r rss → Q (.ref r) H'
theorem rng_nI {o : List Nat} (f : Nat → Nat) (ol : (o.map nV).length = o.length) : (List.range (o.map nV).length).map (fun j => nV (f (o.getD j 0))) = (nI (o.map f)).map V.int := by
 rw [ol, nI_V, List.map_map]
 refine List.ext_getElem? fun j => ?_
 rw [List.getElem?_map, List.getElem?_map]
 by_cases hj : j < o.length
 ·rw [List.getElem?_range hj, getD_lt hj]; rfl
 ·rw [List.getElem?_eq_none (by rw [List.length_range]; omega), List.getElem?_eq_none (by omega)]; rfl
theorem sorted_side {t : List (List Nat)} {o : List Nat} (Pt : PW t) (S : Sub t o) {i : Nat} (hi : i < t.length) {ns : List Int} (hp : List.Perm ns (nI (o.map (mul t i)))) (hs : ns.Pairwise (· ≤ ·)) : ns.map V.int = (sC t o i).map nV :=
 sort_is hp hs (by
  unfold nI
  exact List.Pairwise.map _ (fun x y (h : x ≠ y) e => h (by omega)) (raw_nodup Pt S hi)) (fun k => by
  unfold nI
  rw [List.map_map, List.mem_map]
  constructor
  ·rintro ⟨h, hh, rfl⟩
   exact ⟨mul t i h, sC_mem.mpr ⟨Pt.lt _ _ hi (S.lt h hh), h, hh, rfl⟩, rfl⟩
  ·rintro ⟨x, hx, rfl⟩
   obtain ⟨_, h, hh, rfl⟩ := sC_mem.mp hx
   exact ⟨h, hh, rfl⟩) (sC_sort i)
section
variable {P : Program} {w : World} {K : PySem.W.Frag} {mg : Str → Option Value} {base : Heap}
theorem scSides : FnScope ["group", "part", "found"] ["group", "part"] (defScope sSides) := FS
theorem ok_sides {f : Addr} {fd : FuncData} (F : Fun K "sides" "sides" sSides f fd) (T : Bl mg) (T2 : BlS2 mg) : FnOk P w K mg base CX0 1 f fd ["group", "part"] (spSides K) := by
 refine F.ok scSides (fun vs H Q E h => ?_) (fun cdv A outer s H vs Q E hr h => ?_)
 ·obtain ⟨g, a, t, o, rfl, _⟩ := h; rfl
 ·obtain ⟨g, pa, t, o, rfl, G, Pt, S, ha, q⟩ := h
  refine ⟨_, pss_cons (setc 2 ["row"] [1] ["row", "part"] rfl rfl (itT K (vn 0)) (fun _ _ _ _ _ => gnf 0 rfl) (fun _ _ _ _ _ => pif_nil)
    (fun _ _ _ _ _ => ct (tupK K) (by exact T.tuple) (pc (cb (call_sortI K) (by exact T2.sorted) (pc (cmp ["h"] [0] ["h", "row"] rfl (itT K (vn 1)) (fun _ _ _ _ _ => gn 0) (fun _ _ _ _ _ => pif_nil) (fun _ _ _ _ _ => pe_ix (ixT K) (vn 1) (vn 0) (fun _ _ => rfl))) pa_nil)) pa_nil)))
   (pss_one (ps_ret (ct call_tuple_of T.tuple (pc (cb (sortSTK w rfl) T2.sorted (pc (ct (setTK w rfl hr.units) T.set (pc (vn 2) pa_nil)) pa_nil)) pa_nil)))), ?_⟩
  have sz : (16777216 : Nat) = sizeLine := by decide
  have n1 := Pt.n1
  have n60 := Pt.n60
  have o60 : o.length ≤ 60 := by have := nd_le _ _ S.nd S.lt; omega
  have ol : (o.map nV).length = o.length := List.length_map ..
  obtain ⟨rs, g1, g2, g3⟩ := id G
  have rl : (rs.map V.ref).length = t.length := by rw [List.length_map, g2]
  refine ⟨_, rfl, g, rfl, ⟨_, .of g1⟩, ?_⟩
  refine comp_new (W := Addr) id (fun i b H => H b = some (.tup ((sC t o i).map nV))) (fun _ _ => True) (seq_tup (K := K) (.of g1)) [some (.ref pa)] rfl (by omega) (fun i w H H' s h => s _ _ h) (fun _ _ _ _ h => h) (fun i w H0 H1 D o' ys ys' h h0 h1 h2 => ?_) (fun i y hy H1 s1 R k => ?_) (fun D bs H1 nD s1 hD wl hw _ => ?_)
  ·rw [upd_ne fun z => by rw [z, h2] at h; cases h]
   exact h
  ·rw [List.getElem?_map] at hy
   cases er : rs[i]? with
   | none => rw [er] at hy; cases hy
   | some r =>
    rw [er] at hy
    cases hy
    have hi : i < t.length := by rw [← g2]; exact (List.getElem?_eq_some_iff.mp er).1
    have hr1 := (g3 i r er).mono s1
    have ha1 := s1.tup ha
    refine ⟨_, rfl, pa, rfl, ⟨_, ha1⟩, ?_⟩
    refine comp_idx (seq_tup (K := K) ha1) [some (.ref r)] rfl (fun j => nV (mul t i (o.getD j 0))) (by rw [ol]; omega) (fun j y hy H2 s2 R k => ?_) (fun L H2 nL s2 hL => ?_)
    ·obtain ⟨x, hx, rfl⟩ := nV_get hy
     have hxl := S.lt x (List.mem_of_getElem? hx)
     have ox : o.getD j 0 = x := by rw [List.getD_eq_getElem?_getD, hx]; rfl
     have fin := k H2 (Same.refl _)
     rw [ox] at fin
     refine ⟨_, rfl, _, rfl, r, _, _, _, rfl, rfl, (hr1.mono s2).sq, ?_, fin⟩
     refine atI_nat ?_
     rw [List.getElem?_map, getD_lt (by rw [row_len Pt hi]; exact hxl)]
     rfl
    ·rw [rng_nI (mul t i) ol] at hL
     refine ⟨L, _, rfl, .of hL, by unfold nI; rw [List.length_map, List.length_map]; omega, fun Rr ns nRr hp hs => ?_⟩
     rw [sorted_side Pt S hi hp hs]
     have s3 := Same.upd (H := H2) (o := .lst ((sC t o i).map nV)) nRr
     refine ⟨Rr, _, rfl, .inl ⟨.of upd_same, fun l nl => ?_⟩⟩
     exact k l _ ((s2.trans s3).trans (Same.upd nl)) upd_same trivial
  ·have hD : H1 D = some (.lst (bs.map V.ref)) := hD
   rw [rl] at wl
   have hb : ∀ (i : Nat) b, bs[i]? = some b → i < t.length ∧ H1 b = some (.tup ((nI (sC t o i)).map V.int)) := fun i b e => by
    rw [nI_V]
    exact ⟨by rw [← wl]; exact (List.getElem?_eq_some_iff.mp e).1, (hw i b e).1⟩
   have hm : ∀ b ∈ bs, ∃ i, i < t.length ∧ H1 b = some (.tup ((nI (sC t o i)).map V.int)) := fun b e => by
    obtain ⟨i, hi⟩ := List.getElem?_of_mem e
    exact ⟨i, hb i b hi⟩
   refine ⟨_, rfl, D, bs, rfl, hD, by omega, fun b e => (hm b e).elim fun i h => ⟨_, h.2⟩, fun p np => ?_⟩
   have MO := PyS.met_ok (rowOf H1) bs
   generalize PyS.metA (rowOf H1) bs = M at MO ⊢
   have s2 := Same.upd (H := H1) (o := setOT w p M) np
   have h2 := upd_same (H := H1) (a := p) (o := setOT w p M)
   generalize upd H1 p (setOT w p M) = H2 at s2 h2 ⊢
   have hm2 : ∀ b ∈ M, ∃ i, i < t.length ∧ H2 b = some (.tup ((nI (sC t o i)).map V.int)) ∧ rowOf H1 b = nI (sC t o i) ∧ rowOf H2 b = nI (sC t o i) := fun b e => by
    obtain ⟨i, hi, h⟩ := hm b (MO.sub b e)
    exact ⟨i, hi, s2 _ _ h, rowOf_eq h, rowOf_eq (s2 _ _ h)⟩
   refine ⟨p, M, rfl, h2, by have := MO.len; omega, fun b e => ?_, fun l as nl pas hso => ?_⟩
   ·obtain ⟨i, hi, h, _⟩ := hm2 b e
    refine ⟨_, fun z => ?_, h⟩
    have := List.length_pos_of_mem (sC_self Pt S hi)
    have z := congrArg List.length z
    unfold nI at z
    rw [List.length_map, List.length_nil] at z
    omega
   ·have s3 := Same.upd (H := H2) (o := .lst (as.map V.ref)) nl
    refine ⟨l, _, rfl, .inl ⟨.of upd_same, fun r nr => ?_⟩⟩
    have s4 := s3.trans (Same.upd (H := upd H2 l (.lst (as.map V.ref))) (o := .tup (as.map V.ref)) nr)
    have hma : ∀ b ∈ as, ∃ i, i < t.length ∧ H2 b = some (.tup ((nI (sC t o i)).map V.int)) ∧ rowOf H1 b = nI (sC t o i) ∧ rowOf H2 b = nI (sC t o i) := fun b e => hm2 b (pas.mem_iff.mp e)
    have enat : ∀ b ∈ as, nJ ((rowOf H2 b).map Int.toNat) = rowOf H2 b := fun b e => by
     obtain ⟨i, _, _, _, e2⟩ := hma b e
     rw [e2]
     unfold nJ nI
     rw [List.map_map, List.map_map]
     exact List.map_congr_left fun k _ => rfl
    have erow : ∀ b ∈ as, ∃ i, i < t.length ∧ (rowOf H2 b).map Int.toNat = sC t o i := fun b e => by
     obtain ⟨i, hi, _, _, e2⟩ := hma b e
     refine ⟨i, hi, nJ_inj ?_⟩
     rw [enat b e, e2]
     rfl
    refine q r (as.map fun b => (rowOf H2 b).map Int.toNat) _ ((s1.trans s2).trans s4) ?_ ?_
    ·refine SidOk.mk' ?_ (fun r => ?_) ?_
     ·have nd : (as.map (rowOf H1)).Nodup := (pas.map _).nodup_iff.mpr MO.nd
      refine List.pairwise_map.mpr ((List.Pairwise.and_mem.mp (List.pairwise_map.mp nd)).imp fun {x y} ⟨hx, hy, hne⟩ z => hne ?_)
      obtain ⟨i, _, _, e1, e2⟩ := hma x hx
      obtain ⟨j, _, _, e3, e4⟩ := hma y hy
      rw [e1, e3, ← e2, ← e4, ← enat x hx, ← enat y hy, z]
     ·rw [List.mem_map]
      constructor
      ·rintro ⟨b, hb, rfl⟩
       exact erow b hb
      ·rintro ⟨i, hi, rfl⟩
       have e : bs[i]? = some (bs[i]'(by omega)) := List.getElem?_eq_getElem (by omega)
       obtain ⟨_, h⟩ := hb i _ e
       obtain ⟨c, hc, ek⟩ := MO.all _ (List.mem_of_getElem? e)
       rw [rowOf_eq h] at ek
       have hc' := pas.mem_iff.mpr hc
       refine ⟨c, hc', nJ_inj ?_⟩
       rw [enat c hc']
       obtain ⟨j, _, _, e3, e4⟩ := hma c hc'
       rw [e4, ← e3, ek]
       rfl
     ·refine List.pairwise_map.mpr ((List.Pairwise.and_mem.mp (List.pairwise_map.mp hso)).imp fun {x y} ⟨hx, hy, hlt⟩ => ?_)
      rw [enat x hx, enat y hy]
      exact hlt
    ·refine ⟨as, upd_same, by rw [List.length_map], fun i b e => ?_⟩
     have hbm := List.mem_of_getElem? e
     obtain ⟨j, _, h, _, e2⟩ := hma b hbm
     have er : (as.map fun b => (rowOf H2 b).map Int.toNat).getD i [] = (rowOf H2 b).map Int.toNat := by rw [List.getD_eq_getElem?_getD, List.getElem?_map, e]; rfl
     rw [er]
     have : ((rowOf H2 b).map Int.toNat).map nV = (nI (sC t o j)).map V.int := by
      rw [← nI_V]
      have := enat b hbm
      show (nJ ((rowOf H2 b).map Int.toNat)).map V.int = _
      rw [this, e2]
     rw [this]
     exact s4 _ _ h
end
abbrev sSideR : Stmt := top 25
abbrev sOnS : Stmt := top 13
def spSideR (K : PySem.W.Frag) : Sp := fun vs H Q _ => ∃ (g a : Addr) (t : List (List Nat)) (o : List Nat), vs = [.ref g, .ref a] ∧ GT H g t ∧ PW t ∧ Sub t o ∧ SqT K H a (o.map nV) ∧ ∀ L bs rss H', Same H H' → SidOk t o rss → LsAt H' L bs rss → Q (.ref L) H'
def spOnS (K : PySem.W.Frag) : Sp := fun vs H Q _ => ∃ (g a : Addr) (t : List (List Nat)) (o : List Nat), vs = [.ref g, .ref a] ∧ GT H g t ∧ PW t ∧ Sub t o ∧ SqT K H a (o.map nV) ∧ ∀ r rss H', Same H H' → SidOk t o rss → CT H' r (mkT t.length rss.length (sdF t rss (numR rss))) → Q (.ref r) H'
theorem hol_num {t : List (List Nat)} {rss : List (List Nat)} {num : Nat → Nat} (S : Sd t rss.length rss num) {x : Nat} (hx : x < t.length) : ∀ k, num x < k → k ≤ rss.length → hol rss k x = num x
 | 0, h, _ => absurd h (Nat.not_lt_zero _)
 | k + 1, h, hk => by
  unfold hol
  by_cases e : num x = k
  ·rw [if_pos (List.contains_iff_mem.mpr ((S.mem k x (by omega)).mpr ⟨hx, e⟩))]
   exact e.symm
  ·rw [if_neg]
   ·exact hol_num S hx k (by omega) (by omega)
   ·intro z
    exact e ((S.mem k x (by omega)).mp (List.contains_iff_mem.mp z)).2
section
variable {P : Program} {w : World} {K : PySem.W.Frag} {mg : Str → Option Value} {base : Heap}
theorem scSideR : FnScope ["_law_group_here", "_law_part_here", "_law_rows", "_law_a", "_law_row"] ["_law_group_here", "_law_part_here"] (defScope sSideR) := FS
theorem ok_sideR {f : Addr} {fd : FuncData} (F : Fun K "_law_side_rows" "_law_side_rows" sSideR f fd) (T : Bl mg) (T2 : BlS2 mg) : FnOk P w K mg base CX0 1 f fd ["_law_group_here", "_law_part_here"] (spSideR K) := by
 refine F.ok scSideR (fun vs H Q E h => ?_) (fun cdv A outer s H vs Q E hr h => ?_)
 ·obtain ⟨g, a, t, o, rfl, _⟩ := h; rfl
 ·obtain ⟨g, pa, t, o, rfl, G, Pt, S, ha, q⟩ := h
  refine ⟨_, pss_cons (sset 2 rfl (pe_lst pa_nil))
   (pss_cons (ps_for PassesOwn.never rfl (rng1 T.range (pc (cb (lenK K) T.len (pc (vn 0) pa_nil)) pa_nil)) (gnf 3 rfl)
   (pss_cons (sset 4 rfl (cb (call_sortI K) T2.sorted (pc (cmp ["_law_h"] [0, 3] ["_law_h", "_law_group_here", "_law_a"] rfl (itT K (vn 1)) (fun _ _ _ _ _ => gn 0) (fun _ _ _ _ _ => pif_nil) (fun _ _ _ _ _ => pe_ix (ixT K) (pe_ix (ixT K) (vn 1) (vn 2) (fun _ _ => rfl)) (vn 0) (fun _ _ => rfl))) pa_nil)))
   (pss_one (ps_if (pt_cmpR (ninDK K hr.units) (vn 4) (vn 2) (by rfl)) (pss_one (ps_expr (pe_bm PySem.F.plainAttrs_list PySem.F.slot_list_append PySem.F.type_list_append mt_append (vn 2) (pc (vn 4) pa_nil)))) pss_nil))))
   (pss_one (ps_ret (cb (call_sortG false hr.units) T2.sorted (pc (vn 2) pa_nil))))), ?_⟩
  have sz : (16777216 : Nat) = sizeLine := by decide
  have n1 := Pt.n1
  have n60 := Pt.n60
  have o60 : o.length ≤ 60 := by have := nd_le _ _ S.nd S.lt; omega
  have ol : (o.map nV).length = o.length := List.length_map ..
  refine ⟨(by show 0 ≤ sizeLine; decide), fun Rw nRw => ?_⟩
  have s1 := Same.upd (H := H) (o := .lst []) nRw
  have hR1 := upd_same (H := H) (a := Rw) (o := .lst [])
  generalize upd H Rw (.lst []) = H1 at s1 hR1 ⊢
  obtain ⟨gxs, u1, u2⟩ := GT.len (K := K) (G.mono s1)
  refine ⟨_, rfl, g, gxs, rfl, .inr u1, _, rfl, by omega, by omega, ?_⟩
  rw [u2, Int.toNat_natCast]
  refine for_range (fun i σ' H' => ∃ (bs : List Addr) (v3 v4 : Option V), σ' = [some (.ref g), some (.ref pa), some (.ref Rw), v3, v4] ∧ Same H H' ∧ LsAt H' Rw bs (cosU t o i))
   ⟨[], _, _, rfl, s1, hR1, rfl, fun i b h => by cases h⟩ ?_ ?_
  ·rintro i σ' H2 hi ⟨bs, v3, v4, rfl, s2, R2⟩
   rw [show (0 : Int) + (i : Int) = (i : Int) by omega]
   have ha2 := s2.tup ha
   refine ⟨_, rfl, pa, rfl, ⟨_, ha2⟩, ?_⟩
   refine comp_idx (seq_tup (K := K) ha2) [some (.ref g), some (.int (i : Nat))] rfl (fun j => nV (mul t i (o.getD j 0))) (by rw [ol]; omega) (fun j y hy H3 s3 R k => ?_) (fun L H3 nL s3 hL => ?_)
   ·obtain ⟨x, hx, rfl⟩ := nV_get hy
    have hxl := S.lt x (List.mem_of_getElem? hx)
    have ox : o.getD j 0 = x := by rw [List.getD_eq_getElem?_getD, hx]; rfl
    obtain ⟨rs, r2, g1, _, g2, g3, g4⟩ := (G.mono (s2.trans s3)).at Pt hi
    have fin := k H3 (Same.refl _)
    rw [ox] at fin
    exact ⟨_, rfl, _, rfl, g, _, _, _, rfl, rfl, .of g1, g2, _, rfl, r2, _, _, _, rfl, rfl, g3.sq, g4 x hxl, fin⟩
   ·rw [rng_nI (mul t i) ol] at hL
    refine ⟨L, _, rfl, .of hL, by unfold nI; rw [List.length_map, List.length_map]; omega, fun Rr ns nRr hp hs => ?_⟩
    rw [sorted_side Pt S hi hp hs]
    have s4 := s3.trans (Same.upd (H := H3) (o := .lst ((sC t o i).map nV)) nRr)
    have hr4 := upd_same (H := H3) (a := Rr) (o := .lst ((sC t o i).map nV))
    have nRR : Rr ≠ Rw := fun z => by have := s3 _ _ R2.1; rw [← z, nRr] at this; cases this
    generalize upd H3 Rr (.lst ((sC t o i).map nV)) = H4 at s4 hr4 ⊢
    have R4 := R2.mono s4
    have cl := cosU_len (t := t) (o := o) i
    refine ⟨_, rfl, _, rfl, Rw, _, (cosU t o i).map dLs, dLs (sC t o i), rfl, .inl (.of R4.1), rd_ls _ _ R4.2.1 (fun j b hb => (R4.2.2 j b hb).2), .lst (.of hr4) (rds_nats _), lay_ls _, nlay _, dep_ls _, _, rfl, ?_⟩
    rw [if_pos rfl, any_ls]
    refine ite2 (fun h2 => ?_) (fun h2 => ?_)
    ·have h2 : (cosU t o i).contains (sC t o i) = false := by simpa using h2
     refine ⟨_, rfl, .inl ⟨rfl, _, .of R4.1⟩, _, rfl, Rw, _, _, rfl, rfl, R4.1, by rw [List.length_map, R4.2.1]; omega, ?_⟩
     refine ⟨bs ++ [Rr], _, _, rfl, (s2.trans s4).updr nRw, ?_⟩
     unfold cosU
     rw [if_neg (by rw [h2]; decide)]
     exact R4.push nRR hr4
    ·have h2 : (cosU t o i).contains (sC t o i) = true := by simpa using h2
     refine ⟨bs, _, _, rfl, s2.trans s4, ?_⟩
     unfold cosU
     rw [if_pos h2]
     exact R4
  ·rintro σ' H2 ⟨bs, v3, v4, rfl, s2, R2⟩
   have cl := cosU_len (t := t) (o := o) t.length
   have bl := R2.2.1
   refine ⟨_, rfl, Rw, bs, (cosU t o t.length).map nI, rfl, R2.1, by rw [List.length_map]; exact bl, by omega, fun j b hb => ?_, fun Rs js nRs hp hs => ?_⟩
   ·have hj := (List.getElem?_eq_some_iff.mp hb).1
    refine ⟨nI ((cosU t o t.length).getD j []), by rw [List.getElem?_map, gD (by omega)]; rfl, fun z => ?_, ?_⟩
    ·obtain ⟨a, ha', e⟩ := cosU_of _ _ (List.mem_of_getElem? (gD (l := cosU t o t.length) (i := j) (by omega)))
     have := sC_self Pt S ha'
     rw [← e] at this
     have hl := List.length_pos_of_mem this
     have : (nI ((cosU t o t.length).getD j [])).length = 0 := by rw [z]; rfl
     unfold nI at this
     rw [List.length_map] at this
     omega
    ·show H2 b = some (.lst ((nI _).map V.int))
     rw [nI_V]
     exact (R2.2.2 j b hb).2
   ·have hpr : (js.map fun j => (cosU t o t.length).getD j []).Perm (cosU t o t.length) := by
     have := hp.map fun j => (cosU t o t.length).getD j []
     rw [bl] at this
     refine this.trans ?_
     have e : (List.range (cosU t o t.length).length).map (fun j => (cosU t o t.length).getD j []) = cosU t o t.length := by
      refine List.ext_getElem? fun i => ?_
      rw [List.getElem?_map]
      by_cases hi : i < (cosU t o t.length).length
      ·rw [List.getElem?_range hi, gD hi]; rfl
      ·rw [List.getElem?_eq_none (by rw [List.length_range]; omega), List.getElem?_eq_none (by omega)]; rfl
     rw [e]
    have ok2 : SidOk t o (js.map fun j => (cosU t o t.length).getD j []) := by
     refine ⟨hpr, ?_⟩
     refine List.pairwise_map.mpr ((List.Pairwise.and_mem.mp (List.pairwise_map.mp hs)).imp fun {x y} ⟨hx, hy, hlt⟩ => ?_)
     have e : ∀ z ∈ js, ((cosU t o t.length).map nI).getD z [] = nJ ((cosU t o t.length).getD z []) := fun z hz => by
      have hz := List.mem_range.mp (hp.mem_iff.mp hz)
      rw [List.getD_eq_getElem?_getD, List.getElem?_map, gD (by omega)]
      rfl
     rw [e x hx, e y hy] at hlt
     exact hlt
    have s3 := Same.upd (H := H2) (o := .lst ((js.map fun i => bs.getD i 0).map V.ref)) nRs
    refine q Rs (js.map fun i => bs.getD i 0) _ _ (s2.trans s3) ok2 ⟨upd_same, by rw [List.length_map, List.length_map], fun i b hb => ?_⟩
    rw [List.getElem?_map] at hb
    cases e : js[i]? with
    | none => rw [e] at hb; cases hb
    | some j =>
     rw [e] at hb
     have hb := Option.some.inj hb
     have hj : j < bs.length := List.mem_range.mp (hp.mem_iff.mp (List.mem_of_getElem? e))
     have ej : bs[j]? = some b := by rw [getD_lt hj, ← hb]
     have h2 := (R2.2.2 j b ej).2
     have nb : b ≠ Rs := fun z => by rw [z, nRs] at h2; cases h2
     have er : (js.map fun j => (cosU t o t.length).getD j []).getD i [] = (cosU t o t.length).getD j [] := by rw [List.getD_eq_getElem?_getD, List.getElem?_map, e]; rfl
     rw [er]
     exact ⟨nb, by rw [upd_ne nb]; exact h2⟩
theorem scOnS : FnScope ["group", "part", "found", "lies"] ["group", "part"] (defScope sOnS) := FS
theorem ok_onS {f : Addr} {fd : FuncData} (F : Fun K "on_sides" "on_sides" sOnS f fd) (T : Bl mg) (GSd : Fn P w K mg base CX0 1 "sides" ["group", "part"] (spSides K)) (GH : Fn P w K mg base CX0 1 "holders" ["bundles", "count"] spHold) : FnOk P w K mg base CX0 2 f fd ["group", "part"] (spOnS K) := by
 refine F.ok scOnS (fun vs H Q E h => ?_) (fun cdv A outer s H vs Q E hr h => ?_)
 ·obtain ⟨g, a, t, o, rfl, _⟩ := h; rfl
 ·obtain ⟨g, pa, t, o, rfl, G, Pt, S, ha, q⟩ := h
  refine ⟨_, pss_cons (sset 2 rfl (fnc GSd hr pass0 (pc (vn 0) (pc (vn 1) pa_nil))))
   (pss_cons (sset 3 rfl (fnc GH hr pass0 (pc (vn 2) (pc (cb (lenK K) T.len (pc (vn 0) pa_nil)) pa_nil))))
   (pss_one (ps_ret (ct (tupK K) T.tuple (pc (cmp ["row"] [2, 3] ["row", "found", "lies"] rfl (itT K (vn 0)) (fun _ _ _ _ _ => gnf 0 rfl) (fun _ _ _ _ _ => pif_nil) (fun _ _ _ _ _ => ct (tupK K) (by exact T.tuple) (pc (cmp ["side"] [2, 0] ["side", "lies", "row"] rfl (itT K (vn 1)) (fun _ _ _ _ _ => gn 0) (fun _ _ _ _ _ => pif_nil) (fun _ _ _ _ _ => pe_ix (ixT K) (vn 1) (pe_ix (ixT K) (vn 2) (pe_ix (ixT K) (vn 0) pe_int (fun _ _ => rfl)) (fun _ _ => rfl)) (fun _ _ => rfl))) pa_nil))) pa_nil))))), ?_⟩
  have n1 := Pt.n1
  have n60 := Pt.n60
  refine ⟨_, rfl, _, rfl, g, pa, t, o, rfl, G, Pt, S, ha, fun fo rss H1 s1 hrss hfo => ?_⟩
  have G1 := G.mono s1
  have cl := cosU_len (t := t) (o := o) t.length
  have rl : rss.length ≤ 60 := by rw [hrss.pm.length_eq]; omega
  have Sdd := sd_of Pt S hrss.pm
  obtain ⟨gxs, u1, u2⟩ := GT.len (K := K) G1
  refine ⟨_, rfl, _, rfl, g, gxs, rfl, .inr u1, fo, rss, t.length, by rw [u2]; rfl, hfo, fun row hrow x hx => ?_, n60, rl, fun li H2 s2 hli => ?_⟩
  ·obtain ⟨a, ha, rfl⟩ := hrss.row hrow
   exact (sC_mem.mp hx).1
  have G2 := G1.mono s2
  obtain ⟨rs, g1, g2, g3⟩ := id G2
  have hfo2 := hfo.mono s2
  have rsl : (rs.map V.ref).length = t.length := by rw [List.length_map, g2]
  refine ⟨_, rfl, g, rfl, ⟨_, .of g1⟩, ?_⟩
  refine comp_rowsN (seq_tup (K := K) (.of g1)) [some (.ref fo), some (.ref li)] rfl (by rw [rsl]; omega) (fun a => (List.range rss.length).map fun k => sdF t rss (numR rss) a k) (fun i y hy H3 s3 R k => ?_) (fun D ws H3 nD s3 hD wl hw => ?_)
  ·rw [List.getElem?_map] at hy
   cases er : rs[i]? with
   | none => rw [er] at hy; cases hy
   | some r =>
    rw [er] at hy
    cases hy
    have hi : i < t.length := by rw [← g2]; exact (List.getElem?_eq_some_iff.mp er).1
    have hr3 := (g3 i r er).mono s3
    obtain ⟨fs, f1, f2, f3⟩ := hfo2.mono s3
    have fl : (fs.map V.ref).length = rss.length := by rw [List.length_map, f2]
    refine ⟨_, rfl, fo, rfl, ⟨_, .of f1⟩, ?_⟩
    refine comp_idx (seq_tup (K := K) (.of f1)) [some (.ref li), some (.ref r)] rfl (fun k => nV (sdF t rss (numR rss) i k)) (by rw [fl]; omega) (fun j y hy H4 s4 R k => ?_) (fun L H4 nL s4 hL => ?_)
    ·rw [List.getElem?_map] at hy
     cases eb : fs[j]? with
     | none => rw [eb] at hy; cases hy
     | some b =>
      rw [eb] at hy
      cases hy
      have hj : j < rss.length := by rw [← f2]; exact (List.getElem?_eq_some_iff.mp eb).1
      have hb := s4 _ _ (f3 j b eb)
      have hne := Sdd.ne j hj
      have h0 : 0 < (rss.getD j []).length := List.length_pos_iff.mpr hne
      have hrep := (Sdd.rep hj).1
      have hx := Pt.lt i _ hi hrep
      have hat : atI ((rngF t.length (hol rss rss.length)).map nV) ((mul t i ((rss.getD j []).getD 0 0) : Nat) : Int) = some (.int (sdF t rss (numR rss) i j : Nat)) := by
       rw [nvAt (l := rngF t.length (hol rss rss.length)) (by unfold rngF; rw [List.length_map, List.length_range]; exact hx)]
       have : (rngF t.length (hol rss rss.length)).getD (mul t i ((rss.getD j []).getD 0 0)) 0 = sdF t rss (numR rss) i j := by
        unfold rngF
        rw [List.getD_eq_getElem?_getD, List.getElem?_map, List.getElem?_range hx]
        exact hol_num Sdd hx _ (Sdd.lt _ hx) (Nat.le_refl _)
       rw [this]
      exact ⟨_, rfl, _, rfl, _, rfl, b, _, _, _, rfl, rfl, .of hb, nvAt (l := rss.getD j []) (i := 0) h0, r, _, _, _, rfl, rfl, (hr3.mono s4).sq, nvAt (l := t.getD i []) (by rw [row_len Pt hi]; exact hrep), li, _, _, _, rfl, rfl, .of ((s3.trans s4) _ _ hli), hat, k H4 (Same.refl _)⟩
    ·rw [fl] at hL
     have eL : (List.range rss.length).map (fun k => nV (sdF t rss (numR rss) i k)) = ((List.range rss.length).map fun k => sdF t rss (numR rss) i k).map nV := by rw [List.map_map]; rfl
     rw [eL] at hL
     exact ⟨L, _, rfl, .inl ⟨.of hL, fun l nl => k l _ (s4.trans (Same.upd nl)) upd_same⟩⟩
  ·rw [rsl] at wl
   refine ⟨D, _, rfl, .inl ⟨.of hD, fun r nr => ?_⟩⟩
   refine q r rss _ ((s1.trans s2).trans (s3.trans (Same.upd nr))) hrss ?_
   exact ct_rows (F := fun a => (List.range rss.length).map fun k => sdF t rss (numR rss) a k) upd_same wl fun i w h => Same.upd nr _ _ (hw i w h)
end
end C28
namespace Tb
variable {t : List (List Nat)}
theorem sorted_same {a b : List Nat} (ha : a.Pairwise (· < ·)) (hb : b.Pairwise (· < ·)) (h : ∀ x, x ∈ a ↔ x ∈ b) : a = b := by
 have p : a.Perm b := (List.perm_ext_iff_of_nodup (sort_nd ha) (sort_nd hb)).mpr h
 exact List.Perm.eq_of_pairwise (le := fun x y : Nat => x < y) (fun x y _ _ h1 h2 => absurd h1 (Nat.lt_asymm h2)) ha hb p
end Tb
namespace Tb
open Pm
section
variable {t : List (List Nat)} {o : List Nat}
theorem side_at (P : PW t) (S : Sub t o) {rss : List (List Nat)} (x : SidOk t o rss) {y : Nat} (hy : y < t.length) : rss.getD (numR rss y) [] = sC t o y ∧ numR rss y < rss.length := by
 have D := sd_of P S x.pm
 have hl := D.lt y hy
 have hm := (D.mem _ y hl).mpr ⟨hy, rfl⟩
 obtain ⟨a, ha, e⟩ := x.row (List.mem_of_getElem? (gD hl))
 rw [e] at hm ⊢
 exact ⟨(sC_eq P S ha hm).symm, hl⟩
theorem side_mul (P : PW t) (S : Sub t o) {a x : Nat} (ha : a < t.length) (hx : x < t.length) (y : Nat) : y ∈ (sC t o x).map (mul t a) ↔ y ∈ sC t o (mul t a x) := by
 rw [List.mem_map, sC_mem]
 constructor
 ·rintro ⟨z, hz, rfl⟩
  obtain ⟨hzl, h, hh, rfl⟩ := sC_mem.mp hz
  exact ⟨P.lt _ _ ha hzl, h, hh, P.ass a x h ha hx (S.lt h hh)⟩
 ·rintro ⟨_, h, hh, rfl⟩
  refine ⟨mul t x h, sC_mem.mpr ⟨P.lt _ _ hx (S.lt h hh), h, hh, rfl⟩, (P.ass a x h ha hx (S.lt h hh)).symm⟩
theorem side_nd (P : PW t) {a x : Nat} (ha : a < t.length) : ((sC t o x).map (mul t a)).Nodup := by
 refine List.Pairwise.map _ (R := fun u v => u ≠ v ∧ u < t.length ∧ v < t.length) (fun u v h e => h.1 (lcan P ha h.2.1 h.2.2 e)) ?_
 exact List.pairwise_and_iff.mpr ⟨(sC_sort x).imp fun h => Nat.ne_of_lt h, List.pairwise_of_forall_mem_list fun u hu v hv => ⟨(sC_mem.mp hu).1, (sC_mem.mp hv).1⟩⟩
theorem sC_head (P : PW t) (S : Sub t o) : ∃ r, sC t o 0 = 0 :: r := by
 have h0 := sC_self P S P.n1
 have hs := sC_sort (t := t) (o := o) 0
 generalize sC t o 0 = l at h0 hs
 cases l with
 | nil => cases h0
 | cons x r =>
  rcases List.mem_cons.mp h0 with h | h
  ·exact ⟨r, by rw [h]⟩
  ·have := (List.pairwise_cons.mp hs).1 0 h
   omega
theorem SidOk.first (P : PW t) (S : Sub t o) {rss : List (List Nat)} (x : SidOk t o rss) : rss.getD 0 [] = sC t o 0 ∧ 1 ≤ rss.length := by
 have hm : sC t o 0 ∈ rss := x.pm.mem_iff.mpr (cosU_all _ _ P.n1)
 obtain ⟨r0, e0⟩ := sC_head P S
 cases rss with
 | nil => cases hm
 | cons f rest =>
  refine ⟨?_, by rw [List.length_cons]; omega⟩
  show f = _
  rcases List.mem_cons.mp hm with h | h
  ·exact h.symm
  ·have hlt := (List.pairwise_cons.mp x.so).1 _ h
   obtain ⟨a, ha, rfl⟩ := x.row (List.mem_cons_self)
   have hself := sC_self P S ha
   by_cases hz : 0 ∈ sC t o a
   ·exact (sC_eq P S ha hz).symm
   ·exfalso
    rw [e0] at hlt
    cases e : sC t o a with
    | nil => rw [e] at hself; cases hself
    | cons y r =>
     rw [e] at hlt hz
     have hy : y ≠ 0 := fun z => hz (z ▸ List.mem_cons_self)
     unfold nJ at hlt
     rw [List.map_cons, List.map_cons, PyZ.ltB_cons, if_neg (by omega)] at hlt
     have := of_decide_eq_false hlt
     omega
theorem one_side (P : PW t) (S : Sub t o) (hs : o.Pairwise (· < ·)) : sC t o 0 = o := by
 refine sorted_same (sC_sort 0) hs fun x => ?_
 rw [sC_mem]
 constructor
 ·rintro ⟨_, h, hh, rfl⟩
  rw [P.one h (S.lt h hh)]
  exact hh
 ·intro hx
  exact ⟨S.lt x hx, x, hx, P.one x (S.lt x hx)⟩
theorem left_first (P : PW t) (S : Sub t o) (hs : o.Pairwise (· < ·)) {rss : List (List Nat)} (x : SidOk t o rss) : (List.range t.length).filter (fun a => decide (sdF t rss (numR rss) a 0 = 0)) = o := by
 obtain ⟨e1, e2⟩ := x.first P S
 obtain ⟨r0, e0⟩ := sC_head P S
 have D := sd_of P S x.pm
 refine sorted_same (List.Pairwise.sublist List.filter_sublist List.pairwise_lt_range) hs fun a => ?_
 rw [List.mem_filter, List.mem_range, decide_eq_true_iff]
 have rep : (rss.getD 0 []).getD 0 0 = 0 := by rw [e1, e0]; rfl
 unfold sdF
 rw [rep]
 constructor
 ·rintro ⟨ha, h⟩
  rw [P.oneR a ha] at h
  have := (D.mem 0 a (by omega)).mpr ⟨ha, h⟩
  rw [e1, one_side P S hs] at this
  exact this
 ·intro ha
  have hal := S.lt a ha
  refine ⟨hal, ?_⟩
  rw [P.oneR a hal]
  refine ((D.mem 0 a (by omega)).mp ?_).2
  rw [e1, one_side P S hs]
  exact ha
end
end Tb
namespace L2
open PySem PySem.Spec PyProof.Rows
section
variable {X : Cx}
theorem op_isnotB : OpR X (compareOp .IsNot) (fun x y H Q => ∃ a b, x = .bl a ∧ y = .bl b ∧ Q (.bl (!decide (a = b))) H) := by
 intro pins s σ H x y v u Q I rx ry h
 obtain ⟨a, b, rfl, rfl, q⟩ := h
 cases rx
 cases ry
 exact isnot_bool (fin_bl I q (by cases a <;> cases b <;> rfl))
end
section
variable {X : Cx}
end
end L2
namespace C28
open PySem L2 PySem.Spec PyProof.Rows
open Tb Pm
theorem sql_tk {K : PySem.W.Frag} {H H' : Hp} {p x : Addr} {b : Nat} {xs : List V} (T : Tape H p b) (d : Tk p H H') (h : SqL K H x xs) : SqL K H' x xs := by
 rcases h with (h | ⟨o, h⟩) | h
 ·exact .inl (.inl (d.lst T h))
 ·exact .inl (.inr ⟨o, d _ _ h (T.ne h fun _ z => by cases z)⟩)
 ·exact .inr h
theorem CT.dt {H : Hp} {d : Addr} {ds : List (List Nat)} (h : CT H d ds) : DT H d ds := by
 obtain ⟨rs, h1, h2, h3⟩ := h
 exact ⟨rs, h1, h2, fun i r hr => .inl (h3 i r hr)⟩
theorem refAt {rs : List Addr} {i : Nat} {r : Addr} (h : rs[i]? = some r) : atI (rs.map V.ref) (i : Int) = some (.ref r) := atI_nat (by rw [List.getElem?_map, h]; rfl)
theorem rng0_get {n i : Nat} {y : V} (h : ((rngI 0 n).map V.int)[i]? = some y) : i < n ∧ y = .int ((i : Nat) : Int) := by
 unfold rngI at h
 rw [List.map_map, List.getElem?_map] at h
 by_cases hi : i < n
 ·rw [List.getElem?_range hi] at h
  refine ⟨hi, (Option.some.inj h).symm.trans ?_⟩
  show V.int (0 + (i : Int)) = _
  rw [Int.zero_add]
 ·rw [List.getElem?_eq_none (by rw [List.length_range]; omega)] at h
  cases h
def spLaw (K : PySem.W.Frag) : Sp := fun vs H Q _ => ∃ (a : Addr) (ns : List Int), vs = [.ref a] ∧ SqL K H a (ns.map V.int) ∧ ns.length ≤ 63 ∧ ∀ H', Q (.bl true) H'
section
variable {P : Program} {w : World} {K : PySem.W.Frag} {mg : Str → Option Value} {base : Heap}
theorem scLaw : FnScope ["_law_script", "_law_k", "_law_tape_here", "_law_group_here", "_law_turn", "_law_part_here", "_law_rows", "_law_found", "_law_a", "_law_i"] ["_law_script"] (defScope sLaw) := FS
theorem ok_law {f : Addr} {fd : FuncData} (F : Fun K "law" "law" sLaw f fd) (T : Bl mg) (T2 : BlS2 mg) (GT0 : Fn P w K mg base CX0 1 "_law_tape" ["_law_script", "_law_at"] (spTape K)) (GG : Fn P w K mg base CX0 3 "_law_group" ["_law_tape_here", "_law_great"] spGroup)
  (GAP : Fn P w K mg base CX0 3 "_law_any_part" ["_law_tape_here", "_law_group_here"] spAnyP) (GSr : Fn P w K mg base CX0 1 "_law_side_rows" ["_law_group_here", "_law_part_here"] (spSideR K)) (GO : Fn P w K mg base CX0 2 "on_sides" ["group", "part"] (spOnS K)) (GD : Fn P w K mg base CX0 4 "is_deed" ["group", "thing"] spDeedY) :
  FnOk P w K mg base CX0 5 f fd ["_law_script"] (spLaw K) := by
 refine F.ok scLaw (fun vs H Q E h => ?_) (fun cdv A outer s H vs Q E hr h => ?_)
 ·obtain ⟨a, ns, rfl, _⟩ := h; rfl
 ·obtain ⟨a, ns, rfl, hS, hlen, q⟩ := h
  refine ⟨_, pss_cons (ps_for PassesOwn.never rfl (rng1 T.range (pc (pe_op op_add pe_int (cb (lenK K) T.len (pc (pe_slice sl_list (vn 0) po_none (po_some pe_int)) pa_nil))) pa_nil)) (gn 1)
   (pss_cons (sset 2 rfl (fnc GT0 hr pass0 (pc (vn 0) (pc (vn 1) pa_nil))))
   (pss_cons (sset 3 rfl (fnc GG hr pass0 (pc (vn 2) (pc (pe_cmpR op_lt (vn 1) pe_int (nomark _)) pa_nil))))
   (pss_one (ps_for PassesOwn.never rfl (rng1 T.range (pc pe_int pa_nil)) (gn 4)
   (pss_cons (sset 5 rfl (fnc GAP hr pass0 (pc (vn 2) (pc (vn 3) pa_nil))))
   (pss_cons (sset 6 rfl (fnc GSr hr pass0 (pc (vn 3) (pc (vn 5) pa_nil))))
   (pss_cons (sset 7 rfl (fnc GO hr pass0 (pc (vn 3) (pc (vn 5) pa_nil))))
   (pss_cons (ps_if (pw_or (pt_not (pt_val (cb (isaK K "tuple") T.isi (pc (vn 7) (pc (tyv "tuple" T.tuple) pa_nil))))) (pw_or1 (pt_cmpR op_isnotB (fnc GD hr pass0 (pc (vn 3) (pc (vn 7) pa_nil))) pe_bl (nomark _)))).pt (pss_one (ps_ret pe_bl)) pss_nil)
   (pss_cons (ps_if (pt_cmpR op_ne (cb (lenK K) T.len (pc (pe_ix (ixT K) (vn 7) pe_int (fun _ _ => rfl)) pa_nil)) (cb (lenK K) T.len (pc (vn 6) pa_nil)) (nomark _)) (pss_one (ps_ret pe_bl)) pss_nil)
   (pss_cons (ps_for PassesOwn.never rfl (rng1 T.range (pc (cb (lenK K) T.len (pc (vn 3) pa_nil)) pa_nil)) (gnf 8 rfl)
   (pss_one (ps_for PassesOwn.never rfl (rng1 T.range (pc (cb (lenK K) T.len (pc (vn 6) pa_nil)) pa_nil)) (gn 9)
   (pss_one (ps_if (pt_cmpR (neC K hr.units) (cb (call_sortI K) T2.sorted (pc (cmp ["_law_one"] [3, 8] ["_law_one", "_law_group_here", "_law_a"] rfl (itL K (pe_ix (ixL K) (vn 6) (vn 9) (fun _ _ => rfl))) (fun _ _ _ _ _ => gn 0) (fun _ _ _ _ _ => pif_nil) (fun _ _ _ _ _ => pe_ix (ixT K) (pe_ix (ixT K) (vn 1) (vn 2) (fun _ _ => rfl)) (vn 0) (fun _ _ => rfl))) pa_nil)) (pe_ix (ixL K) (vn 6) (pe_ix (ixT K) (pe_ix (ixT K) (vn 7) (vn 8) (fun _ _ => rfl)) (vn 9) (fun _ _ => rfl)) (fun _ _ => rfl)) (nomark _)) (pss_one (ps_ret pe_bl)) pss_nil)))))
   (pss_one (ps_if (pt_cmpR (neC K hr.units) (ct (tupK K) T.tuple (pc (cmp ["_law_a"] [7] ["_law_a", "_law_found"] rfl (rng1 T.range (pc (cb (lenK K) T.len (pc (vn 3) pa_nil)) pa_nil)) (fun _ _ _ _ _ => gn 0) (fun _ _ _ _ _ => pif_one (pt_cmpR op_eq (pe_ix (ixT K) (pe_ix (ixT K) (vn 1) (vn 0) (fun _ _ => rfl)) pe_int (fun _ _ => rfl)) pe_int (nomark _))) (fun _ _ _ _ _ => vn 0)) pa_nil)) (vn 5) (nomark _)) (pss_one (ps_ret pe_bl)) pss_nil)))))))))))))
   (pss_one (ps_ret pe_bl)), ?_⟩
  have sz : (16777216 : Nat) = sizeLine := by decide
  refine ⟨_, rfl, _, rfl, a, _, rfl, hS, fun l0 nl0 => ⟨l0, _, rfl, .inl (.of upd_same), _, _, rfl, rfl, _, rfl, ?_, ?_, ?_⟩⟩
  ·omega
  ·have := cutV_length (ns.map V.int) none (some 4)
   rw [List.length_map] at this
   omega
  have s0 := Same.upd (H := H) (o := .lst (cutV (ns.map V.int) none (some 4))) nl0
  refine for_range (fun i σ' H' => ∃ v1 v2 v3 v4 v5 v6 v7 v8 v9 : Option V, σ' = [some (.ref a), v1, v2, v3, v4, v5, v6, v7, v8, v9] ∧ SqL K H' a (ns.map V.int)) ⟨_, _, _, _, _, _, _, _, _, rfl, s0.seq hS⟩ ?_ (fun σ' H1 _ => q H1)
  rintro i σ' H1 hi ⟨v1, v2, v3, v4, v5, v6, v7, v8, v9, rfl, hS1⟩
  rw [show (0 : Int) + (i : Int) = (i : Int) by omega]
  refine ⟨_, rfl, _, rfl, a, ns, i, rfl, hS1, hlen, fun p H2 s2 np T2' => ?_⟩
  have hS2 := s2.seq hS1
  refine ⟨_, rfl, _, rfl, _, _, rfl, rfl, p, 0, _, rfl, T2', by decide, fun g t H3 k3 T3 G3 Pt n24 => ?_⟩
  have hS3 := sql_tk T2' k3 hS2
  have n1 := Pt.n1
  have n60 := Pt.n60
  refine ⟨_, rfl, by decide, by decide, ?_⟩
  refine for_range (fun j σ' H' => ∃ v4 v5 v6 v7 v8 v9 : Option V, σ' = [some (.ref a), some (.int (i : Nat)), some (.ref p), some (.ref g), v4, v5, v6, v7, v8, v9] ∧ SqL K H' a (ns.map V.int) ∧ Tape H' p (70 + 6 * j) ∧ GT H' g t) ⟨_, _, _, _, _, _, rfl, hS3, T3, G3⟩ ?_ ?_
  ·rintro j σ' H4 hj ⟨v4, v5, v6, v7, v8, v9, rfl, hS4, T4, G4⟩
   refine ⟨_, rfl, _, rfl, p, g, _, t, rfl, T4, by omega, G4, Pt, fun r gs H5 k5 T5 glt hr5 => ?_⟩
   have G5 := GT.tk T4 k5 G4
   have hS5 := sql_tk T4 k5 hS4
   have So := sub_prt Pt glt
   have hso := prt_sort (n := t.length) (On := onG t gs)
   generalize prtL t.length (onG t gs) = o at hr5 So hso
   refine ⟨_, rfl, _, rfl, g, r, t, o, rfl, G5, Pt, So, hr5.sq, fun Rw bs rss H6 s6 ok6 R6 => ?_⟩
   refine ⟨_, rfl, _, rfl, g, r, t, o, rfl, G5.mono s6, Pt, So, (hr5.mono s6).sq, fun fo rss' H7 s7 ok7 hfo => ?_⟩
   have e7 := ok7.uniq ok6
   subst e7
   have cl := cosU_len (t := t) (o := o) t.length
   have rl : rss'.length ≤ t.length := by rw [ok7.pm.length_eq]; exact cl
   have D7 := dd_sid Pt (sd_of Pt So ok7.pm)
   have s57 := s6.trans s7
   have R7 := R6.mono s7
   generalize hds : mkT t.length rss'.length (sdF t rss' (numR rss')) = ds at hfo D7
   have dat : ∀ x k, x < t.length → k < rss'.length → mul ds x k = sdF t rss' (numR rss') x k := fun x k hx hk => by rw [← hds]; exact mkT_at hx hk
   obtain ⟨fs, f1, f2, f3⟩ := id hfo
   refine ⟨_, rfl, _, "tuple", rfl, ⟨.tup f1, by decide⟩, _, rfl, iteN (by decide) ?_⟩
   refine ⟨_, rfl, _, rfl, g, fo, t, ds, rss'.length, rfl, G5.mono s57, Pt, CT.dt hfo, D7, by omega, fun H8 s8 => ?_⟩
   refine ⟨_, _, rfl, rfl, _, rfl, iteN (by decide) ?_⟩
   have s58 := s57.trans s8
   have hfo8 := hfo.mono s8
   have R8 := R7.mono s8
   have row0 : (ds.getD 0 []).length = rss'.length := D7.rl 0 n1
   obtain ⟨fs8, f81, f82, f83⟩ := id hfo8
   have at0 : fs8[0]? = some (fs8[0]'(by rw [f82, D7.len]; exact n1)) := List.getElem?_eq_getElem _
   refine ⟨_, rfl, fo, _, _, _, rfl, rfl, .of f81, refAt (i := 0) at0, _, _, rfl, .inr (.of (f83 0 _ at0)), _, rfl, Rw, _, rfl, .inl (.of R8.1), rfl, _, rfl, iteN (by rw [List.length_map, List.length_map, row0, R8.2.1]; simp) ?_⟩
   obtain ⟨gxs, u1, u2⟩ := GT.len (K := K) (G5.mono s58)
   refine ⟨_, rfl, g, gxs, rfl, .inr u1, _, rfl, by omega, by omega, ?_⟩
   rw [u2, Int.toNat_natCast]
   refine for_range (fun x σ' H' => ∃ v8 v9 : Option V, σ' = [some (.ref a), some (.int (i : Nat)), some (.ref p), some (.ref g), some (.int (0 + (j : Nat))), some (.ref r), some (.ref Rw), some (.ref fo), v8, v9] ∧ Same H5 H' ∧ LsAt H' Rw bs rss' ∧ CT H' fo ds) ⟨_, _, rfl, s58, R8, hfo8⟩ ?_ ?_
   ·rintro x σ' H9 hx ⟨v8, v9, rfl, s9, R9, hfo9⟩
    rw [show (0 : Int) + (x : Int) = (x : Int) by omega]
    refine ⟨_, rfl, Rw, _, rfl, .inl (.of R9.1), _, rfl, by rw [List.length_map, R9.2.1]; omega, by rw [List.length_map, R9.2.1]; omega, ?_⟩
    rw [List.length_map, R9.2.1, Int.toNat_natCast]
    refine for_range (fun k σ' H' => ∃ v9 : Option V, σ' = [some (.ref a), some (.int (i : Nat)), some (.ref p), some (.ref g), some (.int (0 + (j : Nat))), some (.ref r), some (.ref Rw), some (.ref fo), some (.int (x : Nat)), v9] ∧ Same H5 H' ∧ LsAt H' Rw bs rss' ∧ CT H' fo ds) ⟨_, rfl, s9, R9, hfo9⟩ ?_ ?_
    ·rintro k σ' H10 hk ⟨v9, rfl, s10, R10, hfo10⟩
     rw [show (0 : Int) + (k : Int) = (k : Int) by omega]
     obtain ⟨b, b2, b3⟩ := R10.get hk
     obtain ⟨z, hz, ez⟩ := ok7.row (List.mem_of_getElem? (gD hk))
     have rlen : (rss'.getD k []).length ≤ 60 := by rw [ez, sC_len Pt So hz]; have := nd_le _ _ So.nd So.lt; omega
     have ol : ((rss'.getD k []).map nV).length = (rss'.getD k []).length := List.length_map ..
     refine ⟨_, rfl, _, rfl, Rw, _, _, _, rfl, rfl, .of R10.1, b2, b, rfl, ⟨_, .of b3⟩, ?_⟩
     refine comp_idx (seq_lst (K := K) (.of b3)) [some (.ref g), some (.int (x : Nat))] rfl (fun e => nV (mul t x ((rss'.getD k []).getD e 0))) (by rw [ol]; omega) (fun e y hy H11 s11 R k' => ?_) (fun L H11 nL s11 hL => ?_)
     ·obtain ⟨u, hu', rfl⟩ := nV_get hy
      have hul : u < t.length := by
       have := List.mem_of_getElem? hu'
       rw [ez] at this
       exact (sC_mem.mp this).1
      have ox : (rss'.getD k []).getD e 0 = u := by rw [List.getD_eq_getElem?_getD, hu']; rfl
      obtain ⟨rs, r2, g1, _, g2, g3, g4⟩ := (G5.mono (s10.trans s11)).at Pt hx
      have fin := k' H11 (Same.refl _)
      rw [ox] at fin
      exact ⟨_, rfl, _, rfl, g, _, _, _, rfl, rfl, .of g1, g2, _, rfl, r2, _, _, _, rfl, rfl, g3.sq, g4 u hul, fin⟩
     ·rw [rng_nI (mul t x) ol] at hL
      refine ⟨L, _, rfl, .of hL, by unfold nI; rw [List.length_map, List.length_map]; omega, fun l2 ms nl2 hp2 hs2 => ?_⟩
      have em : ms.map V.int = (sC t o (mul t x z)).map nV := sort_is hp2 hs2 (by
       unfold nI
       rw [ez]
       exact List.Pairwise.map _ (fun u v (h : u ≠ v) e => h (by omega)) (side_nd Pt hx)) (fun e => by
       unfold nI
       rw [ez, List.mem_map]
       constructor
       ·rintro ⟨u, hu', rfl⟩
        exact ⟨u, (side_mul Pt So hx hz u).mp hu', rfl⟩
       ·rintro ⟨u, hu', rfl⟩
        exact ⟨u, (side_mul Pt So hx hz u).mpr hu', rfl⟩) (sC_sort _)
      rw [em]
      have s12 := s11.trans (Same.upd (H := H11) (o := .lst ((sC t o (mul t x z)).map nV)) nl2)
      have h12 := upd_same (H := H11) (a := l2) (o := .lst ((sC t o (mul t x z)).map nV))
      generalize upd H11 l2 (.lst ((sC t o (mul t x z)).map nV)) = H12 at s12 h12 ⊢
      have R12 := R10.mono s12
      obtain ⟨fs2, q1, q2, q3⟩ := hfo10.mono s12
      have hxx : fs2[x]? = some (fs2[x]'(by rw [q2, D7.len]; exact hx)) := List.getElem?_eq_getElem _
      have hrow := q3 x _ hxx
      have rlx := D7.rl x hx
      have ekk : (ds.getD x []).getD k 0 = numR rss' (mul t x z) := by
       have h1 := dat x k hx hk
       have h2 : mul ds x k = (ds.getD x []).getD k 0 := rfl
       rw [← h2, h1]
       have Sdd := sd_of Pt So ok7.pm
       obtain ⟨p1, p2⟩ := Sdd.rep hk
       unfold sdF
       refine Sdd.go x _ _ hx p1 hz ?_
       rw [p2]
       exact (((Sdd.mem k z hk).mp (by rw [ez]; exact sC_self Pt So hz)).2).symm
      obtain ⟨w1, w2⟩ := side_at Pt So ok7 (Pt.lt x z hx hz)
      obtain ⟨c, c2, c3⟩ := R12.get w2
      refine ⟨_, rfl, _, rfl, _, rfl, fo, _, _, _, rfl, rfl, .of q1, refAt hxx, _, rfl, _, _, _, _, rfl, rfl, .of hrow, nvAt (l := ds.getD x []) (i := k) (by rw [rlx]; exact hk), Rw, _, _, _, rfl, rfl, .of R12.1, by rw [ekk]; exact c2, ?_⟩
      refine ⟨dLs (sC t o (mul t x z)), dLs (sC t o (mul t x z)), .lst (.of h12) (rds_nats _), .lst (.of (by rw [c3, w1])) (rds_nats _), shapedN _, shapedN _, _, rfl, iteN (by rw [eqvLN]; simp) ?_⟩
      exact ⟨_, rfl, s10.trans s12, R12, ⟨fs2, q1, q2, q3⟩⟩
    ·rintro σ' H10 ⟨v9, rfl, s10, R10, hfo10⟩
     exact ⟨_, _, rfl, s10, R10, hfo10⟩
   ·rintro σ' H9 ⟨v8, v9, rfl, s9, R9, hfo9⟩
    obtain ⟨gxs2, y1, y2⟩ := GT.len (K := K) (G5.mono s9)
    refine ⟨_, rfl, g, gxs2, rfl, .inr y1, _, rfl, by omega, by omega, ?_⟩
    rw [y2, Int.toNat_natCast]
    have rl0 : ((rngI 0 t.length).map V.int).length = t.length := by rw [List.length_map, rngI_len]
    refine comp_filt (seq_rng 0 t.length) [some (.ref fo)] rfl (fun v => match v with | .int x => decide (sdF t rss' (numR rss') x.toNat 0 = 0) | _ => false) (fun y => y) (by rw [rl0]; omega) (fun e y H10 hy s10 R R' k1 k2 => ?_) (fun L2 H10 nL2 s10 hL2 => ?_)
    ·obtain ⟨he, rfl⟩ := rng0_get hy
     obtain ⟨fs2, q1, q2, q3⟩ := hfo9.mono s10
     have hxx : fs2[e]? = some (fs2[e]'(by rw [q2, D7.len]; exact he)) := List.getElem?_eq_getElem _
     have hrow := q3 e _ hxx
     have r1 := (ok7.first Pt So).2
     have h0 : (ds.getD e []).getD 0 0 = sdF t rss' (numR rss') e 0 := dat e 0 he r1
     refine ⟨_, rfl, _, rfl, fo, _, _, _, rfl, rfl, .of q1, refAt hxx, _, _, _, _, rfl, rfl, .of hrow, nvAt (l := ds.getD e []) (i := 0) (by rw [D7.rl e he]; exact r1), rfl, _, rfl, ?_⟩
     rw [h0]
     have k1 : decide (sdF t rss' (numR rss') e 0 = 0) = true → ∀ H6, Same H10 H6 → R (.int (e : Nat)) H6 := k1
     have k2 : decide (sdF t rss' (numR rss') e 0 = 0) = false → ∀ H6, Same H10 H6 → R' H6 := k2
     have ed : decide (V.int ((sdF t rss' (numR rss') e 0 : Nat) : Int) = V.int 0) = decide (sdF t rss' (numR rss') e 0 = 0) := decI (sdF t rss' (numR rss') e 0) 0
     rw [ed]
     exact ite2 (fun h => ⟨_, rfl, k1 h H10 (Same.refl _)⟩) (fun h => k2 (by simpa using h) H10 (Same.refl _))
    ·have eo : (((rngI 0 t.length).map V.int).filter fun v => match v with | .int x => decide (sdF t rss' (numR rss') x.toNat 0 = 0) | _ => false).map (fun y => y) = o.map nV := by
      rw [List.map_id']
      have e1 : (rngI 0 t.length).map V.int = (List.range t.length).map nV := by
       unfold rngI
       rw [List.map_map]
       refine List.map_congr_left fun k _ => ?_
       show V.int (0 + (k : Int)) = V.int (k : Int)
       rw [Int.zero_add]
      rw [e1, List.filter_map]
      congr 1
      exact left_first Pt So hso ok7
     rw [eo] at hL2
     refine ⟨L2, _, rfl, .inl ⟨.of hL2, fun l nl => ?_⟩⟩
     have s11 := s10.trans (Same.upd (H := H10) (o := .tup (o.map nV)) nl)
     have h11 := upd_same (H := H10) (a := l) (o := .tup (o.map nV))
     generalize upd H10 l (.tup (o.map nV)) = H11 at s11 h11 ⊢
     have s511 := s9.trans s11
     refine ⟨_, rfl, dRow o, dRow o, rd_row h11, .tup (hr5.mono s511).sq (rds_nats _), shapedR _, shapedR _, _, rfl, iteN (by rw [eqvR]; simp) ?_⟩
     exact ⟨_, _, _, _, _, _, rfl, s511.seq hS5, (T5.mono s511).le (by omega), G5.mono s511⟩
  ·rintro σ' H4 ⟨v4, v5, v6, v7, v8, v9, rfl, hS4, T4, G4⟩
   exact ⟨_, _, _, _, _, _, _, _, _, rfl, hS4⟩
end
end C28
namespace C28
open PySem L2 PySem.Spec PyProof.Rows
theorem all_mk {l : PySem.W.OpenLaw} {w : World} {K : PySem.W.Frag} {h : Heap} {mg : Str → Option Value} {fa : Addr} {tk : Tok} (X : K.In h) (G : h.Ns mainGlobals mg) (hfa : mg "law" = some (.ref fa))
  (d1 : DefIn K "is_whole" sWhole) (d2 : DefIn K "are_things" sAreT) (d3 : DefIn K "holders" sHold) (d4 : DefIn K "sides" sSides) (d5 : DefIn K "is_perm" sIsPerm) (d6 : DefIn K "perm_times" sPTimes) (d7 : DefIn K "goes_along" sAlong) (d8 : DefIn K "is_deed" sIsDeed) (d9 : DefIn K "on_sides" sOnS) (d10 : DefIn K "_law_tape" sTape) (d11 : DefIn K "_law_pick" sPick) (d12 : DefIn K "_law_cycle" sCyc) (d13 : DefIn K "_law_perms" sPerms) (d14 : DefIn K "_law_after" sAfter) (d15 : DefIn K "_law_things" sThings) (d16 : DefIn K "_law_group" sGroup) (d17 : DefIn K "_law_part" sPart) (d18 : DefIn K "_law_some" sSome) (d19 : DefIn K "_law_any_part" sAnyP) (d20 : DefIn K "_law_side_rows" sSideR) (d21 : DefIn K "law" sLaw) (mMP : PySem.W.nsIn K mainGlobals "MOST_PLACES" = some (some (.int 24 tk)))
  (z1 : PySem.W.nsIn K mainGlobals "list" = some none) (z2 : PySem.W.nsIn K mainGlobals "len" = some none) (z3 : PySem.W.nsIn K mainGlobals "abs" = some none) (z4 : PySem.W.nsIn K mainGlobals "range" = some none) (z5 : PySem.W.nsIn K mainGlobals "tuple" = some none) (z6 : PySem.W.nsIn K mainGlobals "isinstance" = some none) (z7 : PySem.W.nsIn K mainGlobals "all" = some none) (z8 : PySem.W.nsIn K mainGlobals "set" = some none) (z9 : PySem.W.nsIn K mainGlobals "repr" = some none) (z10 : PySem.W.nsIn K mainGlobals "any" = some none) (z11 : PySem.W.nsIn K mainGlobals "int" = some none) (z12 : PySem.W.nsIn K mainGlobals "bool" = some none) (z13 : PySem.W.nsIn K mainGlobals "sorted" = some none) (z14 : PySem.W.nsIn K mainGlobals "enumerate" = some none) (z15 : PySem.W.nsIn K mainGlobals "max" = some none) :
  ∃ fd : FuncData, (∀ (s : Shared) (v : Value), BindsTo s fd ⟨[v], []⟩ [("_law_script", v)]) ∧ ∀ base : Heap, K.In base → base.Ns mainGlobals mg → FnOk l.prog w K mg base CX0 5 fa fd ["_law_script"] (spLaw K) := by
 have T : Bl mg := ⟨PySem.W.mg_none_of X G z1, PySem.W.mg_none_of X G z2, PySem.W.mg_none_of X G z3, PySem.W.mg_none_of X G z4, PySem.W.mg_none_of X G z5, PySem.W.mg_none_of X G z6, PySem.W.mg_none_of X G z7, PySem.W.mg_none_of X G z8, PySem.W.mg_none_of X G z9, PySem.W.mg_none_of X G z10, PySem.W.mg_none_of X G z11, PySem.W.mg_none_of X G z12⟩
 have T2 : BlS2 mg := ⟨PySem.W.mg_none_of X G z13, PySem.W.mg_none_of X G z14⟩
 have TB : BlB mg := ⟨PySem.W.mg_none_of X G z1, PySem.W.mg_none_of X G z2, PySem.W.mg_none_of X G z4, PySem.W.mg_none_of X G z5, PySem.W.mg_none_of X G z15, PySem.W.mg_none_of X G z13⟩
 have hM := PySem.W.mg_of X G mMP
 refine d21.law X G hfa (fun base f fd nb kb F => ?_) (fun _ _ _ _ _ _ _ _ => .of_eq rfl)
 have GW : Fn l.prog w K mg base CX0 1 "is_whole" ["thing"] (spWholeY) := d1.fn X G (fun f fd F => ok_wholeY F T) (fun _ _ _ _ _ _ => bd1 fun _ => rfl)
 have GAr : Fn l.prog w K mg base CX0 2 "are_things" ["thing", "count"] (spAreY) := d2.fn X G (fun f fd F => ok_areT F T GW) (fun _ _ _ _ _ _ => bd2 fun _ _ => rfl)
 have GH : Fn l.prog w K mg base CX0 1 "holders" ["bundles", "count"] (spHold) := d3.fn X G (fun f fd F => ok_hold F T T2) (fun _ _ _ _ _ _ => bd2 fun _ _ => rfl)
 have GSd : Fn l.prog w K mg base CX0 1 "sides" ["group", "part"] (spSides K) := d4.fn X G (fun f fd F => ok_sides F T T2) (fun _ _ _ _ _ _ => bd2 fun _ _ => rfl)
 have GPm : Fn l.prog w K mg base CX0 3 "is_perm" ["thing"] (spPermY) := d5.fn X G (fun f fd F => ok_isPerm F T hM GAr) (fun _ _ _ _ _ _ => bd1 fun _ => rfl)
 have GPt : Fn l.prog w K mg base CX0 1 "perm_times" ["one", "other"] (spPTim) := d6.fn X G (fun f fd F => ok_pTim F T) (fun _ _ _ _ _ _ => bd2 fun _ _ => rfl)
 have GLg : Fn l.prog w K mg base CX0 2 "goes_along" ["group", "perms"] (spDeedY) := d7.fn X G (fun f fd F => ok_along F T T2 GPt) (fun _ _ _ _ _ _ => bd2 fun _ _ => rfl)
 have GD : Fn l.prog w K mg base CX0 4 "is_deed" ["group", "thing"] (spDeedY) := d8.fn X G (fun f fd F => ok_isDeed F T GPm GLg) (fun _ _ _ _ _ _ => bd2 fun _ _ => rfl)
 have GO : Fn l.prog w K mg base CX0 2 "on_sides" ["group", "part"] (spOnS K) := d9.fn X G (fun f fd F => ok_onS F T GSd GH) (fun _ _ _ _ _ _ => bd2 fun _ _ => rfl)
 have GT0 : Fn l.prog w K mg base CX0 1 "_law_tape" ["_law_script", "_law_at"] (spTape K) := d10.fn X G (fun f fd F => ok_tape F TB) (fun _ _ _ _ _ _ => bd2 fun _ _ => rfl)
 have GK : Fn l.prog w K mg base CX0 1 "_law_pick" ["_law_tape_here", "_law_many"] (spPick) := d11.fn X G (fun f fd F => ok_pick F) (fun _ _ _ _ _ _ => bd2 fun _ _ => rfl)
 have GCy : Fn l.prog w K mg base CX0 1 "_law_cycle" ["_law_many"] (spCyc) := d12.fn X G (fun f fd F => ok_cyc F TB) (fun _ _ _ _ _ _ => bd1 fun _ => rfl)
 have GPe : Fn l.prog w K mg base CX0 2 "_law_perms" ["_law_tape_here", "_law_great"] (spPerms) := d13.fn X G (fun f fd F => ok_perms F TB GK GCy) (fun _ _ _ _ _ _ => bd2 fun _ _ => rfl)
 have GA : Fn l.prog w K mg base CX0 1 "_law_after" ["_law_one", "_law_other"] (spAfter) := d14.fn X G (fun f fd F => ok_after F TB) (fun _ _ _ _ _ _ => bd2 fun _ _ => rfl)
 have GTh : Fn l.prog w K mg base CX0 2 "_law_things" ["_law_perms_here"] (spThings) := d15.fn X G (fun f fd F => ok_things F TB GA) (fun _ _ _ _ _ _ => bd1 fun _ => rfl)
 have GG : Fn l.prog w K mg base CX0 3 "_law_group" ["_law_tape_here", "_law_great"] (spGroup) := d16.fn X G (fun f fd F => ok_group F TB GTh GPe GK GA) (fun _ _ _ _ _ _ => bd2 fun _ _ => rfl)
 have GL : Fn l.prog w K mg base CX0 1 "_law_part" ["_law_group_here", "_law_things_here"] (spPartL) := d17.fn X G (fun f fd F => ok_part F T T2) (fun _ _ _ _ _ _ => bd2 fun _ _ => rfl)
 have GS : Fn l.prog w K mg base CX0 2 "_law_some" ["_law_tape_here", "_law_group_here"] (spSome) := d18.fn X G (fun f fd F => ok_some F T GK) (fun _ _ _ _ _ _ => bd2 fun _ _ => rfl)
 have GAP : Fn l.prog w K mg base CX0 3 "_law_any_part" ["_law_tape_here", "_law_group_here"] (spAnyP) := d19.fn X G (fun f fd F => ok_anyP F GS GL) (fun _ _ _ _ _ _ => bd2 fun _ _ => rfl)
 have GSr : Fn l.prog w K mg base CX0 1 "_law_side_rows" ["_law_group_here", "_law_part_here"] (spSideR K) := d20.fn X G (fun f fd F => ok_sideR F T T2) (fun _ _ _ _ _ _ => bd2 fun _ _ => rfl)
 exact ok_law F T T2 GT0 GG GAP GSr GO GD
theorem walk {l : PySem.W.OpenLaw} {q : Program} {loose : List Str} {XP : (Str → Option Value) → Heap → Prop} {YP : World → Heap → Prop} {d : DefRec} {K : Params → PySem.W.Frag} (hn : l.most = some 63) (hdf : d.params.defaults = [])
  (hY : ∀ (w : World) (h : Heap), YP w h → (K w.params).In h)
  (F : ∀ (w : World) (mg : Str → Option Value) (fa : Addr) (h : Heap), (K w.params).In h → h.Ns mainGlobals mg → mg d.name = some (.ref fa) →
   ∃ fd : FuncData, (∀ (s : Shared) (u : Value), BindsTo s fd ⟨[u], []⟩ [("_law_script", u)]) ∧ ∀ base : Heap, (K w.params).In base → base.Ns mainGlobals mg → FnOk l.prog w (K w.params) mg base CX0 5 fa fd ["_law_script"] (spLaw (K w.params))) :
  PySem.W.WalkO q loose XP YP l.row.toRowW d [] (fun f vs => PySem.call f vs) :=
 L2.walk_of (n := 63) (k := 5) (x := "_law_script") (CX := fun _ => CX0) (sp := fun w => spLaw (K w.params)) hn (by decide) hdf ⟨rfl, by decide, by decide, rfl⟩ hY F (fun _ _ a ns hl _ hS => ⟨a, ns, rfl, hS, hl, fun _ => rfl⟩) fun _ _ _ _ _ z => z
end C28
namespace PySem.W.Fast
def tw2454426510353822506:=0
def tw3163108562046482581:=0
def tw17246373920008688103:=0
def tw1670714664935694098:=0
def tw805122161909079402:=0
def tw7637474880279775486:=0
def tw4791023711946672229:=0
def tw5863885825750835069:=0
def tw16352403183371133478:=0
def tw10272782890129023068:=0
def tw12405418684187932341:=0
def tw10455613184051594639:=0
def tw7750681128025420529:=0
def tw17931728412163833026:=0
def tw17753279930750356392:=0
def tw12866469658899669648:=0
def tw4273428760674939777:=0
def tw10709022580060875131:=0
def tw12912776798712574461:=0
def tw12343735114208296118:=0
def tw16714545259206807921:=0
def tw62410505301017908:=0
def tw9771578911274828095:=0
def tw5587095526578008254:=0
def tw9772147369127289830:=0
def tw18385106847514140764:=0
def tw14505672120424077096:=0
def tw12062503573125959422:=0
def tw10888126482197164328:=0
def tw16882160256631165414:=0
def tw2126787556279568406:=0
def tw9133750733636217291:=0
def tw584739872217285290:=0
def tw15791840843013299366:=0
def tw9999418618643480218:=0
def tw5272887905539213611:=0
def tw8615718554237979758:=0
def tw1177903666242978113:=0
def tw16293119779403774055:=0
def tw2891690671323069889:=0
def tw16108482699932380543:=0
def tw10122916057712676642:=0
def tw14200357486023764662:=0
def tw15010272076985653611:=0
def tw5133987344418085222:=0
def tw10282363572954815157:=0
def tw14475623390623132581:=0
def tw892030403734888932:=0
def tw17710249723444860398:=0
def tw2840773872281713568:=0
def tw10504564397581966967:=0
def tw15966480098034877465:=0
def tw8282676856825719531:=0
def tw3975441028495771355:=0
def tw500402980647564342:=0
def tw4755034333320125550:=0
def tw11099778246391386386:=0
def tw14760256776723853646:=0
def tw8450804159740871020:=0
def tw7554966287151485315:=0
def tw8803828141564859462:=0
def tw9239998116394466834:=0
def tw1022611361482910181:=0
def tw16442682118462605047:=0
def tw10535258570340382152:=0
def tw11698652585795800119:=0
def tw7526685186471285077:=0
def tw9917989397631463845:=0
def tw12054483044907274190:=0
def tw8632584076665132238:=0
def tw9357139415160700538:=0
def tw9047268259421734053:=0
def tw4342874329713051459:=0
def tw11445045713101740403:=0
def tw10770759338115765939:=0
def tw1626021421203513971:=0
def tw15392095997186656184:=0
def tw9069410886854282600:=0
def tw6056579103263178030:=0
def tw1757734159060981857:=0
def tw14805567972504145106:=0
def tw8718682366743232427:=0
def tw14666757308992241971:=0
def tw3724915767781712686:=0
def tw17203478946559229087:=0
def tw8095503510669246947:=0
def tw2498009898957898720:=0
def tw4655781082267789811:=0
def tw10260885696472429479:=0
def tw3578369788798064003:=0
def tw10294678093953306304:=0
def tw547171732352008933:=0
def tw1725844340117302209:=0
def tw4388559020405916333:=0
def tw12201882576312461581:=0
def tw1284505295993094299:=0
def tw16711175689214258046:=0
def tw3129517749881727676:=0
def tw11945320250273137826:=0
def tw14237027784376278528:=0
def tw10392146994936241522:=0
def tw7144656170328824850:=0
def tw483960059786051915:=0
def tw3741983611174417132:=0
def tw7204037060559974666:=0
def tw8542130704856654561:=0
def tw182522152290388981:=0
def tw11735695907782211457:=0
def tw179784028817310486:=0
def tw3936250108219097648:=0
def tw13675529324430379646:=0
def tw4520199296644980773:=0
def tw468444771814828475:=0
def tw6091155648381948092:=0
def tw16512162793669518111:=0
def tw383387694495217094:=0
def tw4842238005414565724:=0
end PySem.W.Fast
open PySem PySem.W PyProof.Rows
set_option maxRecDepth 100000 in
set_option maxHeartbeats 0 in
theorem PySem.Challenge.cw_classtab_k28_deeds_on_sides_holds : PySem.Challenge.rw_classtab_k28_deeds_on_sides.Holds := by
 w_on; o_law; k_head; (case hw => w_witness2)
 k_fill
 refine C28.walk (l := PySem.Challenge.rw_classtab_k28_deeds_on_sides) rfl rfl (fun w h Y => PySem.W.kIn_of Y) ?F
 case F =>
  intro w mg fa h KX G hmg
  refine' C28.all_mk KX G hmg (L2.DefIn.mk ?ia1 ?il1 ?ic1 ?ik1) (L2.DefIn.mk ?ia2 ?il2 ?ic2 ?ik2) (L2.DefIn.mk ?ia3 ?il3 ?ic3 ?ik3) (L2.DefIn.mk ?ia4 ?il4 ?ic4 ?ik4) (L2.DefIn.mk ?ia5 ?il5 ?ic5 ?ik5) (L2.DefIn.mk ?ia6 ?il6 ?ic6 ?ik6) (L2.DefIn.mk ?ia7 ?il7 ?ic7 ?ik7) (L2.DefIn.mk ?ia8 ?il8 ?ic8 ?ik8) (L2.DefIn.mk ?ia9 ?il9 ?ic9 ?ik9) (L2.DefIn.mk ?ia10 ?il10 ?ic10 ?ik10) (L2.DefIn.mk ?ia11 ?il11 ?ic11 ?ik11) (L2.DefIn.mk ?ia12 ?il12 ?ic12 ?ik12) (L2.DefIn.mk ?ia13 ?il13 ?ic13 ?ik13) (L2.DefIn.mk ?ia14 ?il14 ?ic14 ?ik14) (L2.DefIn.mk ?ia15 ?il15 ?ic15 ?ik15) (L2.DefIn.mk ?ia16 ?il16 ?ic16 ?ik16) (L2.DefIn.mk ?ia17 ?il17 ?ic17 ?ik17) (L2.DefIn.mk ?ia18 ?il18 ?ic18 ?ik18) (L2.DefIn.mk ?ia19 ?il19 ?ic19 ?ik19) (L2.DefIn.mk ?ia20 ?il20 ?ic20 ?ik20) (L2.DefIn.mk ?ia21 ?il21 ?ic21 ?ik21) ?im ?iz1 ?iz2 ?iz3 ?iz4 ?iz5 ?iz6 ?iz7 ?iz8 ?iz9 ?iz10 ?iz11 ?iz12 ?iz13 ?iz14 ?iz15
  (case ia1 => k_is); (case il1 => k_is); (case ic1 => k_is); (case ik1 => k_is)
  (case ia2 => k_is); (case il2 => k_is); (case ic2 => k_is); (case ik2 => k_is)
  (case ia3 => k_is); (case il3 => k_is); (case ic3 => k_is); (case ik3 => k_is)
  (case ia4 => k_is); (case il4 => k_is); (case ic4 => k_is); (case ik4 => k_is)
  (case ia5 => k_is); (case il5 => k_is); (case ic5 => k_is); (case ik5 => k_is)
  (case ia6 => k_is); (case il6 => k_is); (case ic6 => k_is); (case ik6 => k_is)
  (case ia7 => k_is); (case il7 => k_is); (case ic7 => k_is); (case ik7 => k_is)
  (case ia8 => k_is); (case il8 => k_is); (case ic8 => k_is); (case ik8 => k_is)
  (case ia9 => k_is); (case il9 => k_is); (case ic9 => k_is); (case ik9 => k_is)
  (case ia10 => k_is); (case il10 => k_is); (case ic10 => k_is); (case ik10 => k_is)
  (case ia11 => k_is); (case il11 => k_is); (case ic11 => k_is); (case ik11 => k_is)
  (case ia12 => k_is); (case il12 => k_is); (case ic12 => k_is); (case ik12 => k_is)
  (case ia13 => k_is); (case il13 => k_is); (case ic13 => k_is); (case ik13 => k_is)
  (case ia14 => k_is); (case il14 => k_is); (case ic14 => k_is); (case ik14 => k_is)
  (case ia15 => k_is); (case il15 => k_is); (case ic15 => k_is); (case ik15 => k_is)
  (case ia16 => k_is); (case il16 => k_is); (case ic16 => k_is); (case ik16 => k_is)
  (case ia17 => k_is); (case il17 => k_is); (case ic17 => k_is); (case ik17 => k_is)
  (case ia18 => k_is); (case il18 => k_is); (case ic18 => k_is); (case ik18 => k_is)
  (case ia19 => k_is); (case il19 => k_is); (case ic19 => k_is); (case ik19 => k_is)
  (case ia20 => k_is); (case il20 => k_is); (case ic20 => k_is); (case ik20 => k_is)
  (case ia21 => k_is); (case il21 => k_is); (case ic21 => k_is); (case ik21 => k_is)
  (case im => k_is)
  (case iz1 => k_is); (case iz2 => k_is); (case iz3 => k_is); (case iz4 => k_is); (case iz5 => k_is); (case iz6 => k_is); (case iz7 => k_is); (case iz8 => k_is); (case iz9 => k_is); (case iz10 => k_is); (case iz11 => k_is); (case iz12 => k_is); (case iz13 => k_is); (case iz14 => k_is); (case iz15 => k_is)
