import PyProof.Rows.All
import Wide.All
import OpenK.AllK
import Wide.FinOn
import Lean
import PyProof.EqAt
import PyProof.EqKinds
import PyProof.TupleCall
import KE.KSortTup
import PyProof.EnumMake
import PyProof.EnumFor
import PyProof.TupleIter
import PyProof.Rows.Range3
import PyProof.ExcInit
import PyProof.ExcClass2
import PyProof.ExcClsAt2
import PyProof.ExcBaseAll.ValueError
import PyProof.InstStoreFacts
import PyProof.InstLoad
import PyProof.ExcAttrAll.ValueError
import PyProof.StationsW
import PyProof.RulesAs
import PyProof.NsDelKeeps
import PyProof.IsiBase
import KE.KIsAll
import PySem.Challenge.RW_classtab_k06_groups_or_not
set_option Elab.async false
set_option linter.all false
set_option maxRecDepth 100000
namespace L2
open PySem PySem.Spec PyProof.Rows
abbrev Key := Sum Int Str
def keyIs : Key → Value → Bool
 | .inl k, v => Value.isInt k v
 | .inr x, v => Value.isStrOf x v
def keyH (w : World) : Key → Int
 | .inl k => hashInt k
 | .inr x => hashStr w x
theorem keyIs_shape : ∀ {k : Key} {v : Value}, keyIs k v = true → (∃ i t, k = Sum.inl i ∧ v = Value.int i t) ∨ (∃ x t, k = Sum.inr x ∧ v = Value.str x t)
 | .inl i, v, h => by
  obtain ⟨t, e⟩ := Value.isInt_shape (k := i) (v := v) h
  exact .inl ⟨i, t, rfl, e⟩
 | .inr x, v, h => by
  obtain ⟨t, e⟩ := Value.isStrOf_shape (x := x) (v := v) h
  exact .inr ⟨x, t, rfl, e⟩
theorem key_ll (a b : Int) : decide ((Sum.inl a : Key) = Sum.inl b) = (a == b) := by
 by_cases e : a = b
 ·subst e; simp
 ·have h : ¬ (Sum.inl a : Key) = Sum.inl b := fun q => e (Sum.inl.inj q)
  rw [decide_eq_false h]
  exact (beq_eq_false_iff_ne.mpr e).symm
theorem key_rr (a b : Str) : decide ((Sum.inr a : Key) = Sum.inr b) = decide (a = b) := by
 by_cases e : a = b
 ·subst e; simp
 ·have h : ¬ (Sum.inr a : Key) = Sum.inr b := fun q => e (Sum.inr.inj q)
  rw [decide_eq_false h, decide_eq_false e]
theorem key_lr (a : Int) (b : Str) : decide ((Sum.inl a : Key) = Sum.inr b) = false := decide_eq_false (fun q => nomatch q)
theorem key_rl (a : Str) (b : Int) : decide ((Sum.inr a : Key) = Sum.inl b) = false := decide_eq_false (fun q => nomatch q)
def mixKind (prog : Program) (w : World) : PySem.KeyKind prog w Key where
 is := keyIs
 hash := keyH w
 inj := fun v a b ha hb => by
  rcases keyIs_shape ha with ⟨i, t, rfl, rfl⟩ | ⟨x, t, rfl, rfl⟩
  ·rcases keyIs_shape hb with ⟨j, u, rfl, e⟩ | ⟨y, u, rfl, e⟩
   ·injection e with e1 _; rw [e1]
   ·exact nomatch e
  ·rcases keyIs_shape hb with ⟨j, u, rfl, e⟩ | ⟨y, u, rfl, e⟩
   ·exact nomatch e
   ·injection e with e1 _; rw [e1]
 byValue := fun k v h => by
  rcases keyIs_shape h with ⟨i, t, rfl, rfl⟩ | ⟨x, t, rfl, rfl⟩ <;> rfl
 pyHash := fun hv h => by
  rcases keyIs_shape hv with ⟨i, t, rfl, rfl⟩ | ⟨x, t, rfl, rfl⟩
  ·exact wpAny_pyHash_int h
  ·exact wpAny_pyHash_str h
 eqBool := fun hu hv h => by
  rcases keyIs_shape hu with ⟨i, t, rfl, rfl⟩ | ⟨x, t, rfl, rfl⟩
  ·rcases keyIs_shape hv with ⟨j, u, rfl, rfl⟩ | ⟨y, u, rfl, rfl⟩
   ·rw [key_ll] at h; exact wpAny_eqBool_int h
   ·rw [key_lr] at h; exact SeqAt.EqAt.int_str i t y u _ _ _ _ h
  ·rcases keyIs_shape hv with ⟨j, u, rfl, rfl⟩ | ⟨y, u, rfl, rfl⟩
   ·rw [key_rl] at h; exact SeqAt.EqAt.str_int x t j u _ _ _ _ h
   ·rw [key_rr] at h; exact wpAny_eqBool_str h
 «strs» := fun k x t v h => by
  rcases keyIs_shape h with ⟨i, u, rfl, e⟩ | ⟨y, u, rfl, e⟩
  ·exact nomatch e
  ·injection e with e1 _
   subst e1
   cases v <;> rfl
inductive V where
 | non | bl (b : Bool) | int (i : Int) | str (x : Str) | byt (b : Array UInt8) | flt (b : UInt64) | ref (a : Addr) | ty (n : String)
 deriving DecidableEq
def RelV : V → Value → Prop
 | .non, u => u = Value.none
 | .bl b, u => u = Value.bool b
 | .int i, u => ∃ t, u = Value.int i t
 | .str x, u => ∃ t, u = Value.str x t
 | .byt b, u => ∃ t, u = Value.bytes b t
 | .flt b, u => ∃ t, u = Value.float b t
 | .ref a, u => u = Value.ref a
 | .ty n, u => u = Value.type n
abbrev Vals : List V → List Value → Prop := Paired RelV
theorem Vals.length {xs : List V} {us : List Value} (r : Vals xs us) : xs.length = us.length := Paired.length r
theorem Vals.get : ∀ {xs : List V} {us : List Value} {i : Nat} {x : V}, Vals xs us → xs[i]? = some x → ∃ u, us[i]? = some u ∧ RelV x u
 | _, _, _, _, .nil, e => by simp at e
 | _, _, 0, _, .cons r _, e => by simp at e; subst e; exact ⟨_, rfl, r⟩
 | _, _, i + 1, x, .cons _ t, e => by
  obtain ⟨u, h1, h2⟩ := Vals.get (i := i) (x := x) t (by simpa using e)
  exact ⟨u, by simpa using h1, h2⟩
theorem Vals.set {x : V} {u : Value} (r : RelV x u) : ∀ {xs : List V} {us : List Value} (i : Nat), Vals xs us → Vals (xs.set i x) (us.set i u)
 | _, _, _, .nil => .nil
 | _, _, 0, .cons _ t => .cons r t
 | _, _, i + 1, .cons q t => .cons q (Vals.set r i t)
theorem Vals.append : ∀ {xs ys : List V} {us ws : List Value}, Vals xs us → Vals ys ws → Vals (xs ++ ys) (us ++ ws)
 | _, _, _, _, .nil, s => s
 | _, _, _, _, .cons r t, s => .cons r (Vals.append t s)
theorem Vals.take : ∀ {xs : List V} {us : List Value} (n : Nat), Vals xs us → Vals (xs.take n) (us.take n)
 | _, _, 0, _ => .nil
 | _, _, _ + 1, .nil => .nil
 | _, _, n + 1, .cons r t => .cons r (Vals.take n t)
theorem Vals.drop : ∀ {xs : List V} {us : List Value} (n : Nat), Vals xs us → Vals (xs.drop n) (us.drop n)
 | _, _, 0, r => r
 | _, _, _ + 1, .nil => .nil
 | _, _, n + 1, .cons _ t => Vals.drop n t
def RelO : Option V → Option Value → Prop
 | some v, some u => RelV v u
 | none, none => True
 | _, _ => False
def KV {κ : Type} : List (κ × V) → List (κ × Value) → Prop := Paired fun (p : κ × V) (q : κ × Value) => p.1 = q.1 ∧ RelV p.2 q.2
def kV : Key → V
 | .inl i => .int i
 | .inr x => .str x
inductive HO where
 | lst (xs : List V)
 | tup (xs : List V)
 | dK (kvs : List (Key × V)) | dT (kvs : List (List Key × V))
 | set (S : Int → Bool) (n : Nat)
 | ins (C dx : Addr) (fs : List (Str × V))
 | own (x : Addr)
 | xd (fs : List (Str × V))
 | met (f x : Addr)
 | rng (lo hi : Int)
 | frz (o : Obj) (u : HO)
 | tbl (ps : Array Value)
 | ext (φ : Heap → Prop)
abbrev Hp := Addr → Option HO
def upd (H : Hp) (a : Addr) (o : HO) : Hp := fun b => if b = a then some o else H b
theorem upd_same {H : Hp} {a : Addr} {o : HO} : upd H a o a = some o := by unfold upd; rw [if_pos rfl]
theorem upd_ne {H : Hp} {a b : Addr} {o : HO} (h : b ≠ a) : upd H a o b = H b := by unfold upd; rw [if_neg h]
theorem ne_of_none {H : Hp} {a b : Addr} {o : HO} (h : H a = some o) (h' : H b = none) : a ≠ b := by
 intro e; subst e; rw [h] at h'; cases h'
section
variable (P : Program) (w : World)
def ObjOk (H : Hp) (h : Heap) (a : Addr) : HO → Prop
 | .lst xs => xs.length ≤ sizeLine ∧ ∃ (its : List Value) (n : Nat), Vals xs its ∧ h.get? a = some { cls := .type "list", data := .seq its.toArray n }
 | .tup xs => xs.length ≤ sizeLine ∧ ∃ its : List Value, Vals xs its ∧ IsTup h a its.toArray
 | .dK kvs => kvs.length ≤ sizeLine ∧ (a == sysModules) = false ∧ ∃ vs, KV kvs vs ∧ h.DictOf (mixKind P w) a vs
 | .dT kvs => kvs.length ≤ sizeLine ∧ (a == sysModules) = false ∧ ∃ xs : List (List Key × Addr × Value),
   Paired (fun (p : List Key × V) (q : List Key × Addr × Value) => p.1 = q.1 ∧ H q.2.1 = some (.tup (p.1.map kV)) ∧ RelV p.2 q.2.2) kvs xs ∧
   ∃ o es ep, h.get? a = some o ∧ o.ExactDict ∧ o.data = .dict es ep ∧ es.toList = xs.map (entryOfKey (tupleKind (mixKind P w))) ∧ (xs.map (·.1)).Nodup
 | .set S n => h.SetOf (intKind P w) a S n
 | .ins C dx fs => H dx = some (.own a) ∧ fs.length ≤ 1000 ∧ dx ≠ a ∧ h.get? a = some (PySem.W.instObj C dx) ∧
   ∃ mA, h.Ns1 dx mA ∧ (∀ f, RelO (fs.lookup f) (mA f)) ∧ PySem.Within mA (fs.map (·.1))
 | .own _ => ∃ o, h.get? a = some o
 | .xd fs => ∃ mA, h.Ns1 a mA ∧ ∀ f, RelO (fs.lookup f) (mA f)
 | .rng lo hi => ∃ t u v, h.get? a = some { cls := .type "range", data := .fields #[.int lo t, .int hi u, .int 1 v] }
 | .frz o u => h.get? a = some o ∧ ObjOk H h a u
 | .tbl ps => h.get? a = some { cls := .none, data := .fields ps }
 | .met f x => h.get? a = some (PySem.W.methodObj (.ref f) (.ref x))
 | .ext φ => φ h ∧ (∃ o, h.get? a = some o) ∧ ∀ h1 h2 : Heap, φ h1 → (∀ o, h1.get? a = some o → h2.get? a = some o) → φ h2
def HOk (H : Hp) (h : Heap) : Prop := ∀ a o, H a = some o → ObjOk P w H h a o
end
section
variable {P : Program} {w : World} {H H' : Hp} {h h' : Heap} {a : Addr} {o : HO}
theorem ObjOk.lt (x : ObjOk P w H h a o) : a < h.objs.size := by
 cases o with
 | lst xs => obtain ⟨_, _, _, _, e⟩ := x; exact Heap.lt_size e
 | tup xs => obtain ⟨_, _, _, p⟩ := x; exact p.lt
 | dK kvs => obtain ⟨_, _, _, _, o, _, _, e, _⟩ := x; exact Heap.lt_size e
 | dT kvs => obtain ⟨_, _, _, _, o, _, _, e, _⟩ := x; exact Heap.lt_size e
 | set S n => obtain ⟨o, _, _, _, e, _⟩ := x; exact Heap.lt_size e
 | ins C dx fs => obtain ⟨_, _, _, e, _⟩ := x; exact Heap.lt_size e
 | own y => obtain ⟨_, e⟩ := x; exact Heap.lt_size e
 | xd fs => obtain ⟨_, ⟨_, _, _, e, _⟩, _⟩ := x; exact Heap.lt_size e
 | rng lo hi => obtain ⟨_, _, _, e⟩ := x; exact Heap.lt_size e
 | frz ob u => obtain ⟨e, _⟩ := x; exact Heap.lt_size e
 | tbl ps => exact Heap.lt_size (show h.get? a = some _ from x)
 | met f y => exact Heap.lt_size (show h.get? a = some _ from x)
 | ext φ => obtain ⟨_, ⟨_, e⟩, _⟩ := x; exact Heap.lt_size e
theorem Paired.mapP {α β : Type} {F G : α → β → Prop} : ∀ {l₁ : List α} {l₂ : List β}, Paired F l₁ l₂ → (∀ a b, F a b → G a b) → Paired G l₁ l₂
 | _, _, .nil, _ => .nil
 | _, _, .cons r t, f => .cons (f _ _ r) (Paired.mapP t f)
theorem ObjOk.stay (x : ObjOk P w H h a o) (k : ∀ b u, (b = a ∨ H b = some (.own a)) → h.get? b = some u → h'.get? b = some u)
  (ho : ∀ b, H b = some (.own a) → H' b = some (.own a)) (ht : ∀ b xs, H b = some (.tup xs) → H' b = some (.tup xs)) : ObjOk P w H' h' a o := by
 induction o with
 | lst xs => obtain ⟨z, its, n, r, e⟩ := x; exact ⟨z, its, n, r, k _ _ (.inl rfl) e⟩
 | tup xs => obtain ⟨z, its, r, ob, e, c⟩ := x; exact ⟨z, its, r, ob, k _ _ (.inl rfl) e, c⟩
 | dK kvs => obtain ⟨z, y, vs, r, ob, es, ep, e, c⟩ := x; exact ⟨z, y, vs, r, ob, es, ep, k _ _ (.inl rfl) e, c⟩
 | dT kvs =>
  obtain ⟨z, y, xs, r, ob, es, ep, e, c⟩ := x
  exact ⟨z, y, xs, Paired.mapP r fun p q z => ⟨z.1, ht _ _ z.2.1, z.2.2⟩, ob, es, ep, k _ _ (.inl rfl) e, c⟩
 | set S n => obtain ⟨ob, es, ep, t, e, c⟩ := x; exact ⟨ob, es, ep, t, k _ _ (.inl rfl) e, c⟩
 | ins C dx fs =>
  obtain ⟨d, z, ne, e, mA, ⟨od, es, ep, e2, c⟩, r⟩ := x
  exact ⟨ho _ d, z, ne, k _ _ (.inl rfl) e, mA, ⟨od, es, ep, k _ _ (.inr d) e2, c⟩, r⟩
 | own y => obtain ⟨ob, e⟩ := x; exact ⟨ob, k _ _ (.inl rfl) e⟩
 | xd fs => obtain ⟨mA, ⟨od, es, ep, e, c⟩, r⟩ := x; exact ⟨mA, ⟨od, es, ep, k _ _ (.inl rfl) e, c⟩, r⟩
 | rng lo hi => obtain ⟨t, u, v, e⟩ := x; exact ⟨t, u, v, k _ _ (.inl rfl) e⟩
 | frz ob u ih => obtain ⟨e, q⟩ := x; exact ⟨k _ _ (.inl rfl) e, ih q⟩
 | tbl ps =>
  have e : h.get? a = some { cls := .none, data := .fields ps } := x
  show h'.get? a = some { cls := .none, data := .fields ps }
  exact k a _ (.inl rfl) e
 | met f y =>
  have e : h.get? a = some (PySem.W.methodObj (.ref f) (.ref y)) := x
  show h'.get? a = some (PySem.W.methodObj (.ref f) (.ref y))
  exact k a _ (.inl rfl) e
 | ext φ => obtain ⟨p, ⟨o, e⟩, st⟩ := x; exact ⟨st _ _ p fun o q => k _ _ (.inl rfl) q, ⟨o, k _ _ (.inl rfl) e⟩, st⟩
theorem HOk.lt (x : HOk P w H h) (e : H a = some o) : a < h.objs.size := (x a o e).lt
theorem HOk.fresh (x : HOk P w H h) (e : h.objs.size ≤ a) : H a = none := by
 cases q : H a with
 | none => rfl
 | some u => exact absurd (Nat.lt_of_lt_of_le (x.lt q) e) (Nat.lt_irrefl _)
theorem HOk.kept (x : HOk P w H h) (k : ∀ b u, h.get? b = some u → h'.get? b = some u) : HOk P w H h' := fun a o e =>
 (x a o e).stay (fun b u _ q => k b u q) (fun _ q => q) fun _ _ q => q
theorem HOk.laid (x : HOk P w H h) (k : ∀ b u, h.get? b = some u → h'.get? b = some u) (hp : h.objs.size ≤ a) (new : ObjOk P w (upd H a o) h' a o) : HOk P w (upd H a o) h' := fun b u e => by
 have hn := x.fresh hp
 by_cases hb : b = a
 ·subst hb; rw [upd_same] at e; cases e; exact new
 ·rw [upd_ne hb] at e
  exact (x b u e).stay (fun c v _ q => k c v q) (fun c q => by rw [upd_ne (ne_of_none q hn)]; exact q) fun c xs q => by rw [upd_ne (ne_of_none q hn)]; exact q
end
def Rd (H : Hp) (a : Addr) (u : HO) : Prop := H a = some u ∨ ∃ o, H a = some (.frz o u)
theorem Rd.ok {P : Program} {w : World} {H : Hp} {h : Heap} {a : Addr} {u : HO} (r : Rd H a u) (x : HOk P w H h) : ObjOk P w H h a u := by
 rcases r with r | ⟨o, r⟩
 ·exact x a u r
 ·obtain ⟨_, q⟩ := x a _ r
  exact q
def Mut : Option HO → Prop
 | some (.lst _) => True
 | some (.dK _) => True
 | some (.dT _) => True
 | some (.set _ _) => True
 | some (.ins _ _ _) => True
 | some (.ext _) => True
 | _ => False
section
variable {P : Program} {w : World} {H : Hp} {h h' : Heap} {x e : Addr} {o' : HO}
theorem HOk.write (ok : HOk P w H h) (mu : Mut (H x)) (he : e = x ∨ H e = some (.own x)) (k : ∀ b u, b ≠ e → h.get? b = some u → h'.get? b = some u) (heo : ∃ u, h'.get? e = some u)
  (new : ObjOk P w (upd H x o') h' x o') : HOk P w (upd H x o') h' := fun b u q => by
 have nown : ∀ c y, H c = some (.own y) → c ≠ x := fun c y r z => by subst z; rw [r] at mu; exact mu
 have ntup : ∀ c xs, H c = some (.tup xs) → c ≠ x := fun c xs r z => by subst z; rw [r] at mu; exact mu
 by_cases hb : b = x
 ·subst hb; rw [upd_same] at q; cases q; exact new
 ·rw [upd_ne hb] at q
  by_cases hbe : b = e
  ·have q' : H b = some (.own x) := by
    rcases he with z | z
    ·exact absurd (hbe.trans z) hb
    ·rw [hbe]; exact z
   rw [q] at q'; cases q'
   obtain ⟨v, hv⟩ := heo
   exact ⟨v, by rw [hbe]; exact hv⟩
  ·refine (ok b u q).stay (fun c v hc r => k c v ?_ r) (fun c r => by rw [upd_ne (nown c b r)]; exact r) fun c xs r => by rw [upd_ne (ntup c xs r)]; exact r
   rcases hc with rfl | hc
   ·exact hbe
   ·rintro rfl
    rcases he with z | z
    ·exact nown c b hc z
    ·rw [hc] at z; cases z; exact hb rfl
end
structure Un (fs ex : List Addr) (H H' : Hp) (h h' : Heap) : Prop where
 keep : ∀ b o, h.get? b = some o → H b = none → b ∉ fs → b ∉ ex → h'.get? b = some o
 slot : ∀ b o, h.get? b = some o → H b = none → b ∈ fs → b ∉ ex → ∃ sl, h'.get? b = some { o with slots := sl }
 free : ∀ b o, h.get? b = some o → H b = none → b ∉ ex → H' b = none
 there : ∀ b o, h.get? b = some o → b ∉ ex → ∃ o', h'.get? b = some o'
 tups : ∀ b xs, H b = some (.tup xs) → H' b = some (.tup xs)
 frzs : ∀ b o u, H b = some (.frz o u) → H' b = some (.frz o u)
 tbls : ∀ b ps, H b = some (.tbl ps) → ∃ more, H' b = some (.tbl (ps ++ more))
section
variable {fs fs' ex ex' : List Addr} {H H1 H2 : Hp} {h h1 h2 h' : Heap} {a x e : Addr} {o : HO}
theorem Un.any (u : Un fs ex H H1 h h1) {b : Addr} {ob : Obj} (q : h.get? b = some ob) (n : H b = none) (hx : b ∉ ex) : ∃ sl, h1.get? b = some { ob with slots := sl } := by
 by_cases hb : b ∈ fs
 ·exact u.slot b ob q n hb hx
 ·exact ⟨ob.slots, u.keep b ob q n hb hx⟩
theorem Un.kept (k : ∀ b u, h.get? b = some u → h'.get? b = some u) : Un fs ex H H h h' :=
 ⟨fun b ob q _ _ _ => k b ob q, fun b ob q _ _ _ => ⟨ob.slots, k b ob q⟩, fun _ _ _ n _ => n, fun b ob q _ => ⟨ob, k b ob q⟩, fun _ _ q => q, fun _ _ _ q => q, fun _ ps q => ⟨#[], by rw [q]; simp⟩⟩
theorem Un.refl : Un fs ex H H h h := Un.kept fun _ _ q => q
theorem Un.laid (k : ∀ b u, h.get? b = some u → h'.get? b = some u) (hp : h.objs.size ≤ a) (hn : H a = none) : Un fs ex H (upd H a o) h h' where
 keep := fun b u q _ _ _ => k b u q
 slot := fun b u q _ _ _ => ⟨u.slots, k b u q⟩
 free := fun b u q n _ => by rw [upd_ne (Nat.ne_of_lt (Nat.lt_of_lt_of_le (Heap.lt_size q) hp))]; exact n
 there := fun b u q _ => ⟨u, k b u q⟩
 tups := fun b xs q => by rw [upd_ne (ne_of_none q hn)]; exact q
 frzs := fun b u xs q => by rw [upd_ne (ne_of_none q hn)]; exact q
 tbls := fun b ps q => ⟨#[], by rw [upd_ne (ne_of_none q hn), q]; simp⟩
theorem Un.write (mu : Mut (H x)) (he : e = x ∨ H e = some (.own x)) (k : ∀ b u, b ≠ e → h.get? b = some u → h'.get? b = some u) (heo : ∃ u, h'.get? e = some u) : Un fs ex H (upd H x o) h h' := by
 have hx : ∀ b, H b = none → b ≠ x := fun b n z => by subst z; rw [n] at mu; exact mu
 have hb : ∀ b, H b = none → b ≠ e := fun b n z => by
  subst z
  rcases he with r | r
  ·exact hx b n r
  ·rw [n] at r; cases r
 have hm : ∀ b u, H b = some u → ¬ Mut (some u) → b ≠ x := fun b u q nm z => by subst z; rw [q] at mu; exact nm mu
 refine ⟨fun b u q n _ _ => k b u (hb b n) q, fun b u q n _ _ => ⟨u.slots, k b u (hb b n) q⟩, fun b u q n _ => by rw [upd_ne (hx b n)]; exact n, fun b u q _ => ?_,
  fun b xs q => by rw [upd_ne (hm b _ q fun z => z)]; exact q, fun b u xs q => by rw [upd_ne (hm b _ q fun z => z)]; exact q, fun b ps q => ⟨#[], by rw [upd_ne (hm b _ q fun z => z), q]; simp⟩⟩
 by_cases hbe : b = e
 ·subst hbe; exact heo
 ·exact ⟨u, k b u hbe q⟩
end
def trk (h : Heap) (H : Hp) : List Addr := (List.range h.objs.size).filter fun a => (H a).isSome
def hidT (h : Heap) (H : Hp) : Heap := PySem.W.hideAll h (trk h H)
theorem hidT_size (h : Heap) (H : Hp) : (hidT h H).objs.size = h.objs.size := PySem.W.hideAll_size _ _
theorem hidT_get {h : Heap} {H : Hp} {b : Addr} {o : Obj} (e : h.get? b = some o) (n : H b = none) : (hidT h H).get? b = some o :=
 PySem.W.hideAll_get _ e fun hm => by
  have q : (H b).isSome = true := (List.mem_filter.mp hm).2
  rw [n] at q; simp at q
theorem of_hidT {h : Heap} {H : Hp} {b : Addr} {o : Obj} (e : (hidT h H).get? b = some o) : h.get? b = some o ∧ H b = none := by
 have e' : h.get? b = some o := PySem.W.of_hideAll (trk h H) e
 refine ⟨e', ?_⟩
 cases q : H b with
 | none => rfl
 | some x =>
  have hm : b ∈ trk h H := List.mem_filter.mpr ⟨List.mem_range.mpr (Heap.lt_size e'), by simp [q]⟩
  have z : (hidT h H).get? b = none := PySem.W.hideAll_none (trk h H) hm
  rw [z] at e; cases e
structure Mod (K : PySem.W.Frag) (mg : Str → Option Value) (base : Heap) : Prop where
 kin : K.In base
 glob : base.Ns mainGlobals mg
 blt : ∃ mb, base.Ns builtinsNs mb ∧ ∀ x : Str, x ≠ "__name__" → mb x = bootBuiltins x
 nolimit : base.NoLimit
structure Cx where
 prog : Program
 w : World
 K : PySem.W.Frag
 mg : Str → Option Value
 base : Heap
 A : Around
 N : List Str
 s₀ : Shared
 H₀ : Hp
 env : Env
 outer : List Env
 stack : List Env
 ex : List Addr
 fn : Str → Bool
 calm : Bool
 pn : List (Addr × Obj)
 xe : Value → Shared → Prop
def frs (l : List Env) : List Addr := l.filterMap (·.frame)
abbrev Cx.fs (X : Cx) : List Addr := frs X.outer
def Vis (sc : Scope) (x : Str) : Prop := sc.names.lookup x = some .local ∨ sc.names.lookup x = some .cell ∨ sc.names.lookup x = some .free
def Loc (sc : Scope) (x : Str) : Prop := sc.names.lookup x = some .local ∨ sc.names.lookup x = some .cell
def Look (env : Env) (h : Heap) (m : Str → Option Value) (x : Str) (u : Value) : Prop :=
 (env.kindOf x = some .local ∧ m x = some u) ∨ ((env.kindOf x = some .cell ∨ env.kindOf x = some .free) ∧ ∃ c, env.cells.lookup x = some c ∧ h.IsCell c (some u))
structure Cx.Ok (X : Cx) : Prop where
 mod : Mod X.K X.mg X.base
 kind : X.env.scope.kind = .function
 glob : X.env.globals = mainGlobals
 blt : X.env.builtins = builtinsNs
 above : X.s₀.heap.objs.size ≤ X.env.locals
 inj : ∀ x y c, X.env.cells.lookup x = some c → X.env.cells.lookup y = some c → x = y
 has : ∀ x, (X.env.kindOf x = some .cell ∨ X.env.kindOf x = some .free) → ∃ c, X.env.cells.lookup x = some c
 cab : ∀ x c, X.fn x = true → X.env.cells.lookup x = some c → X.s₀.heap.objs.size ≤ c
 hd : X.calm = true → X.A.handled = none
 frames : X.A.frames = some X.stack
 stk : X.stack = X.outer ∨ (X.stack = X.env :: X.outer ∧ X.env.frame = some X.env.locals)
 exf : ∀ b ∈ X.ex, b ≠ X.env.locals ∧ ∀ x c, X.env.cells.lookup x = some c → c ≠ b
 bs : ∀ b o, X.base.get? b = some o → X.s₀.heap.get? b = some o ∧ X.H₀ b = none
 bsz : X.base.objs.size ≤ X.s₀.heap.objs.size
 noex : ∀ b o, X.base.get? b = some o → b ∉ X.ex
 exfs : ∀ b ∈ X.ex, b ∉ X.fs
 funs : X.s₀.heap.FunFrames X.base X.outer
 frf : ∀ b ∈ X.fs, X.H₀ b = none
structure Inv (X : Cx) (pins : List (Addr × Obj)) (σ : List (Option V)) (H : Hp) (s : Shared) : Prop where
 ok : X.Ok
 os : s.os = X.s₀.os
 bare : AllBare s.gens
 base : Un X.fs X.ex X.H₀ H X.s₀.heap s.heap
 loc : ∃ m, s.heap.Ns X.env.locals m ∧ ∀ (i : Nat) (x : Str) (v : V), X.N[i]? = some x → σ[i]? = some (some v) → Vis X.env.scope x → ∃ u, RelV v u ∧ Look X.env s.heap m x u
 cell : ∀ x c, X.env.cells.lookup x = some c → ∃ v, s.heap.IsCell c v
 free : H X.env.locals = none
 freeC : ∀ x c, X.env.cells.lookup x = some c → H c = none
 pin : ∀ p ∈ X.pn ++ pins, s.heap.get? p.1 = some p.2 ∧ H p.1 = none ∧ p.1 ≠ X.env.locals ∧ p.1 ∉ X.fs ∧ ∀ v, p.2.data ≠ .cell v
 hok : HOk X.prog X.w H s.heap
 len : σ.length = X.N.length
section
variable {X : Cx} {pins : List (Addr × Obj)} {σ : List (Option V)} {H H' : Hp} {s : Shared} {h' : Heap}
theorem Cx.Ok.nofr (ok : X.Ok) {b : Addr} {o : Obj} (e : X.base.get? b = some o) : b ∉ X.fs := fun hb => by
 have := (ok.funs.mem hb).1
 rw [e] at this; cases this
theorem Inv.bs (I : Inv X pins σ H s) : ∀ b o, X.base.get? b = some o → s.heap.get? b = some o ∧ H b = none := fun b o e =>
 ⟨I.base.keep b o (I.ok.bs b o e).1 (I.ok.bs b o e).2 (I.ok.nofr e) (I.ok.noex b o e), I.base.free b o (I.ok.bs b o e).1 (I.ok.bs b o e).2 (I.ok.noex b o e)⟩
theorem Inv.bk (I : Inv X pins σ H s) : ∀ b o, X.base.get? b = some o → s.heap.get? b = some o := fun b o e => (I.bs b o e).1
theorem Inv.mod (I : Inv X pins σ H s) : Mod X.K X.mg X.base := I.ok.mod
theorem Inv.kIn (I : Inv X pins σ H s) : X.K.In s.heap := I.ok.mod.kin.keeps I.bk
theorem Inv.lt (I : Inv X pins σ H s) : X.env.locals < s.heap.objs.size := let ⟨_, hn, _⟩ := I.loc; hn.lt
theorem Inv.sz (I : Inv X pins σ H s) : X.s₀.heap.objs.size ≤ s.heap.objs.size := Nat.le_trans I.ok.above (Nat.le_of_lt I.lt)
theorem Inv.nofs (I : Inv X pins σ H s) {a : Addr} (h : s.heap.objs.size ≤ a) : a ∉ X.fs := fun hb => by
 obtain ⟨_, o, ho, _⟩ := I.ok.funs.mem hb
 exact absurd (Nat.lt_of_lt_of_le (Heap.lt_size ho) (Nat.le_trans I.sz h)) (Nat.lt_irrefl _)
theorem Inv.cne (I : Inv X pins σ H s) : ∀ x c, X.env.cells.lookup x = some c → c ≠ X.env.locals := fun x c e z => by
 obtain ⟨v, o, ho, hd⟩ := I.cell x c e
 obtain ⟨m, ⟨o', es, ep, ho', hd', _⟩, _⟩ := I.loc
 rw [z, ho'] at ho; cases ho; rw [hd'] at hd; cases hd
theorem Inv.funs (I : Inv X pins σ H s) : s.heap.FunFrames X.base X.outer := by
 have all : ∀ (l : List Env), (∀ b ∈ frs l, b ∈ X.fs) → X.s₀.heap.FunFrames X.base l → s.heap.FunFrames X.base l := by
  intro l
  induction l with
  | nil => intro _ _; trivial
  | cons env r ih =>
   intro hs hl
   obtain ⟨hk, ⟨L, o, hf, hn, ho, hd⟩, hr⟩ := hl
   have hL : L ∈ X.fs := hs L (by unfold frs; rw [List.filterMap_cons, hf]; exact List.mem_cons_self)
   obtain ⟨sl, e⟩ := I.base.slot L o ho (I.ok.frf L hL) hL fun z => I.ok.exfs L z hL
   exact ⟨hk, ⟨L, _, hf, hn, e, hd⟩, ih (fun b hb => hs b (by unfold frs; rw [List.filterMap_cons, hf]; exact List.mem_cons_of_mem _ hb)) hr⟩
 exact all X.outer (fun _ hb => hb) I.ok.funs
theorem Inv.stack (I : Inv X pins σ H s) : s.heap.FunFrames X.base X.stack := by
 rcases I.ok.stk with e | ⟨e, hf⟩
 ·rw [e]; exact I.funs
 ·rw [e]
  obtain ⟨m, hn, _⟩ := I.loc
  refine .cons (by rw [I.ok.kind]; decide) hf hn ?_ I.funs
  exact Heap.get?_none_of_le (Nat.le_trans I.ok.bsz I.ok.above)
theorem Inv.stkSub (I : Inv X pins σ H s) : ∀ b ∈ frs X.stack, b ∈ X.env.locals :: X.fs := fun b hb => by
 rcases I.ok.stk with e | ⟨e, hf⟩
 ·rw [e] at hb; exact List.mem_cons_of_mem _ hb
 ·rw [e] at hb
  unfold frs at hb
  rw [List.filterMap_cons, hf] at hb
  exact hb
theorem Inv.stkFree (I : Inv X pins σ H s) : ∀ b ∈ frs X.stack, H b = none := fun b hb => by
 rcases List.mem_cons.mp (I.stkSub b hb) with e | hb
 ·rw [e]; exact I.free
 ·obtain ⟨_, o, ho, _⟩ := I.ok.funs.mem hb
  exact I.base.free b o ho (I.ok.frf b hb) fun z => I.ok.exfs b z hb
theorem Inv.step {g' : Array GenState} {t' : Nat} {d' : Drawn} {ch : List Addr} (I : Inv X pins σ H s)
  (hch : ∀ b ∈ ch, (b ∈ X.ex ∨ X.s₀.heap.objs.size ≤ b) ∧ b ≠ X.env.locals ∧ (∀ x c, X.env.cells.lookup x = some c → c ≠ b) ∧ ∀ p ∈ X.pn ++ pins, p.1 ≠ b)
  (keep : ∀ b o, b ≠ X.env.locals → b ∉ X.fs → b ∉ ch → s.heap.get? b = some o → H b = none → h'.get? b = some o)
  (slot : ∀ b o, b ≠ X.env.locals → b ∈ X.fs → b ∉ ch → s.heap.get? b = some o → H b = none → ∃ sl, h'.get? b = some { o with slots := sl }) (free : ∀ b o, b ∉ ch → s.heap.get? b = some o → H b = none → H' b = none)
  (there : ∀ b o, b ∉ ch → s.heap.get? b = some o → ∃ o', h'.get? b = some o')
  (tups : ∀ b xs, H b = some (.tup xs) → H' b = some (.tup xs)) (frzs : ∀ b o u, H b = some (.frz o u) → H' b = some (.frz o u)) (tbls : ∀ b ps, H b = some (.tbl ps) → ∃ more, H' b = some (.tbl (ps ++ more)))
  (ns : ∀ m, s.heap.Ns X.env.locals m → h'.Ns X.env.locals m) (hok : HOk X.prog X.w H' h') (hg : AllBare g') :
  Inv X pins σ H' { s with heap := h', gens := g', drawn := d', toks := t' } := by
 have neL : ∀ b o, X.s₀.heap.get? b = some o → b ≠ X.env.locals := fun b o e => Nat.ne_of_lt (Nat.lt_of_lt_of_le (Heap.lt_size e) I.ok.above)
 have neC : ∀ b o, X.s₀.heap.get? b = some o → b ∉ X.ex → b ∉ ch := fun b o e hx hb => by
  rcases (hch b hb).1 with z | z
  ·exact hx z
  ·exact absurd (Nat.lt_of_lt_of_le (Heap.lt_size e) z) (Nat.lt_irrefl _)
 have cellK : ∀ x c, X.env.cells.lookup x = some c → ∀ v, s.heap.IsCell c v → h'.IsCell c v := fun x c e v ⟨o, ho, hd⟩ => by
  have nch : c ∉ ch := fun z => (hch c z).2.2.1 x c e rfl
  by_cases hc : c ∈ X.fs
  ·obtain ⟨sl, q⟩ := slot c o (I.cne x c e) hc nch ho (I.freeC x c e)
   exact ⟨_, q, hd⟩
  ·exact ⟨o, keep c o (I.cne x c e) hc nch ho (I.freeC x c e), hd⟩
 refine ⟨I.ok, I.os, hg, ⟨fun b o e n hb hx => ?_, fun b o e n hb hx => ?_, fun b o e n hx => ?_, fun b o e hx => ?_, fun b xs e => tups b xs (I.base.tups b xs e), fun b o xs e => frzs b o xs (I.base.frzs b o xs e), fun b ps e => ?_⟩, ?_, fun x c e => ?_, ?_, fun x c e => ?_, fun p hp => ?_, hok, I.len⟩
 ·exact keep b o (neL b o e) hb (neC b o e hx) (I.base.keep b o e n hb hx) (I.base.free b o e n hx)
 ·obtain ⟨sl, e1⟩ := I.base.slot b o e n hb hx
  obtain ⟨sl', e2⟩ := slot b _ (neL b o e) hb (neC b o e hx) e1 (I.base.free b o e n hx)
  exact ⟨sl', e2⟩
 ·obtain ⟨o', e1⟩ := I.base.there b o e hx
  exact free b o' (neC b o e hx) e1 (I.base.free b o e n hx)
 ·obtain ⟨o', e1⟩ := I.base.there b o e hx
  exact there b o' (neC b o e hx) e1
 ·obtain ⟨m1, e1⟩ := I.base.tbls b ps e
  obtain ⟨m2, e2⟩ := tbls b _ e1
  exact ⟨m1 ++ m2, by rw [e2, Array.append_assoc]⟩
 ·obtain ⟨m, hn, hl⟩ := I.loc
  refine ⟨m, ns m hn, fun i x v e1 e2 e3 => ?_⟩
  obtain ⟨u, r, l⟩ := hl i x v e1 e2 e3
  refine ⟨u, r, ?_⟩
  rcases l with l | ⟨k, c, e, z⟩
  ·exact .inl l
  ·exact .inr ⟨k, c, e, cellK x c e _ z⟩
 ·obtain ⟨v, z⟩ := I.cell x c e
  exact ⟨v, cellK x c e v z⟩
 ·obtain ⟨m, ⟨o, _, _, ho, _⟩, _⟩ := I.loc
  exact free _ o (fun z => (hch _ z).2.1 rfl) ho I.free
 ·obtain ⟨v, o, ho, hd⟩ := I.cell x c e
  exact free c o (fun z => (hch c z).2.2.1 x c e rfl) ho (I.freeC x c e)
 ·obtain ⟨e, n, ne, nf, d⟩ := I.pin p hp
  have nch : p.1 ∉ ch := fun z => (hch p.1 z).2.2.2 p hp rfl
  exact ⟨keep p.1 p.2 ne nf nch e n, free p.1 p.2 nch e n, ne, nf, d⟩
theorem Inv.un {t' : Nat} (I : Inv X pins σ H s) (u : Un X.fs [] H H' s.heap h') (hok : HOk X.prog X.w H' h') : Inv X pins σ H' { s with heap := h', toks := t' } := by
 obtain ⟨m, ⟨o, es, ep, ho, r⟩, _⟩ := id I.loc
 obtain ⟨sl, hL⟩ := u.any ho I.free (by simp)
 exact I.step (g' := s.gens) (d' := s.drawn) (ch := []) (fun _ z => nomatch z) (fun b o _ hb _ e n => u.keep b o e n hb (by simp)) (fun b o _ hb _ e n => u.slot b o e n hb (by simp)) (fun b o _ e n => u.free b o e n (by simp)) (fun b o _ e => u.there b o e (by simp)) u.tups u.frzs u.tbls (fun m' hm => by
  obtain ⟨o', es', ep', ho', r'⟩ := hm
  rw [ho] at ho'; cases ho'
  exact ⟨_, es', ep', hL, r'⟩) hok I.bare
theorem Inv.call {g' : Array GenState} {t' : Nat} {d' : Drawn} {ch : List Addr} (I : Inv X pins σ H s) (u : Un (frs X.stack) ch H H' s.heap h') (hok : HOk X.prog X.w H' h') (hg : AllBare g')
  (hch : ∀ b ∈ ch, (b ∈ X.ex ∨ X.s₀.heap.objs.size ≤ b) ∧ b ≠ X.env.locals ∧ (∀ x c, X.env.cells.lookup x = some c → c ≠ b) ∧ ∀ p ∈ X.pn ++ pins, p.1 ≠ b) :
  Inv X pins σ H' { s with heap := h', gens := g', drawn := d', toks := t' } := by
 obtain ⟨m, ⟨o, es, ep, ho, r⟩, _⟩ := id I.loc
 obtain ⟨sl, hL⟩ := u.any ho I.free fun z => (hch _ z).2.1 rfl
 exact I.step (ch := ch) hch (fun b o hL hb hc e n => u.keep b o e n (fun z => (List.mem_cons.mp (I.stkSub b z)).elim hL hb) hc) (fun b o _ _ hc e n => u.any e n hc) (fun b o hc e n => u.free b o e n hc) (fun b o hc e => u.there b o e hc) u.tups u.frzs u.tbls (fun m' hm => by
  obtain ⟨o', es', ep', ho', r'⟩ := hm
  rw [ho] at ho'; cases ho'
  exact ⟨_, es', ep', hL, r'⟩) hok hg
theorem Inv.turned {t' : Nat} {it : Addr} (I : Inv X pins σ H s) (k : ∀ b o, b ≠ it → s.heap.get? b = some o → h'.get? b = some o) (hn : H it = none) (hL : it ≠ X.env.locals)
  (h1 : it ∈ X.ex ∨ X.s₀.heap.objs.size ≤ it) (h2 : ∀ x c, X.env.cells.lookup x = some c → c ≠ it) (h3 : ∀ p ∈ X.pn ++ pins, p.1 ≠ it) : Inv X pins σ H { s with heap := h', toks := t' } := by
 have nit : ∀ b u, H b = some u → b ≠ it := fun b u e z => by rw [z, hn] at e; cases e
 refine I.step (g' := s.gens) (d' := s.drawn) (ch := [it]) (fun b hb => ?_) (fun b o _ _ hc e _ => k b o (fun z => hc (by simp [z])) e) (fun b o _ _ hc e _ => ⟨o.slots, k b o (fun z => hc (by simp [z])) e⟩) (fun _ _ _ _ n => n)
  (fun b o hc e => ⟨o, k b o (fun z => hc (by simp [z])) e⟩) (fun _ _ e => e) (fun _ _ _ e => e) (fun b ps e => ⟨#[], by rw [e]; simp⟩) (fun m hm => ?_) (fun b u e => ?_) I.bare
 ·have e : b = it := by simpa using hb
  subst e
  exact ⟨h1, hL, h2, h3⟩
 ·obtain ⟨o, es, ep, ho, r⟩ := hm
  exact ⟨o, es, ep, k _ o (Ne.symm hL) ho, r⟩
 ·refine (I.hok b u e).stay (fun c v hc q => k c v ?_ q) (fun _ q => q) fun _ _ q => q
  rcases hc with z | z
  ·rw [z]; exact nit b u e
  ·exact nit c _ z
theorem Inv.tok (I : Inv X pins σ H s) (t : Nat) : Inv X pins σ H { s with toks := t } := I.un (h' := s.heap) (t' := t) Un.refl I.hok
theorem Inv.kept {t' : Nat} (I : Inv X pins σ H s) (k : ∀ b u, s.heap.get? b = some u → h'.get? b = some u) : Inv X pins σ H { s with heap := h', toks := t' } := I.un (Un.kept k) (I.hok.kept k)
theorem Inv.laid {a : Addr} {o : HO} {t' : Nat} (I : Inv X pins σ H s) (k : ∀ b u, s.heap.get? b = some u → h'.get? b = some u) (hp : s.heap.objs.size ≤ a) (new : ObjOk X.prog X.w (upd H a o) h' a o) :
  Inv X pins σ (upd H a o) { s with heap := h', toks := t' } := I.un (Un.laid k hp (I.hok.fresh hp)) (I.hok.laid k hp new)
theorem Inv.write {x e : Addr} {o : HO} {t' : Nat} (I : Inv X pins σ H s) (mu : Mut (H x)) (he : e = x ∨ H e = some (.own x)) (k : ∀ b u, b ≠ e → s.heap.get? b = some u → h'.get? b = some u) (heo : ∃ u, h'.get? e = some u)
  (new : ObjOk X.prog X.w (upd H x o) h' x o) : Inv X pins σ (upd H x o) { s with heap := h', toks := t' } := I.un (Un.write mu he k heo) (I.hok.write mu he k heo new)
theorem Inv.weak {σ' : List (Option V)} (I : Inv X pins σ H s) (hl : σ'.length = σ.length) (w : ∀ (i : Nat) v, σ'[i]? = some (some v) → σ[i]? = some (some v)) : Inv X pins σ' H s :=
 ⟨I.ok, I.os, I.bare, I.base, let ⟨m, hn, hl'⟩ := I.loc; ⟨m, hn, fun i x v e1 e2 e3 => hl' i x v e1 (w i v e2) e3⟩, I.cell, I.free, I.freeC, I.pin, I.hok, hl.trans I.len⟩
theorem Inv.pins_of {pins' : List (Addr × Obj)} (I : Inv X pins σ H s) (h : ∀ p ∈ pins', s.heap.get? p.1 = some p.2 ∧ H p.1 = none ∧ p.1 ≠ X.env.locals ∧ p.1 ∉ X.fs ∧ ∀ v, p.2.data ≠ .cell v) : Inv X pins' σ H s :=
 ⟨I.ok, I.os, I.bare, I.base, I.loc, I.cell, I.free, I.freeC, fun p hp => (List.mem_append.mp hp).elim (fun z => I.pin p (List.mem_append_left _ z)) (h p), I.hok, I.len⟩
theorem nodup_ix {N : List Str} (hN : N.Nodup) {i j : Nat} {x : Str} (a : N[i]? = some x) (b : N[j]? = some x) : i = j := by
 obtain ⟨h1, e1⟩ := List.getElem?_eq_some_iff.mp a
 obtain ⟨h2, e2⟩ := List.getElem?_eq_some_iff.mp b
 exact (List.getElem_inj hN).mp (e1.trans e2.symm)
theorem store_ok2 {M : Model} {A : Around} {E : Value → Shared → Prop} {i : Nat} {x : Str} {v : V} {u : Value} {Q : Unit → Shared → Prop} (I : Inv X pins σ H s) (hN : X.N.Nodup) (hi : X.N[i]? = some x) (hx : Loc X.env.scope x) (r : RelV v u)
  (h : ∀ s', Inv X pins (σ.set i (some v)) H s' → (∃ a, Heap.SameBut a s.heap s'.heap ∧ (a = X.env.locals ∨ X.env.cells.lookup x = some a)) → Q () s') (hf : X.fn x = true ∨ X.env.scope.names.lookup x = some .local := by first | exact .inl rfl | exact .inr rfl | assumption) : wpAny M A (storeName X.env x u) Q E s := by
 obtain ⟨m, hn, hl⟩ := id I.loc
 have hcls : (X.env.scope.kind == .class || (X.env.scope.kind == .module && X.env.locals != X.env.globals)) = false := by rw [I.ok.kind]; rfl
 have hiσ : i < σ.length := by rw [I.len]; exact (List.getElem?_eq_some_iff.mp hi).1
 have cne := I.cne
 have tracked : ∀ {a : Addr} {h' : Heap}, (∃ o, s.heap.get? a = some o ∧ H a = none) → Heap.SameBut a s.heap h' → HOk X.prog X.w H h' := fun {a h'} ha hs b ob e => by
  obtain ⟨_, _, hfree⟩ := ha
  refine (I.hok b ob e).stay (fun c w' hc q => (hs.2 c ?_).trans q) (fun _ q => q) fun _ _ q => q
  rintro rfl
  rcases hc with rfl | hc
  ·rw [hfree] at e; cases e
  ·rw [hfree] at hc; cases hc
 rcases hx with hk | hk
 ·refine wpAny_storeName_local hk hn (fun h' hn' hs => ?_) hcls
  obtain ⟨oL, _, _, hoL, _⟩ := id hn
  refine h _ ⟨I.ok, I.os, I.bare, ⟨fun b o e n hb hx => ?_, fun b o e n hb hx => ?_, I.base.free, fun b o e hx => ?_, I.base.tups, I.base.frzs, I.base.tbls⟩, ⟨_, hn', fun j y v' e1 e2 e3 => ?_⟩, fun y c e => ?_, I.free, I.freeC, fun p hp => ?_, tracked ⟨oL, hoL, I.free⟩ hs, by simpa using I.len⟩ ⟨_, hs, .inl rfl⟩
  ·exact (hs.2 b (Nat.ne_of_lt (Nat.lt_of_lt_of_le (Heap.lt_size e) I.ok.above))).trans (I.base.keep b o e n hb hx)
  ·obtain ⟨sl, e1⟩ := I.base.slot b o e n hb hx
   exact ⟨sl, (hs.2 b (Nat.ne_of_lt (Nat.lt_of_lt_of_le (Heap.lt_size e) I.ok.above))).trans e1⟩
  ·obtain ⟨o', e1⟩ := I.base.there b o e hx
   exact ⟨o', (hs.2 b (Nat.ne_of_lt (Nat.lt_of_lt_of_le (Heap.lt_size e) I.ok.above))).trans e1⟩
  ·by_cases hj : j = i
   ·subst hj
    rw [hi] at e1; cases e1
    rw [List.getElem?_set_self hiσ] at e2
    cases e2
    exact ⟨u, r, .inl ⟨hk, by simp⟩⟩
   ·rw [List.getElem?_set_ne (Ne.symm hj)] at e2
    obtain ⟨u', r', q⟩ := hl j y v' e1 e2 e3
    refine ⟨u', r', ?_⟩
    rcases q with ⟨k, e⟩ | ⟨k, c, e, z⟩
    ·refine .inl ⟨k, ?_⟩
     have : y ≠ x := fun e => hj (nodup_ix hN e1 (e ▸ hi))
     simp [this, e]
    ·exact .inr ⟨k, c, e, z.sameBut hs (cne y c e)⟩
  ·obtain ⟨w', z⟩ := I.cell y c e
   exact ⟨w', z.sameBut hs (cne y c e)⟩
  ·obtain ⟨e, n, ne, nf, d⟩ := I.pin p hp
   exact ⟨(hs.2 p.1 ne).trans e, n, ne, nf, d⟩
 ·have hfn : X.fn x = true := by
   rcases hf with z | z
   ·exact z
   ·rw [z] at hk; cases hk
  obtain ⟨c, hc⟩ := I.ok.has x (.inl hk)
  obtain ⟨w', z⟩ := I.cell x c hc
  refine wpAny_storeName_cell I.ok.kind hk hc z (fun h' hc' hs => ?_)
  obtain ⟨oc, hoc, hocd⟩ := id z
  refine h { s with heap := h' } ⟨I.ok, I.os, I.bare, ⟨fun b o e n hb hx => ?_, fun b o e n hb hx => ?_, I.base.free, fun b o e hx => ?_, I.base.tups, I.base.frzs, I.base.tbls⟩, ⟨m, hn.sameBut hs (Ne.symm (cne x c hc)), fun j y v' e1 e2 e3 => ?_⟩, fun y c' e => ?_, I.free, I.freeC, fun p hp => ?_, tracked ⟨oc, hoc, I.freeC x c hc⟩ hs, by simpa using I.len⟩ ⟨c, hs, .inr hc⟩
  ·exact (hs.2 b (Nat.ne_of_lt (Nat.lt_of_lt_of_le (Heap.lt_size e) (I.ok.cab x c hfn hc)))).trans (I.base.keep b o e n hb hx)
  ·obtain ⟨sl, e1⟩ := I.base.slot b o e n hb hx
   exact ⟨sl, (hs.2 b (Nat.ne_of_lt (Nat.lt_of_lt_of_le (Heap.lt_size e) (I.ok.cab x c hfn hc)))).trans e1⟩
  ·obtain ⟨o', e1⟩ := I.base.there b o e hx
   exact ⟨o', (hs.2 b (Nat.ne_of_lt (Nat.lt_of_lt_of_le (Heap.lt_size e) (I.ok.cab x c hfn hc)))).trans e1⟩
  ·by_cases hj : j = i
   ·subst hj
    rw [hi] at e1; cases e1
    rw [List.getElem?_set_self hiσ] at e2
    cases e2
    exact ⟨u, r, .inr ⟨.inl hk, c, hc, hc'⟩⟩
   ·rw [List.getElem?_set_ne (Ne.symm hj)] at e2
    obtain ⟨u', r', q⟩ := hl j y v' e1 e2 e3
    refine ⟨u', r', ?_⟩
    rcases q with q | ⟨k, c', e, z'⟩
    ·exact .inl q
    ·refine .inr ⟨k, c', e, z'.sameBut hs ?_⟩
     rintro rfl
     exact hj (nodup_ix hN e1 (I.ok.inj _ _ _ e hc ▸ hi))
  ·by_cases hcc : c' = c
   ·subst hcc; exact ⟨_, hc'⟩
   ·obtain ⟨w2, z2⟩ := I.cell y c' e
    exact ⟨w2, z2.sameBut hs hcc⟩
  ·obtain ⟨e, n, ne, nf, d⟩ := I.pin p hp
   refine ⟨(hs.2 p.1 ?_).trans e, n, ne, nf, d⟩
   intro q
   rw [q, hoc] at e
   have q' : oc = p.2 := Option.some.inj e
   exact d w' (by rw [← q']; exact hocd)
theorem store_ok {M : Model} {A : Around} {E : Value → Shared → Prop} {i : Nat} {x : Str} {v : V} {u : Value} {Q : Unit → Shared → Prop} (I : Inv X pins σ H s) (hN : X.N.Nodup) (hi : X.N[i]? = some x) (hx : Loc X.env.scope x) (r : RelV v u)
  (h : ∀ s', Inv X pins (σ.set i (some v)) H s' → Q () s') (hf : X.fn x = true ∨ X.env.scope.names.lookup x = some .local := by first | exact .inl rfl | exact .inr rfl | assumption) : wpAny M A (storeName X.env x u) Q E s :=
 store_ok2 I hN hi hx r (fun s' I' _ => h s' I') hf
theorem Inv.call' {s' : Shared} {ch : List Addr} (I : Inv X pins σ H s) (ho : s'.os = s.os) (u : Un (frs X.stack) ch H H' s.heap s'.heap) (hok : HOk X.prog X.w H' s'.heap) (hg : AllBare s'.gens)
  (hch : ∀ b ∈ ch, (b ∈ X.ex ∨ X.s₀.heap.objs.size ≤ b) ∧ b ≠ X.env.locals ∧ (∀ x c, X.env.cells.lookup x = some c → c ≠ b) ∧ ∀ p ∈ X.pn ++ pins, p.1 ≠ b) : Inv X pins σ H' s' := by
 obtain ⟨h', g', d', t', o'⟩ := s'
 have e : o' = s.os := ho
 subst e
 exact I.call (g' := g') (t' := t') (d' := d') u hok hg hch
end
abbrev XK := Value → Option Addr → Hp → Prop
abbrev St := List (Option V)
abbrev VK := V → Hp → Prop
abbrev TE := St → Hp → VK → Prop
abbrev TT := St → Hp → (Bool → Hp → Prop) → Prop
abbrev TA := St → Hp → (List V → Hp → Prop) → Prop
structure Ends where
 nx : St → Hp → Prop
 rt : VK
 bk : St → Hp → Prop := fun _ _ => False
 ct : St → Hp → Prop := fun _ _ => False
abbrev TS := Ends → St → Hp → Prop
def EP (X : Cx) (pins : List (Addr × Obj)) (σ : St) (Q : VK) (u : Value) (s' : Shared) : Prop := ∃ v H', Inv X pins σ H' s' ∧ RelV v u ∧ Q v H'
def TP (X : Cx) (pins : List (Addr × Obj)) (σ : St) (Q : Bool → Hp → Prop) (b : Bool) (s' : Shared) : Prop := ∃ H', Inv X pins σ H' s' ∧ Q b H'
def AP (X : Cx) (pins : List (Addr × Obj)) (σ : St) (Q : List V → Hp → Prop) (us : List Value) (s' : Shared) : Prop := ∃ vs H', Inv X pins σ H' s' ∧ Vals vs us ∧ Q vs H'
def SP (X : Cx) (pins : List (Addr × Obj)) (D : Ends) (f : Flow) (s' : Shared) : Prop :=
 match f with
 | .next => ∃ σ' H', Inv X pins σ' H' s' ∧ D.nx σ' H'
 | .brk => ∃ σ' H', Inv X pins σ' H' s' ∧ D.bk σ' H'
 | .cont => ∃ σ' H', Inv X pins σ' H' s' ∧ D.ct σ' H'
 | .ret u => ∃ v σ' H', Inv X pins σ' H' s' ∧ RelV v u ∧ D.rt v H'
def PE (X : Cx) (e : Expr) (t : TE) : Prop :=
 ∀ (pins : List (Addr × Obj)) (s : Shared) (σ : St) (H : Hp) (Q : VK), Inv X pins σ H s → t σ H Q → wpAny (model X.prog X.w) X.A (eval e X.env) (EP X pins σ Q) X.xe s
def PT (X : Cx) (e : Expr) (t : TT) : Prop :=
 ∀ (pins : List (Addr × Obj)) (s : Shared) (σ : St) (H : Hp) (Q : Bool → Hp → Prop), Inv X pins σ H s → t σ H Q → wpAny (model X.prog X.w) X.A (isTrue e X.env (eval e X.env)) (TP X pins σ Q) X.xe s
def PW (X : Cx) (e : Expr) (t : TT) : Prop :=
 ∀ (whole : Sem Value) (pins : List (Addr × Obj)) (s : Shared) (σ : St) (H : Hp) (Q : Bool → Hp → Prop), Inv X pins σ H s → t σ H Q → wpAny (model X.prog X.w) X.A (isTrue e X.env whole) (TP X pins σ Q) X.xe s
theorem PW.pt {X : Cx} {e : Expr} {t : TT} (h : PW X e t) : PT X e t := h _
def PA (X : Cx) (es : List Expr) (t : TA) : Prop :=
 ∀ (pos : Pos) (pins : List (Addr × Obj)) (s : Shared) (σ : St) (H : Hp) (Q : List V → Hp → Prop), Inv X pins σ H s → t σ H Q → wpAny (model X.prog X.w) X.A (spliced (backTo pos (starEach es X.env))) (AP X pins σ Q) X.xe s
def PS (X : Cx) (st : Stmt) (t : TS) : Prop :=
 ∀ (pins : List (Addr × Obj)) (s : Shared) (σ : St) (H : Hp) (D : Ends), Inv X pins σ H s → t D σ H → wpAny (model X.prog X.w) X.A (exec st X.env) (SP X pins D) X.xe s
def PSs (X : Cx) (st : List Stmt) (t : TS) : Prop :=
 ∀ (pins : List (Addr × Obj)) (s : Shared) (σ : St) (H : Hp) (D : Ends), Inv X pins σ H s → t D σ H → wpAny (model X.prog X.w) X.A (execs st X.env) (SP X pins D) X.xe s
theorem thn {α : Type} {t : Sem α} {Q Q' : α → Shared → Prop} {M : Model} {A : Around} {E : Value → Shared → Prop} {s : Shared} (h : wpAny M A t Q E s) (hQ : ∀ a s, Q a s → Q' a s) : wpAny M A t Q' E s := wpAny_mono h hQ fun _ _ x => x
section
variable {X : Cx}
def tVar (i : Nat) : TE := fun σ H Q => ∃ v, σ[i]? = some (some v) ∧ Q v H
def tC (v : V) : TE := fun _ H Q => Q v H
theorem pe_var {i : Nat} {x : Str} {pos : Pos} (hN : X.N[i]? = some x) (hv : Vis X.env.scope x) (hd : (x == ("__debug__" : Str)) = false := by decide) (hcd : (x == ("__classdict__" : Str)) = false := by decide) : PE X (.Name x pos) (tVar i) := by
 intro pins s σ H Q I h
 obtain ⟨v, e, h⟩ := h
 obtain ⟨m, hn, hl⟩ := I.loc
 obtain ⟨u, r, l⟩ := hl i x v hN e hv
 have fin : EP X pins σ Q u s := ⟨v, H, I, r, h⟩
 rcases l with ⟨hk, hm⟩ | ⟨hk, c, hc, hcell⟩
 ·exact wpAny_Name (wpAny_loadName_local I.ok.kind hk hn hm fin) hd
 ·rcases hk with hk | hk
  ·exact wpAny_Name (wpAny_loadName_cell I.ok.kind hk hc hcell fin) hd
  ·exact wpAny_Name (wpAny_loadName_free I.ok.kind hk hc hcell fin hcd) hd
theorem pe_int {i j pos} : PE X (.Constant (.int i) j pos) (tC (.int i)) := fun _ _ _ H _ I h => wpAny_Constant_int ⟨.int i, H, I.tok _, ⟨_, rfl⟩, h⟩
theorem pe_bl {b j pos} : PE X (.Constant (.bool b) j pos) (tC (.bl b)) := fun _ _ _ H _ I h => Constant_bool ⟨.bl b, H, I, rfl, h⟩
theorem pe_non {j pos} : PE X (.Constant .none j pos) (tC .non) := fun _ _ _ H _ I h => Constant_none ⟨.non, H, I, rfl, h⟩
theorem pe_str {x j pos} : PE X (.Constant (.str x) j pos) (tC (.str x)) := fun _ _ _ H _ I h => Calls.Constant_str ⟨.str x, H, I.tok _, ⟨_, rfl⟩, h⟩
def Gl (X : Cx) (x : Str) : Prop := X.env.kindOf x = some .globalImplicit
theorem ld_glob {E : Value → Shared → Prop} {pins : List (Addr × Obj)} {s : Shared} {σ : St} {H : Hp} {x : Str} {u : Value} {pos : Pos} {Q : Value → Shared → Prop} (I : Inv X pins σ H s) (hg : Gl X x) (hm : X.mg x = some u) (h : Q u s)
  (hd : (x == ("__debug__" : Str)) = false := by decide) : wpAny (model X.prog X.w) X.A (eval (.Name x pos) X.env) Q E s :=
 Calls.Name_function_global I.ok.kind hg (Calls.loadGlobal_global (by rw [I.ok.glob]; exact I.mod.glob.keeps I.bk) hm h) hd
theorem ld_blt {E : Value → Shared → Prop} {pins : List (Addr × Obj)} {s : Shared} {σ : St} {H : Hp} {x : Str} {u : Value} {pos : Pos} {Q : Value → Shared → Prop} (I : Inv X pins σ H s) (hg : Gl X x) (hm : X.mg x = none) (hv : bootBuiltins x = some u) (h : Q u s)
  (hn : x ≠ "__name__" := by decide) (hd : (x == ("__debug__" : Str)) = false := by decide) : wpAny (model X.prog X.w) X.A (eval (.Name x pos) X.env) Q E s := by
 obtain ⟨mb, h1, h2⟩ := I.mod.blt
 exact Calls.Name_function_global I.ok.kind hg (Calls.loadGlobal_builtin (by rw [I.ok.glob]; exact I.mod.glob.keeps I.bk) hm (by rw [I.ok.blt]; exact h1.keeps I.bk) ((h2 x hn).trans hv) h) hd
theorem pe_glob {x : Str} {v : V} {u : Value} {pos : Pos} (hg : Gl X x) (hm : X.mg x = some u) (r : RelV v u) (hd : (x == ("__debug__" : Str)) = false := by decide) : PE X (.Name x pos) (tC v) :=
 fun _ _ _ H _ I h => ld_glob I hg hm ⟨v, H, I, r, h⟩ hd
theorem pe_bltn {x : Str} {v : V} {u : Value} {pos : Pos} (hg : Gl X x) (hm : X.mg x = none) (hv : bootBuiltins x = some u) (r : RelV v u) (hn : x ≠ "__name__" := by decide) (hd : (x == ("__debug__" : Str)) = false := by decide) : PE X (.Name x pos) (tC v) :=
 fun _ _ _ H _ I h => ld_blt I hg hm hv ⟨v, H, I, r, h⟩ hn hd
variable {a b : Expr} {ta tb : TE} {pos : Pos}
def tB (t : TE) : TT := fun σ H Q => t σ H fun x H1 => ∃ c, x = .bl c ∧ Q c H1
theorem pt_val {e : Expr} {t : TE} (h : PE X e t) (he : ∀ whole, isTrue e X.env whole = (do let v ← whole; standAt e.pos; holding [v] (truthy v)) := by intro _; rfl) : PT X e (tB t) := by
 intro pins s σ H Q I hw
 refine isTrue_plain (thn (h pins s σ H _ I hw) fun v s1 ⟨x, H1, I1, r1, q1⟩ => ?_) (he _)
 obtain ⟨d, rfl, q⟩ := q1
 cases r1
 exact wpAny_truthy_bool ⟨H1, I1, q⟩
variable {tA tB' : TT} {rest : List Expr}
def tAnd (t u : TT) : TT := fun σ H Q => t σ H fun c H1 => if c = true then u σ H1 Q else Q false H1
def tOr (t u : TT) : TT := fun σ H Q => t σ H fun c H1 => if c = true then Q true H1 else u σ H1 Q
def tNot (t : TT) : TT := fun σ H Q => t σ H fun c H1 => Q (!c) H1
theorem pw_and1 (ha : PT X a tA) : PW X (.BoolOp .And [a] pos) tA := by
 intro wh pins s σ H Q I h
 refine isTrue_and (thn (ha pins s σ H Q I h) fun c s1 e => ?_)
 cases c with
 | true => exact isTrue_and_nil e
 | false => exact e
theorem pw_or1 (ha : PT X a tA) : PW X (.BoolOp .Or [a] pos) tA := by
 intro wh pins s σ H Q I h
 refine isTrue_or (thn (ha pins s σ H Q I h) fun c s1 e => ?_)
 cases c with
 | false => exact isTrue_or_nil e
 | true => exact e
theorem pw_and (ha : PT X a tA) (hb : PW X (.BoolOp .And (b :: rest) pos) tB') : PW X (.BoolOp .And (a :: b :: rest) pos) (tAnd tA tB') := by
 intro wh pins s σ H Q I h
 refine isTrue_and (thn (ha pins s σ H _ I h) fun c s1 ⟨H1, I1, q1⟩ => ?_)
 cases c with
 | true => exact hb wh pins s1 σ H1 Q I1 q1
 | false => exact ⟨H1, I1, q1⟩
theorem pw_or (ha : PT X a tA) (hb : PW X (.BoolOp .Or (b :: rest) pos) tB') : PW X (.BoolOp .Or (a :: b :: rest) pos) (tOr tA tB') := by
 intro wh pins s σ H Q I h
 refine isTrue_or (thn (ha pins s σ H _ I h) fun c s1 ⟨H1, I1, q1⟩ => ?_)
 cases c with
 | true => exact ⟨H1, I1, q1⟩
 | false => exact hb wh pins s1 σ H1 Q I1 q1
theorem pt_not (ha : PT X a tA) : PT X (.UnaryOp .Not a pos) (tNot tA) := by
 intro pins s σ H Q I h
 exact isTrue_not (ha pins s σ H (fun c H1 => Q (!c) H1) I h)
def tAndV (ta tb : TE) : TE := fun σ H Q => ta σ H fun x H1 => ∃ c, x = .bl c ∧ if c = true then tb σ H1 Q else Q (.bl false) H1
def tOrV (ta tb : TE) : TE := fun σ H Q => ta σ H fun x H1 => ∃ c, x = .bl c ∧ if c = true then Q (.bl true) H1 else tb σ H1 Q
def tNotV (ta : TE) : TE := fun σ H Q => ta σ H fun x H1 => ∃ c, x = .bl c ∧ Q (.bl (!c)) H1
theorem pe_one {op} {t : TE} (h : PE X a t) : PE X (.BoolOp op [a] pos) t := fun pins s σ H Q I hw => BoolOp_one (h pins s σ H Q I hw)
theorem pe_and (ha : PE X a ta) (hb : PE X (.BoolOp .And (b :: rest) pos) tb) : PE X (.BoolOp .And (a :: b :: rest) pos) (tAndV ta tb) := by
 intro pins s σ H Q I h
 refine BoolOp_and (thn (ha pins s σ H _ I h) fun v s1 ⟨x, H1, I1, r1, q1⟩ => ?_)
 obtain ⟨c, rfl, q1⟩ := q1
 cases r1
 refine wpAny_truthy_bool ?_
 cases c with
 | true => exact hb pins s1 σ H1 Q I1 q1
 | false => exact ⟨.bl false, H1, I1, rfl, q1⟩
theorem pe_or (ha : PE X a ta) (hb : PE X (.BoolOp .Or (b :: rest) pos) tb) : PE X (.BoolOp .Or (a :: b :: rest) pos) (tOrV ta tb) := by
 intro pins s σ H Q I h
 refine BoolOp_or (thn (ha pins s σ H _ I h) fun v s1 ⟨x, H1, I1, r1, q1⟩ => ?_)
 obtain ⟨c, rfl, q1⟩ := q1
 cases r1
 refine wpAny_truthy_bool ?_
 cases c with
 | false => exact hb pins s1 σ H1 Q I1 q1
 | true => exact ⟨.bl true, H1, I1, rfl, q1⟩
theorem pe_not (ha : PE X a ta) : PE X (.UnaryOp .Not a pos) (tNotV ta) := by
 intro pins s σ H Q I h
 refine UnaryOp_ (thn (ha pins s σ H _ I h) fun v s1 ⟨x, H1, I1, r1, q1⟩ => ?_)
 obtain ⟨c, rfl, q1⟩ := q1
 cases r1
 exact not_of (wpAny_truthy_bool ⟨.bl (!c), H1, I1, rfl, q1⟩)
def tIf (t : TT) (ta tb : TE) : TE := fun σ H Q => t σ H fun c H1 => if c = true then ta σ H1 Q else tb σ H1 Q
theorem pe_ifExp {c : Expr} (hc : PT X c tA) (ha : PE X a ta) (hb : PE X b tb) : PE X (.IfExp c a b pos) (tIf tA ta tb) := by
 intro pins s σ H Q I h
 refine wpAny_IfExp (thn (hc pins s σ H _ I h) fun d s1 ⟨H1, I1, q1⟩ => ?_)
 cases d with
 | true => exact ha pins s1 σ H1 Q I1 q1
 | false => exact hb pins s1 σ H1 Q I1 q1
end
def SqL (K : PySem.W.Frag) (H : Hp) (a : Addr) (xs : List V) : Prop :=
 Rd H a (.lst xs) ∨
  ∃ (o : Obj) (its : Array Value) (n : Nat), K.lookup a = some o ∧ o.cls = .type "list" ∧ o.dict = none ∧ o.data = .seq its n ∧ its.size ≤ sizeLine ∧ Vals xs its.toList
def SqT (K : PySem.W.Frag) (H : Hp) (a : Addr) (xs : List V) : Prop :=
 Rd H a (.tup xs) ∨
  ∃ (o : Obj) (its : Array Value) (n : Nat), K.lookup a = some o ∧ o.cls = .type "tuple" ∧ o.data = .seq its n ∧ its.size ≤ sizeLine ∧ Vals xs its.toList
def absV : Value → Option V
 | .none => some .non
 | .bool b => some (.bl b)
 | .int i _ => some (.int i)
 | .str x _ => some (.str x)
 | .bytes b _ => some (.byt b)
 | .float b _ => some (.flt b)
 | .ref a => some (.ref a)
 | .type n => some (.ty n)
 | _ => none
theorem RelV.abs {x : V} {u : Value} (r : RelV x u) : absV u = some x := by
 cases x with
 | non => cases r; rfl
 | bl _ => cases r; rfl
 | int _ => obtain ⟨t, rfl⟩ := r; rfl
 | str _ => obtain ⟨t, rfl⟩ := r; rfl
 | byt _ => obtain ⟨t, rfl⟩ := r; rfl
 | flt _ => obtain ⟨t, rfl⟩ := r; rfl
 | ref _ => cases r; rfl
 | ty _ => cases r; rfl
theorem RelV.inj {x y : V} {u : Value} (r : RelV x u) (q : RelV y u) : x = y := Option.some.inj (r.abs.symm.trans q.abs)
theorem Vals.inj : ∀ {xs ys : List V} {us : List Value}, Vals xs us → Vals ys us → xs = ys
 | _, _, _, .nil, .nil => rfl
 | _, _, _, .cons r t, .cons r' t' => by rw [r.inj r', Vals.inj t t']
section
variable {X : Cx} {pins : List (Addr × Obj)} {σ : St} {H : Hp} {s : Shared} {a : Addr} {xs ys : List V}
theorem SqL.of {K : PySem.W.Frag} (h : H a = some (.lst xs)) : SqL K H a xs := .inl (.inl h)
theorem SqT.of {K : PySem.W.Frag} (h : H a = some (.tup xs)) : SqT K H a xs := .inl (.inl h)
theorem Inv.list (I : Inv X pins σ H s) (h : SqL X.K H a xs) : ∃ its : List Value, Vals xs its ∧ PlainL s.heap a its.toArray ∧ xs.length ≤ sizeLine := by
 rcases h with h | ⟨o, its, n, hk, hc, hd, hs, hz, r⟩
 ·obtain ⟨z, its, n, r, e⟩ := h.ok I.hok
  exact ⟨its, r, ⟨_, n, e, rfl, rfl, rfl⟩, z⟩
 ·refine ⟨its.toList, r, ⟨o, n, I.kIn a o hk, hc, hd, by simpa using hs⟩, ?_⟩
  have e := r.length
  simp only [Array.length_toList] at e
  omega
theorem Inv.tuple (I : Inv X pins σ H s) (h : SqT X.K H a xs) : ∃ its : List Value, Vals xs its ∧ IsTup s.heap a its.toArray ∧ xs.length ≤ sizeLine := by
 rcases h with h | ⟨o, its, n, hk, hc, hs, hz, r⟩
 ·obtain ⟨z, its, r, p⟩ := h.ok I.hok
  exact ⟨its, r, p, z⟩
 ·refine ⟨its.toList, r, ⟨o, I.kIn a o hk, hc, n, by simpa using hs⟩, ?_⟩
  have e := r.length
  simp only [Array.length_toList] at e
  omega
theorem Inv.list_inj (I : Inv X pins σ H s) (h : SqL X.K H a xs) (h' : SqL X.K H a ys) : xs = ys := by
 obtain ⟨its, r, ⟨o, n, e, _, _, d⟩, _⟩ := I.list h
 obtain ⟨its', r', ⟨o', n', e', _, _, d'⟩, _⟩ := I.list h'
 rw [e] at e'; cases e'
 rw [d] at d'
 injection d' with d1 _
 have : its = its' := by simpa using congrArg Array.toList d1
 subst this
 exact r.inj r'
theorem Inv.tuple_inj (I : Inv X pins σ H s) (h : SqT X.K H a xs) (h' : SqT X.K H a ys) : xs = ys := by
 obtain ⟨its, r, ⟨o, e, _, n, d⟩, _⟩ := I.tuple h
 obtain ⟨its', r', ⟨o', e', _, n', d'⟩, _⟩ := I.tuple h'
 rw [e] at e'; cases e'
 rw [d] at d'
 injection d' with d1 _
 have : its = its' := by simpa using congrArg Array.toList d1
 subst this
 exact r.inj r'
end
abbrev Cx.wish (X : Cx) (E : Value → Shared → Prop) : Cx := { X with xe := E }
abbrev Cx.nox (X : Cx) : Cx := X.wish fun _ _ => False
theorem Cx.Ok.wish {X : Cx} (ok : X.Ok) (E : Value → Shared → Prop) : (X.wish E).Ok :=
 ⟨ok.mod, ok.kind, ok.glob, ok.blt, ok.above, ok.inj, ok.has, ok.cab, ok.hd, ok.frames, ok.stk, ok.exf, ok.bs, ok.bsz, ok.noex, ok.exfs, ok.funs, ok.frf⟩
theorem Cx.Ok.unwish {X : Cx} {E : Value → Shared → Prop} (ok : (X.wish E).Ok) : X.Ok :=
 ⟨ok.mod, ok.kind, ok.glob, ok.blt, ok.above, ok.inj, ok.has, ok.cab, ok.hd, ok.frames, ok.stk, ok.exf, ok.bs, ok.bsz, ok.noex, ok.exfs, ok.funs, ok.frf⟩
section
variable {X : Cx} {pins : List (Addr × Obj)} {σ : St} {H : Hp} {s : Shared} {E : Value → Shared → Prop}
theorem Inv.wish (I : Inv X pins σ H s) (E : Value → Shared → Prop) : Inv (X.wish E) pins σ H s := ⟨I.ok.wish E, I.os, I.bare, I.base, I.loc, I.cell, I.free, I.freeC, I.pin, I.hok, I.len⟩
theorem Inv.unwish (I : Inv (X.wish E) pins σ H s) : Inv X pins σ H s := ⟨I.ok.unwish, I.os, I.bare, I.base, I.loc, I.cell, I.free, I.freeC, I.pin, I.hok, I.len⟩
theorem SP.unwish {D : Ends} {f : Flow} {s' : Shared} (h : SP (X.wish E) pins D f s') : SP X pins D f s' := by
 cases f with
 | next => obtain ⟨σ', H', I, q⟩ := h; exact ⟨σ', H', I.unwish, q⟩
 | brk => obtain ⟨σ', H', I, q⟩ := h; exact ⟨σ', H', I.unwish, q⟩
 | cont => obtain ⟨σ', H', I, q⟩ := h; exact ⟨σ', H', I.unwish, q⟩
 | ret u => obtain ⟨v, σ', H', I, r, q⟩ := h; exact ⟨v, σ', H', I.unwish, r, q⟩
theorem PSs.nox {st : List Stmt} {t : TS} (h : PSs X.nox st t) : PSs X st t := fun pins s σ H D I hw =>
 wpAny_mono (h pins s σ H D (I.wish _) hw) (fun _ _ q => q.unwish) fun _ _ z => False.elim z
end
section
variable {X : Cx} {st : Stmt} {rest : List Stmt} {t u : TS} {e : Expr} {te : TE} {pos : Pos}
def tNext : TS := fun D σ H => D.nx σ H
def tSeq (t u : TS) : TS := fun D σ H => t { D with nx := u D } σ H
theorem pss_nil : PSs X [] tNext := fun _ _ σ H _ I h => wpAny_execs_nil ⟨σ, H, I, h⟩
theorem pss_cons (h1 : PS X st t) (h2 : PSs X rest u) : PSs X (st :: rest) (tSeq t u) := by
 intro pins s σ H D I h
 refine wpAny_execs_cons (thn (h1 pins s σ H { D with nx := u D } I h) fun f s1 q => ?_)
 cases f with
 | next =>
  obtain ⟨σ', H', I', q⟩ := q
  exact h2 pins s1 σ' H' D I' q
 | ret v => exact q
 | brk => exact q
 | cont => exact q
theorem pss_one (h1 : PS X st t) : PSs X [st] t := by
 intro pins s σ H D I h
 refine wpAny_execs_cons (thn (h1 pins s σ H D I h) fun f s1 q => ?_)
 cases f with
 | next => exact wpAny_execs_nil q
 | ret v => exact q
 | brk => exact q
 | cont => exact q
theorem Inv.quiet {pins : List (Addr × Obj)} {σ : St} {H : Hp} {s : Shared} (I : Inv X pins σ H s) : interactive X.env = false := by simp [interactive, I.ok.kind]
def tDrop (te : TE) : TS := fun D σ H => te σ H fun _ H1 => D.nx σ H1
theorem ps_expr (he : PE X e te) (hs : swapsWith e none pos.line X.env = pure false := by rfl) : PS X (.Expr e pos) (tDrop te) := by
 intro pins s σ H D I h
 exact wpAny_Expr_any (thn (he pins s σ H _ I h) fun v s1 ⟨x, H1, I1, r1, q1⟩ => ⟨σ, H1, I1, q1⟩) I.quiet hs
def tRet (te : TE) : TS := fun D σ H => te σ H D.rt
theorem ps_ret (he : PE X e te) : PS X (.Return (some e) pos) (tRet te) := by
 intro pins s σ H D I h
 exact wpAny_Return_some (thn (he pins s σ H _ I h) fun v s1 ⟨x, H1, I1, r1, q1⟩ => ⟨x, σ, H1, I1, r1, q1⟩)
def tIfS (c : TT) (t u : TS) : TS := fun D σ H => c σ H fun b H1 => if b = true then t D σ H1 else u D σ H1
theorem ps_if {c : Expr} {a b : List Stmt} {tc : TT} (hc : PT X c tc) (ha : PSs X a t) (hb : PSs X b u) : PS X (.If c a b pos) (tIfS tc t u) := by
 intro pins s σ H D I h
 refine wpAny_If (thn (hc pins s σ H _ I h) fun d s1 ⟨H1, I1, q1⟩ => ?_)
 cases d with
 | true => exact ha pins s1 σ H1 D I1 q1
 | false => exact hb pins s1 σ H1 D I1 q1
end
abbrev TG := V → St → Hp → (St → Hp → Prop) → Prop
abbrev TGs := List V → St → Hp → (St → Hp → Prop) → Prop
def PG (X : Cx) (target : Expr) (t : TG) : Prop :=
 ∀ (pins : List (Addr × Obj)) (s : Shared) (σ : St) (H : Hp) (v : V) (u : Value) (Q : St → Hp → Prop), Inv X pins σ H s → RelV v u → t v σ H Q →
  wpAny (model X.prog X.w) X.A (assign target X.env u) (fun _ s' => ∃ σ' H', Inv X pins σ' H' s' ∧ Q σ' H') X.xe s
def PGs (X : Cx) (ts : List Expr) (t : TGs) : Prop :=
 ∀ (pins : List (Addr × Obj)) (s : Shared) (σ : St) (H : Hp) (vs : List V) (us : List Value) (Q : St → Hp → Prop), Inv X pins σ H s → Vals vs us → t vs σ H Q →
  wpAny (model X.prog X.w) X.A (assignInOrder ((assignEach ts X.env).map (·.2)) us) (fun _ s' => ∃ σ' H', Inv X pins σ' H' s' ∧ Q σ' H') X.xe s
abbrev TSet := V → V → V → Hp → (Hp → Prop) → Prop
def PSet (X : Cx) (t : TSet) : Prop :=
 ∀ (pins : List (Addr × Obj)) (s : Shared) (σ : St) (H : Hp) (o i v : V) (ov iv u : Value) (Q : Hp → Prop), Inv X pins σ H s → RelV o ov → RelV i iv → RelV v u → t o i v H Q →
  wpAny (model X.prog X.w) X.A (setItem ov iv u) (fun _ s' => ∃ H', Inv X pins σ H' s' ∧ Q H') X.xe s
section
variable {X : Cx} {pos : Pos}
def gName (i : Nat) : TG := fun v σ H Q => Q (σ.set i (some v)) H
theorem pg_name {i : Nat} {x : Str} (hN : X.N.Nodup) (hi : X.N[i]? = some x) (hx : Loc X.env.scope x) (hf : X.fn x = true ∨ X.env.scope.names.lookup x = some .local := by first | exact .inl rfl | exact .inr rfl | assumption) : PG X (.Name x pos) (gName i) := by
 intro pins s σ H v u Q I r h
 exact wpAny_assign_Name (store_ok I hN hi hx r (fun s' I' => ⟨_, H, I', h⟩) hf)
def gNil : TGs := fun vs σ H Q => vs = [] ∧ Q σ H
def gCons (t : TG) (u : TGs) : TGs := fun vs σ H Q => ∃ v r, vs = v :: r ∧ t v σ H fun σ' H' => u r σ' H' Q
theorem pgs_nil : PGs X [] gNil := by
 intro pins s σ H vs us Q I r h
 obtain ⟨e, h⟩ := h
 subst e
 cases r
 exact assignInOrder_nil ⟨σ, H, I, h⟩
theorem pgs_cons {e : Expr} {es : List Expr} {t : TG} {u : TGs} (h1 : PG X e t) (h2 : PGs X es u)
  (hs : (assignEach (e :: es) X.env).map (·.2) = assign e X.env :: (assignEach es X.env).map (·.2) := by rfl) : PGs X (e :: es) (gCons t u) := by
 intro pins s σ H vs us Q I r h
 obtain ⟨v, vr, e1, h⟩ := h
 subst e1
 cases r with
 | cons r rr =>
  rw [hs]
  refine assignInOrder_cons (thn (h1 pins s σ H _ _ _ I r h) fun _ s1 ⟨σ1, H1, I1, q1⟩ => ?_)
  exact h2 pins s1 σ1 H1 _ _ Q I1 rr q1
def gTup (K : PySem.W.Frag) (n : Nat) (t : TGs) : TG := fun v σ H Q => ∃ a xs, v = .ref a ∧ SqT K H a xs ∧ xs.length = n ∧ t xs σ H Q
theorem pg_tup {es : List Expr} {k : Nat} {t : TGs} {n : Nat} (hc : X.calm = true) (h : PGs X es t)
  (hn : (assignEach es X.env).length = n := by rfl) (hst : (assignEach es X.env).findIdx? (·.1) = none := by rfl) : PG X (.Tuple es k pos) (gTup X.K n t) := by
 intro pins s σ H v u Q I r hw
 obtain ⟨a, xs, e1, hq, hl, hw⟩ := hw
 subst e1
 cases r
 obtain ⟨its, rv, ht, hz⟩ := I.tuple hq
 refine assign_Tuple_tuple (I.ok.hd hc) ht (by simp [hn, ← hl, rv.length]) hst fun h' hx => ?_
 have I1 : Inv X pins σ H { s with heap := h' } := I.kept (t' := s.toks) fun b o e => hx b o (Nat.ne_of_lt (Heap.lt_size e)) e
 exact h pins _ σ H xs _ Q I1 (by simpa using rv) hw
def gSub (to ti : TE) (t : TSet) : TG := fun v σ H Q => to σ H fun o H1 => ti σ H1 fun i H2 => t o i v H2 fun H3 => Q σ H3
theorem pg_sub {o i : Expr} {to ti : TE} {t : TSet} (ho : PE X o to) (hi : PE X i ti) (hs : PSet X t)
  (ha : ∀ v, assign (.Subscript o i pos) X.env v = (do
   let ov ← holding [v] (eval o X.env)
   let iv ← holding [v, ov] (eval i X.env)
   standAt pos
   holding [v, ov, iv] (setItem ov iv v)
   release [v, ov, iv] []) := by intro _; rfl) : PG X (.Subscript o i pos) (gSub to ti t) := by
 intro pins s σ H v u Q I r h
 rw [ha]
 refine wpAny_bind (wpAny_holding (thn (ho pins s σ H _ I h) fun ov s1 ⟨x, H1, I1, r1, q1⟩ => ?_))
 refine wpAny_bind (wpAny_holding (thn (hi pins s1 σ H1 _ I1 q1) fun iv s2 ⟨y, H2, I2, r2, q2⟩ => ?_))
 refine wpAny_bind (wpAny_standAt (wpAny_bind (wpAny_holding (thn (hs pins s2 σ H2 x y v ov iv u _ I2 r1 r2 r q2) fun _ s3 ⟨H3, I3, q3⟩ => ?_))))
 exact wpAny_release ⟨σ, H3, I3, q3⟩
def tAsg (te : TE) (g : TG) : TS := fun D σ H => te σ H fun x H1 => g x σ H1 D.nx
theorem ps_asg {tg e : Expr} {te : TE} {g : TG} (he : PE X e te) (hg : PG X tg g) (hs : swapsWithSole [tg] e pos.line X.env = pure false := by rfl) (hw : swappedStores [tg] e X.env = pure none := by rfl)
  (h1 : (assignEach [tg] X.env).map (·.2) = [assign tg X.env] := by rfl) : PS X (.Assign [tg] e pos) (tAsg te g) := by
 intro pins s σ H D I h
 refine wpAny_Assign_stores (thn (he pins s σ H _ I h) fun v s1 ⟨x, H1, I1, r1, q1⟩ => ?_) hs hw
 rw [h1]
 exact thn (hg pins s1 σ H1 x v _ I1 r1 q1) fun _ s2 q => q
theorem ps_set {i : Nat} {x : Str} {e : Expr} {te : TE} {pos' : Pos} (hN : X.N.Nodup) (hi : X.N[i]? = some x) (hx : Loc X.env.scope x) (he : PE X e te) (hs : swapsWith e (some (.Name x pos')) pos.line X.env = pure false := by rfl) (hf : X.fn x = true ∨ X.env.scope.names.lookup x = some .local := by first | exact .inl rfl | exact .inr rfl | assumption) :
  PS X (.Assign [.Name x pos'] e pos) (tAsg te (gName i)) := by
 intro pins s σ H D I h
 refine wpAny_Assign_Name (thn (he pins s σ H _ I h) fun v s1 ⟨y, H1, I1, r1, q1⟩ => ?_) hs
 exact store_ok I1 hN hi hx r1 (fun s2 I2 => ⟨_, H1, I2, q1⟩) hf
def tPar (i j : Nat) (ta : TA) : TS := fun D σ H => ta σ H fun vs H1 => ∃ v w, vs = [v, w] ∧ D.nx ((σ.set i (some v)).set j (some w)) H1
theorem ps_par {i j : Nat} {x y : Str} {a b : Expr} {ta : TA} {px py pt : Pos} {kt k2 pt2} (hc : X.calm = true) (hN : X.N.Nodup) (hi : X.N[i]? = some x) (hj : X.N[j]? = some y) (hij : i ≠ j)
  (hx : X.env.scope.names.lookup x = some .local) (hy : X.env.scope.names.lookup y = some .local) (ha : PA X [a, b] ta)
  (hw : swappedStores [.Tuple [.Name x px, .Name y py] kt pt] (.Tuple [a, b] k2 pt2) X.env = pure (some [x, y]))
  (hs : swapsWithSole [.Tuple [.Name x px, .Name y py] kt pt] (.Tuple [a, b] k2 pt2) pos.line X.env = pure false := by rfl) :
  PS X (.Assign [.Tuple [.Name x px, .Name y py] kt pt] (.Tuple [a, b] k2 pt2) pos) (tPar i j ta) := by
 intro pins s σ H D I h
 rw [exec_Assign_arm]
 refine wpAny_bind (wpAny_standAt ?_)
 rw [hs]
 refine wpAny_bind (wpAny_pure ?_)
 rw [if_neg (by decide)]
 refine wpAny_bind (Tuple_ (thn (ha _ pins s σ H _ I h) fun us s1 ⟨vs, H1, I1, r1, q1⟩ => ?_))
 obtain ⟨v, w, e1, q1⟩ := q1
 subst e1
 obtain ⟨u1, u2, rfl, rv, rw'⟩ : ∃ u1 u2, us = [u1, u2] ∧ RelV v u1 ∧ RelV w u2 := by
  cases r1 with
  | cons p q =>
   cases q with
   | cons p' q' =>
    cases q'
    exact ⟨_, _, rfl, p, p'⟩
 refine wpAny_newObj_type ?_ (by show 2 ≤ sizeLine; decide)
 have I2 : Inv X pins σ H1 { s1 with heap := s1.heap.push { cls := .type "tuple", data := .seq [u1, u2].toArray } } := I1.kept (t' := s1.toks) fun b o e => Heap.get?_push_of_some _ e
 rw [hw]
 refine wpAny_bind (wpAny_pure ?_)
 show wpAny (model X.prog X.w) X.A (do rule "assign.swapped-stores"; let items ← unpackItems (.ref s1.heap.objs.size) 2 none; assignInOrder [fun v => bindName X.env y v, fun v => bindName X.env x v] items.reverse; pure Flow.next) _ _ _
 refine wpAny_bind (wpAny_rule (wpAny_bind (unpackItems_tuple (items := #[u1, u2]) (I.ok.hd hc) (IsTup.new s1.heap _) fun h' hx' => ?_)))
 have I3 := I2.kept (h' := h') (t' := s1.toks) fun b o e => hx' b o (Nat.ne_of_lt (Heap.lt_size e)) e
 show wpAny _ _ (assignInOrder [fun v => bindName X.env y v, fun v => bindName X.env x v] [u2, u1] >>= fun _ => pure Flow.next) _ _ _
 refine wpAny_bind (assignInOrder_cons (wpAny_bindName (store_ok I3 hN hj (.inl hy) rw' (fun s2 I4 => ?_) (.inr hy))))
 refine assignInOrder_cons (wpAny_bindName (store_ok I4 hN hi (.inl hx) rv (fun s3 I5 => assignInOrder_nil (wpAny_pure ?_)) (.inr hx)))
 rw [List.set_comm _ _ (Ne.symm hij)] at I5
 exact ⟨_, H1, I5, q1⟩
end
section
variable {X : Cx} {pos : Pos}
def tWhile (c : TT) (tb : TS) : TS := fun D σ H => ∃ W : Nat → St → Hp → Prop, (∃ m, W m σ H) ∧ ∀ m σ H, W m σ H →
 c σ H fun b H1 => if b = true then ∃ N : St → Hp → Prop, (∀ σ' H', N σ' H' → ∃ m', m' < m ∧ W m' σ' H') ∧ tb { D with nx := N, ct := N, bk := D.nx } σ H1 else D.nx σ H1
theorem ps_while {c : Expr} {body : List Stmt} {tc : TT} {tb : TS} (hp : PassesOwn (model X.prog X.w) X.A X.env X.xe) (hc : PT X c tc) (hb : PSs X body tb) : PS X (.While c body [] pos) (tWhile tc tb) := by
 intro pins s σ H D I h
 obtain ⟨W, ⟨m0, w0⟩, turn⟩ := h
 refine wpAny_While (codeAny_whileLoop (fun n s' => ∃ σ' H', Inv X pins σ' H' s' ∧ W n σ' H') ?_ m0 ⟨σ, H, I, w0⟩)
 rintro n s1 ⟨σ1, H1, I1, w1⟩
 refine wpAny_passesOwn hp (thn (hc pins s1 σ1 H1 _ I1 (turn n σ1 H1 w1)) fun b s2 ⟨H2, I2, q2⟩ => ?_)
 cases b with
 | true =>
  obtain ⟨N, hN, q2⟩ := q2
  rw [if_pos rfl]
  refine wpAny_passesOwn hp (thn (hb pins s2 σ1 H2 _ I2 q2) fun f s3 q3 => ?_)
  cases f with
  | next =>
   obtain ⟨σ3, H3, I3, n3⟩ := q3
   obtain ⟨m', hm, w3⟩ := hN σ3 H3 n3
   exact ⟨m', hm, σ3, H3, I3, w3⟩
  | cont =>
   obtain ⟨σ3, H3, I3, n3⟩ := q3
   obtain ⟨m', hm, w3⟩ := hN σ3 H3 n3
   exact ⟨m', hm, σ3, H3, I3, w3⟩
  | brk => exact q3
  | ret v => exact q3
 | false =>
  rw [if_neg Bool.false_ne_true]
  exact wpAny_execs_nil ⟨σ1, H2, I2, q2⟩
end
structure It where
 go : Nat → Hp → Prop
 yld : Nat → Hp → V → Hp → Prop
 stop : Nat → Hp → Prop
def FpOk (X : Cx) (pins : List (Addr × Obj)) (H : Hp) (b : Addr) : Prop :=
 H b = none ∧ b ≠ X.env.locals ∧ b ∉ X.fs ∧ (b ∈ X.ex ∨ X.s₀.heap.objs.size ≤ b) ∧ (∀ x c, X.env.cells.lookup x = some c → c ≠ b) ∧ ∀ p ∈ X.pn ++ pins, p.1 ≠ b
theorem Inv.fpOk {X : Cx} {pins : List (Addr × Obj)} {σ : St} {H H' : Hp} {s : Shared} {b : Addr} (I : Inv X pins σ H s) (hb : s.heap.objs.size ≤ b) (hn : H' b = none) : FpOk X pins H' b := by
 refine ⟨hn, Nat.ne_of_gt (Nat.lt_of_lt_of_le I.lt hb), I.nofs hb, .inr (Nat.le_trans I.sz hb), fun x c e z => ?_, fun p hp z => ?_⟩
 ·obtain ⟨v, q⟩ := I.cell x c e
  exact absurd (Nat.lt_of_lt_of_le q.lt (by rw [z]; exact hb)) (Nat.lt_irrefl _)
 ·exact absurd (Nat.lt_of_lt_of_le (Heap.lt_size (I.pin p hp).1) (by rw [z]; exact hb)) (Nat.lt_irrefl _)
structure Turn (P : Program) (w : World) (K : PySem.W.Frag) (tg : Expr) (J : It) (fp : List Addr) (it : Addr) (tn : Nat → Heap → Prop) : Prop where
 mem : it ∈ fp
 obj : ∀ i h, tn i h → ∀ b ∈ fp, ∃ o, h.get? b = some o ∧ ∀ v, o.data ≠ .cell v
 keep : ∀ i h h', tn i h → (∀ b ∈ fp, ∀ o, h.get? b = some o → h'.get? b = some o) → tn i h'
 item : ∀ (X : Cx), X.prog = P → X.w = w → X.K = K → X.calm = true → ∀ (i : Nat) (pins : List (Addr × Obj)) (s : Shared) (σ : St) (H : Hp) (E : Value → Shared → Prop), Inv X pins σ H s → (∀ b ∈ fp, FpOk X pins H b) → tn i s.heap → J.go i H →
  wpAny (model P w) X.A (pyNext (.ref it)) (fun r s1 => ∃ u, r = some u ∧
   wpAny (model P w) X.A (letOwnedTupleGo tg (.ref it) u) (fun _ s2 => ∃ x H', Inv X pins σ H' s2 ∧ RelV x u ∧ J.yld i H x H' ∧ tn (i + 1) s2.heap ∧ ∀ b ∈ fp, H' b = none) E s1) E s
 done : ∀ (X : Cx), X.prog = P → X.w = w → X.K = K → X.calm = true → ∀ (i : Nat) (pins : List (Addr × Obj)) (s : Shared) (σ : St) (H : Hp) (E : Value → Shared → Prop), Inv X pins σ H s → (∀ b ∈ fp, FpOk X pins H b) → tn i s.heap → J.stop i H →
  wpAny (model P w) X.A (pyNext (.ref it)) (fun r s1 => r = none ∧ Inv X pins σ H s1) E s
 self : ∀ (A : Around) (i : Nat) (s : Shared) (Q : Value → Shared → Prop) (E : Value → Shared → Prop), tn i s.heap → Q (.ref it) s → wpAny (model P w) A (pyIter (.ref it)) Q E s
abbrev TI := St → Hp → (It → Hp → Prop) → Prop
def PIE (X : Cx) (pins : List (Addr × Obj)) (σ : St) (tg : Expr) (R : It → Hp → Prop) (itv : Value) (s2 : Shared) : Prop :=
 ∃ (it : Addr) (fp : List Addr) (tn : Nat → Heap → Prop) (J : It) (H' : Hp), itv = .ref it ∧ Inv X pins σ H' s2 ∧ Turn X.prog X.w X.K tg J fp it tn ∧ tn 0 s2.heap ∧ (∀ b ∈ fp, FpOk X pins H' b) ∧ R J H'
def PI (X : Cx) (tg iter : Expr) (wi : TI) : Prop :=
 ∀ (pins : List (Addr × Obj)) (s : Shared) (σ : St) (H : Hp) (R : It → Hp → Prop), Inv X pins σ H s → wi σ H R →
  wpAny (model X.prog X.w) X.A (eval iter X.env) (fun v s1 => wpAny (model X.prog X.w) X.A (pyIter v) (PIE X pins σ tg R) X.xe s1) X.xe s
theorem go_of {M : Model} {A : Around} {E : Value → Shared → Prop} {s : Shared} {tg : Expr} {it : Addr} {u : Value} {o : Obj} {n : String} {vs : Array Value} {Q : Unit → Shared → Prop} (ho : s.heap.get? it = some o) (hc : o.cls = .type n) (hd : o.data = .fields vs)
    (hn : ["enumerate", "zip", "dict_itemiterator", "dict_reverseitemiterator", "odict_iterator", "itertools.zip_longest", "itertools.pairwise"].contains n = false) (hQ : Q () s) : wpAny M A (letOwnedTupleGo tg (.ref it) u) Q E s := by
  unfold letOwnedTupleGo
  cases tg <;> first
    | exact wpAny_pure hQ
    | (cases u <;> first
        | exact wpAny_pure hQ
        | (refine wpAny_bind (wpAny_load ho ?_)
           rw [hc, hd]
           show wpAny M A (if (["enumerate", "zip", "dict_itemiterator", "dict_reverseitemiterator", "odict_iterator", "itertools.zip_longest", "itertools.pairwise"].contains n && vs[0]? == some (rawInt _)) = true then _ else _) Q E s
           rw [if_neg (by intro h; rw [hn, Bool.false_and] at h; cases h)]
           exact wpAny_pure hQ))
def Itl (K : PySem.W.Frag) (a : Addr) : It :=
 ⟨fun i H => ∃ xs x, SqL K H a xs ∧ xs[i]? = some x, fun i H x H' => H' = H ∧ ∀ xs, SqL K H a xs → xs[i]? = some x, fun i H => ∃ xs, SqL K H a xs ∧ xs.length ≤ i⟩
def Itt (K : PySem.W.Frag) (a : Addr) : It :=
 ⟨fun i H => ∃ xs x, SqT K H a xs ∧ xs[i]? = some x, fun i H x H' => H' = H ∧ ∀ xs, SqT K H a xs → xs[i]? = some x, fun i H => ∃ xs, SqT K H a xs ∧ xs.length ≤ i⟩
def Itr (lo : Int) (n : Nat) : It := ⟨fun i _ => i < n, fun i H x H' => H' = H ∧ x = .int (lo + i), fun i _ => n ≤ i⟩
theorem turn_list {P : Program} {w : World} {K : PySem.W.Frag} {tg : Expr} (a it : Addr) : Turn P w K tg (Itl K a) [it] it (fun i h => h.IsListIter it a i) where
 mem := by simp
 obj := fun i h st b hb => by
  have e : b = it := by simpa using hb
  subst e
  obtain ⟨o, e, c, d⟩ := st
  exact ⟨o, e, fun v z => by rw [d] at z; cases z⟩
 keep := fun i h h' st k => st.at fun o e => k it (by simp) o e
 item := by
  intro X hP hw hK hc i pins s σ H E I hf st hg
  subst hP hw hK
  obtain ⟨xs, x, hq, hx⟩ := hg
  obtain ⟨its, rv, p, hz⟩ := I.list hq
  obtain ⟨u, hu, ru⟩ := rv.get hx
  obtain ⟨f0, f1, f2, f3, f4, f5⟩ := hf it (by simp)
  refine wpAny_pyNext_list_item st p.isList (x := u) (by simpa using hu) fun h' st' sb => ?_
  have I1 : Inv X pins σ H { s with heap := h' } := I.turned (t' := s.toks) (fun b o hb e => (sb.2 b hb).trans e) f0 f1 f3 f4 f5
  obtain ⟨o, e, c, d⟩ := id st'
  exact ⟨u, rfl, go_of (s := { s with heap := h' }) e c d (by decide) ⟨x, H, I1, ru, ⟨rfl, fun ys hy => by rw [I.list_inj hy hq]; exact hx⟩, st', fun b hb => (hf b hb).1⟩⟩
 done := by
  intro X hP hw hK hc i pins s σ H E I hf st hg
  subst hP hw hK
  obtain ⟨xs, hq, hx⟩ := hg
  obtain ⟨its, rv, p, hz⟩ := I.list hq
  obtain ⟨f0, f1, f2, f3, f4, f5⟩ := hf it (by simp)
  have hl := rv.length
  exact wpAny_pyNext_list_end (I.ok.hd hc) st p.isList (by simp; omega) fun h' eb => ⟨rfl, I.turned (t' := s.toks) (fun b o hb e => eb b o hb e) f0 f1 f3 f4 f5⟩
 self := fun _ _ _ _ _ st h => wpAny_pyIter_listiter st h
theorem turn_tuple {P : Program} {w : World} {K : PySem.W.Frag} {tg : Expr} (a it : Addr) : Turn P w K tg (Itt K a) [it] it (fun i h => h.IsTupleIter it a i) where
 mem := by simp
 obj := fun i h st b hb => by
  have e : b = it := by simpa using hb
  subst e
  obtain ⟨o, e, c, d⟩ := st
  exact ⟨o, e, fun v z => by rw [d] at z; cases z⟩
 keep := fun i h h' st k => st.at fun o e => k it (by simp) o e
 item := by
  intro X hP hw hK hc i pins s σ H E I hf st hg
  subst hP hw hK
  obtain ⟨xs, x, hq, hx⟩ := hg
  obtain ⟨its, rv, p, hz⟩ := I.tuple hq
  obtain ⟨u, hu, ru⟩ := rv.get hx
  obtain ⟨f0, f1, f2, f3, f4, f5⟩ := hf it (by simp)
  refine wpAny_pyNext_tuple_item st (show s.heap.IsTuple a its.toArray from p) (x := u) (by simpa using hu) fun h' st' sb => ?_
  have I1 : Inv X pins σ H { s with heap := h' } := I.turned (t' := s.toks) (fun b o hb e => (sb.2 b hb).trans e) f0 f1 f3 f4 f5
  obtain ⟨o, e, c, d⟩ := id st'
  exact ⟨u, rfl, go_of (s := { s with heap := h' }) e c d (by decide) ⟨x, H, I1, ru, ⟨rfl, fun ys hy => by rw [I.tuple_inj hy hq]; exact hx⟩, st', fun b hb => (hf b hb).1⟩⟩
 done := by
  intro X hP hw hK hc i pins s σ H E I hf st hg
  subst hP hw hK
  obtain ⟨xs, hq, hx⟩ := hg
  obtain ⟨its, rv, p, hz⟩ := I.tuple hq
  obtain ⟨f0, f1, f2, f3, f4, f5⟩ := hf it (by simp)
  have hl := rv.length
  exact wpAny_pyNext_tuple_end (I.ok.hd hc) st (show s.heap.IsTuple a its.toArray from p) (by simp; omega) fun h' eb => ⟨rfl, I.turned (t' := s.toks) (fun b o hb e => eb b o hb e) f0 f1 f3 f4 f5⟩
 self := fun _ _ _ _ _ st h => wpAny_pyIter_tupleiter st h
theorem turn_range {P : Program} {w : World} {K : PySem.W.Frag} {tg : Expr} (it : Addr) (lo : Int) (n : Nat) : Turn P w K tg (Itr lo n) [it] it (fun i h => IsRangeIter h it (lo + (i : Nat) * 1) ((n : Int) - (i : Nat)) 1) where
 mem := by simp
 obj := fun i h st b hb => by
  have e : b = it := by simpa using hb
  subst e
  exact ⟨_, st, fun v z => by
   have z' : Data.fields _ = Data.cell v := z
   cases z'⟩
 keep := fun i h h' st k => k it (by simp) _ st
 item := by
  intro X hP hw hK hc i pins s σ H E I hf st hg
  subst hP hw hK
  obtain ⟨f0, f1, f2, f3, f4, f5⟩ := hf it (by simp)
  have W := Walks.range (prog := X.prog) (w := X.w) (I.ok.hd hc) it lo 1 n
  refine W.item i s _ _ hg st fun v h' tk hv st' kk => ?_
  obtain ⟨t, rfl⟩ := hv
  have I1 : Inv X pins σ H { s with heap := h', toks := tk } := I.turned (fun b o hb e => kk b o (by simpa using hb) e) f0 f1 f3 f4 f5
  refine ⟨_, rfl, go_of (s := { s with heap := h', toks := tk }) (n := "range_iterator") st' rfl rfl (by decide) ⟨.int (lo + i), H, I1, ⟨t, ?_⟩, ⟨rfl, rfl⟩, st', fun b hb => (hf b hb).1⟩⟩
  rw [Int.mul_one]
 done := by
  intro X hP hw hK hc i pins s σ H E I hf st hg
  subst hP hw hK
  obtain ⟨f0, f1, f2, f3, f4, f5⟩ := hf it (by simp)
  exact wpAny_pyNext_range_end (I.ok.hd hc) st (by have : n ≤ i := hg; omega) fun h' eb => ⟨rfl, I.turned (t' := s.toks) (fun b o hb e => eb b o hb e) f0 f1 f3 f4 f5⟩
 self := fun _ _ _ _ _ st h => wpAny_pyIter_rangeiter st h
section
variable {X : Cx} {tg : Expr}
def iList (K : PySem.W.Frag) (tl : TE) : TI := fun σ H R => tl σ H fun x H1 => ∃ a, x = .ref a ∧ (∃ xs, SqL K H1 a xs) ∧ R (Itl K a) H1
def iTup (K : PySem.W.Frag) (tl : TE) : TI := fun σ H R => tl σ H fun x H1 => ∃ a, x = .ref a ∧ (∃ xs, SqT K H1 a xs) ∧ R (Itt K a) H1
theorem pi_list {l : Expr} {tl : TE} (hl : PE X l tl) : PI X tg l (iList X.K tl) := by
 intro pins s σ H R I h
 refine thn (hl pins s σ H _ I h) fun v s1 ⟨x, H1, I1, r1, q1⟩ => ?_
 obtain ⟨a, e, ⟨xs, hq⟩, q⟩ := q1
 subst e
 cases r1
 obtain ⟨its, rv, p, hz⟩ := I1.list hq
 refine wpAny_pyIter_list p.isList ?_
 refine ⟨s1.heap.objs.size, [s1.heap.objs.size], _, _, H1, rfl, I1.kept (t' := s1.toks) fun b o e => Heap.get?_push_of_some _ e, turn_list a _, ⟨_, Heap.get?_push_size _ rfl, rfl, rfl⟩, fun b hb => ?_, q⟩
 have e : b = s1.heap.objs.size := by simpa using hb
 subst e
 exact I1.fpOk (Nat.le_refl _) (I1.hok.fresh (Nat.le_refl _))
theorem pi_tup {l : Expr} {tl : TE} (hl : PE X l tl) : PI X tg l (iTup X.K tl) := by
 intro pins s σ H R I h
 refine thn (hl pins s σ H _ I h) fun v s1 ⟨x, H1, I1, r1, q1⟩ => ?_
 obtain ⟨a, e, ⟨xs, hq⟩, q⟩ := q1
 subst e
 cases r1
 obtain ⟨its, rv, p, hz⟩ := I1.tuple hq
 refine wpAny_pyIter_tuple (show s1.heap.IsTuple a its.toArray from p) ?_
 refine ⟨s1.heap.objs.size, [s1.heap.objs.size], _, _, H1, rfl, I1.kept (t' := s1.toks) fun b o e => Heap.get?_push_of_some _ e, turn_tuple a _, ⟨_, Heap.get?_push_size _ rfl, rfl, rfl⟩, fun b hb => ?_, q⟩
 have e : b = s1.heap.objs.size := by simpa using hb
 subst e
 exact I1.fpOk (Nat.le_refl _) (I1.hok.fresh (Nat.le_refl _))
theorem range_it {pins : List (Addr × Obj)} {σ : St} {H : Hp} {s : Shared} {R : It → Hp → Prop} {E : Value → Shared → Prop} {lo hi : Int} {t u v : Tok} {tk : Nat} (I : Inv X pins σ H s) (h1 : -(2 ^ 62) ≤ lo) (h2 : lo < 2 ^ 62) (h3 : -(2 ^ 62) ≤ hi) (h4 : hi < 2 ^ 62)
  (q : R (Itr lo (hi - lo).toNat) H) : wpAny (model X.prog X.w) X.A (pyIter (.ref s.heap.objs.size)) (PIE X pins σ tg R) E { s with heap := s.heap.push { cls := .type "range", data := .fields #[.int lo t, .int hi u, .int 1 v] }, toks := tk } := by
 refine wpAny_pyIter_range (IsRange.new ..) (small_one h1 h2 h3 h4) ?_
 have I1 : Inv X pins σ H { s with heap := s.heap.push { cls := .type "range", data := .fields #[.int lo t, .int hi u, .int 1 v] }, toks := tk } := I.kept fun b o e => Heap.get?_push_of_some _ e
 refine ⟨(s.heap.push { cls := .type "range", data := .fields #[.int lo t, .int hi u, .int 1 v] }).objs.size, [(s.heap.push { cls := .type "range", data := .fields #[.int lo t, .int hi u, .int 1 v] }).objs.size], _, _, H, rfl,
  I1.kept (t' := tk) fun b o e => Heap.get?_push_of_some _ e, turn_range _ lo (hi - lo).toNat, ?_, fun b hb => ?_, q⟩
 ·have e1 : lo + ((0 : Nat) : Int) * 1 = lo := by simp
  have e2 : (((hi - lo).toNat : Nat) : Int) - ((0 : Nat) : Int) = Builtin.Range.rangeSize lo hi 1 := by rw [rangeSize_one]; split <;> omega
  show IsRangeIter _ _ (lo + ((0 : Nat) : Int) * 1) ((((hi - lo).toNat : Nat) : Int) - ((0 : Nat) : Int)) 1
  rw [e1, e2]
  exact Heap.get?_push_size _ rfl
 ·have e : b = (s.heap.push { cls := .type "range", data := .fields #[.int lo t, .int hi u, .int 1 v] }).objs.size := by simpa using hb
  subst e
  exact I1.fpOk (Nat.le_refl _) (I1.hok.fresh (Nat.le_refl _))
def iRng1 (ta : TA) : TI := fun σ H R => ta σ H fun vs H1 => ∃ j : Int, vs = [.int j] ∧ -(2 ^ 62) ≤ j ∧ j < 2 ^ 62 ∧ R (Itr 0 j.toNat) H1
theorem pi_range1 {a : Expr} {ta : TA} {p pos : Pos} (hg : Gl X "range") (hm : X.mg "range" = none) (ha : PA X [a] ta) (hs : starEach [a] X.env = [(false, eval a X.env)] := by rfl) : PI X tg (.Call (.Name "range" p) [a] [] pos) (iRng1 ta) := by
 intro pins s σ H R I h
 refine Call_ (ld_blt I hg hm boot_range (PyProof.Rows.callWith_type1 (thn (ha pos pins s σ H _ I h) fun us s1 ⟨vs, H1, I1, r1, q1⟩ => ?_) hs rfl))
 obtain ⟨j, e, q1, q2, q⟩ := q1
 subst e
 cases r1 with
 | cons r rr =>
  cases rr
  obtain ⟨t, rfl⟩ := r
  exact call_range_1 (range_it I1 (by omega) (by omega) q1 q2 (by simpa using q))
def tFor (wi : TI) (g : TG) (tb : TS) : TS := fun D σ H => wi σ H fun J H1 => ∃ W : Nat → Nat → St → Hp → Prop, (∃ m, W 0 m σ H1) ∧ ∀ i m σ H, W i m σ H →
 (J.stop i H ∧ D.nx σ H) ∨ (J.go i H ∧ ∃ N : St → Hp → Prop, (∀ σ' H', N σ' H' → ∃ m', m' < m ∧ W (i + 1) m' σ' H') ∧ ∀ x H', J.yld i H x H' → g x σ H' fun σ2 H2 => tb { D with nx := N, ct := N, bk := D.nx } σ2 H2)
def pinsAt (fp : List Addr) (h : Heap) : List (Addr × Obj) := fp.filterMap fun b => (h.get? b).map fun o => (b, o)
theorem mem_pinsAt {fp : List Addr} {h : Heap} {b : Addr} {o : Obj} (hb : b ∈ fp) (e : h.get? b = some o) : (b, o) ∈ pinsAt fp h := List.mem_filterMap.mpr ⟨b, hb, by rw [e]; rfl⟩
theorem of_pinsAt {fp : List Addr} {h : Heap} {p : Addr × Obj} (hp : p ∈ pinsAt fp h) : p.1 ∈ fp ∧ h.get? p.1 = some p.2 := by
 obtain ⟨b, hb, e⟩ := List.mem_filterMap.mp hp
 cases q : h.get? b with
 | none => rw [q] at e; cases e
 | some o =>
  rw [q] at e
  have e' : (b, o) = p := Option.some.inj e
  subst e'
  exact ⟨hb, q⟩
theorem Inv.pinned {pins : List (Addr × Obj)} {σ : St} {H : Hp} {s : Shared} {fp : List Addr} (I : Inv X pins σ H s) (hf : ∀ b ∈ fp, FpOk X pins H b) (ho : ∀ b ∈ fp, ∃ o, s.heap.get? b = some o ∧ ∀ v, o.data ≠ .cell v) : Inv X (pins ++ pinsAt fp s.heap) σ H s :=
 I.pins_of fun p hp => (List.mem_append.mp hp).elim (fun z => I.pin p (List.mem_append_right _ z)) fun z => by
  obtain ⟨hb, e⟩ := of_pinsAt z
  obtain ⟨f0, f1, f2, _⟩ := hf p.1 hb
  obtain ⟨o, e', d⟩ := ho p.1 hb
  rw [e] at e'; cases e'
  exact ⟨e, f0, f1, f2, d⟩
theorem Inv.unpinned {pins pl : List (Addr × Obj)} {σ : St} {H : Hp} {s : Shared} (I : Inv X (pins ++ pl) σ H s) : Inv X pins σ H s := I.pins_of fun p hp => I.pin p (List.mem_append_right _ (List.mem_append_left _ hp))
theorem ps_for {iter : Expr} {body : List Stmt} {wi : TI} {g : TG} {tb : TS} {pos : Pos} (hp : PassesOwn (model X.prog X.w) X.A X.env X.xe) (hc : X.calm = true) (hi : PI X tg iter wi) (hg : PG X tg g) (hb : PSs X body tb)
  (hs : ∀ x, foldedSetIterable iter X.env x = pure x := by intro _; rfl) : PS X (.For tg iter body [] pos) (tFor wi g tb) := by
 intro pins s σ H D I h
 refine wpAny_For (thn (hi pins s σ H _ I h) fun v s1 h1 => thn h1 fun itv s2 h2 => ?_) hs
 obtain ⟨it, fp, tn, J, H2, e, I2, T, st2, f2, W, ⟨m0, w0⟩, turn⟩ := h2
 subst e
 have stat : ∀ {H' : Hp}, (∀ b ∈ fp, H' b = none) → ∀ b ∈ fp, FpOk X pins H' b := fun hn b hb => ⟨hn b hb, (f2 b hb).2⟩
 refine codeAny_forLoop_any (fun n s' => ∃ i σ' H', Inv X pins σ' H' s' ∧ tn i s'.heap ∧ (∀ b ∈ fp, H' b = none) ∧ W i n σ' H') ?_ m0 ⟨0, σ, H2, I2, st2, fun b hb => (f2 b hb).1, w0⟩
 rintro n s3 ⟨i, σ3, H3, I3, st3, fr3, w3⟩
 rcases turn i n σ3 H3 w3 with ⟨stop, qn⟩ | ⟨go, N, hN, step⟩
 ·refine wpAny_passesOwn hp (thn (T.done X rfl rfl rfl hc i pins s3 σ3 H3 X.xe I3 (stat fr3) st3 stop) fun r s4 ⟨hr, I4⟩ => ?_)
  subst hr
  exact wpAny_execs_nil ⟨σ3, H3, I4, qn⟩
 ·refine wpAny_passesOwn hp (thn (T.item X rfl rfl rfl hc i pins s3 σ3 H3 X.xe I3 (stat fr3) st3 go) fun r s4 ⟨u, hr, h4⟩ => ?_)
  subst hr
  refine wpAny_passesOwn hp (thn h4 fun _ s5 ⟨x, H5, I5, r5, y5, st5, fr5⟩ => ?_)
  have I5' := I5.pinned (stat fr5) (T.obj _ _ st5)
  refine wpAny_passesOwn hp (thn (hg _ s5 σ3 H5 x u _ I5' r5 (step x H5 y5)) fun _ s6 ⟨σ6, H6, I6, q6⟩ => ?_)
  refine wpAny_passesOwn hp (thn (hb _ s6 σ6 H6 _ I6 q6) fun f s7 q7 => ?_)
  have again : ∀ {σ7 : St} {H7 : Hp}, Inv X (pins ++ pinsAt fp s5.heap) σ7 H7 s7 → N σ7 H7 → ∃ m, m < n ∧ ∃ i σ' H', Inv X pins σ' H' s7 ∧ tn i s7.heap ∧ (∀ b ∈ fp, H' b = none) ∧ W i m σ' H' := fun {σ7 H7} I7 n7 => by
   obtain ⟨m', hm, w7⟩ := hN σ7 H7 n7
   refine ⟨m', hm, i + 1, σ7, H7, I7.unpinned, T.keep _ _ _ st5 fun b hb o e => (I7.pin (b, o) (List.mem_append_right _ (List.mem_append_right _ (mem_pinsAt hb e)))).1, fun b hb => ?_, w7⟩
   obtain ⟨o, e, d⟩ := T.obj _ _ st5 b hb
   exact (I7.pin (b, o) (List.mem_append_right _ (List.mem_append_right _ (mem_pinsAt hb e)))).2.1
  cases f with
  | next => obtain ⟨σ7, H7, I7, n7⟩ := q7; exact again I7 n7
  | cont => obtain ⟨σ7, H7, I7, n7⟩ := q7; exact again I7 n7
  | brk => obtain ⟨σ7, H7, I7, q7⟩ := q7; exact ⟨σ7, H7, I7.unpinned, q7⟩
  | ret v => obtain ⟨x7, σ7, H7, I7, r7, q7⟩ := q7; exact ⟨x7, σ7, H7, I7.unpinned, r7, q7⟩
end
theorem for_list {K : PySem.W.Frag} {a : Addr} {xs : List V} {g : TG} {tb : TS} {D : Ends} {σ : St} {H : Hp} (Pv : Nat → St → Hp → Prop) (h0 : Pv 0 σ H) (hl : ∀ i σ H, i ≤ xs.length → Pv i σ H → SqL K H a xs)
  (hs : ∀ i x σ H, xs[i]? = some x → Pv i σ H → g x σ H fun σ2 H2 => tb { D with nx := Pv (i + 1), ct := Pv (i + 1), bk := D.nx } σ2 H2) (hd : ∀ σ H, Pv xs.length σ H → D.nx σ H) :
  ∃ W : Nat → Nat → St → Hp → Prop, (∃ m, W 0 m σ H) ∧ ∀ i m σ H, W i m σ H →
   ((Itl K a).stop i H ∧ D.nx σ H) ∨ ((Itl K a).go i H ∧ ∃ N : St → Hp → Prop, (∀ σ' H', N σ' H' → ∃ m', m' < m ∧ W (i + 1) m' σ' H') ∧ ∀ x H', (Itl K a).yld i H x H' → g x σ H' fun σ2 H2 => tb { D with nx := N, ct := N, bk := D.nx } σ2 H2) := by
 refine ⟨fun i m σ H => m = xs.length - i ∧ i ≤ xs.length ∧ Pv i σ H, ⟨xs.length, by simp, Nat.zero_le _, h0⟩, ?_⟩
 rintro i m σ H ⟨rfl, hi, p⟩
 have q := hl i σ H hi p
 by_cases hlt : i < xs.length
 ·refine .inr ⟨⟨xs, xs[i], q, by simp [hlt]⟩, Pv (i + 1), fun σ' H' p' => ⟨xs.length - (i + 1), by omega, rfl, hlt, p'⟩, fun x H' y => ?_⟩
  obtain ⟨e, y⟩ := y
  subst e
  exact hs i x σ _ (y xs q) p
 ·have e : i = xs.length := by omega
  subst e
  exact .inl ⟨⟨xs, q, Nat.le_refl _⟩, hd σ H p⟩
theorem for_range {lo : Int} {n : Nat} {g : TG} {tb : TS} {D : Ends} {σ : St} {H : Hp} (Pv : Nat → St → Hp → Prop) (h0 : Pv 0 σ H)
  (hs : ∀ i σ H, i < n → Pv i σ H → g (.int (lo + i)) σ H fun σ2 H2 => tb { D with nx := Pv (i + 1), ct := Pv (i + 1), bk := D.nx } σ2 H2) (hd : ∀ σ H, Pv n σ H → D.nx σ H) :
  ∃ W : Nat → Nat → St → Hp → Prop, (∃ m, W 0 m σ H) ∧ ∀ i m σ H, W i m σ H →
   ((Itr lo n).stop i H ∧ D.nx σ H) ∨ ((Itr lo n).go i H ∧ ∃ N : St → Hp → Prop, (∀ σ' H', N σ' H' → ∃ m', m' < m ∧ W (i + 1) m' σ' H') ∧ ∀ x H', (Itr lo n).yld i H x H' → g x σ H' fun σ2 H2 => tb { D with nx := N, ct := N, bk := D.nx } σ2 H2) := by
 refine ⟨fun i m σ H => m = n - i ∧ i ≤ n ∧ Pv i σ H, ⟨n, by simp, Nat.zero_le _, h0⟩, ?_⟩
 rintro i m σ H ⟨rfl, hi, p⟩
 by_cases hlt : i < n
 ·refine .inr ⟨hlt, Pv (i + 1), fun σ' H' p' => ⟨n - (i + 1), by omega, rfl, hlt, p'⟩, fun x H' y => ?_⟩
  obtain ⟨e, y⟩ := y
  subst e y
  exact hs i σ _ hlt p
 ·have e : i = n := by omega
  subst e
  exact .inl ⟨Nat.le_refl _, hd σ H p⟩
abbrev R2 := V → V → Hp → VK → Prop
def OpR (X : Cx) (f : Value → Value → Sem Value) (r : R2) : Prop :=
 ∀ (pins : List (Addr × Obj)) (s : Shared) (σ : St) (H : Hp) (x y : V) (v u : Value) (Q : VK), Inv X pins σ H s → RelV x v → RelV y u → r x y H Q →
  wpAny (model X.prog X.w) X.A (f v u) (EP X pins σ Q) X.xe s
def UnR (X : Cx) (f : Value → Sem Value) (r : V → Hp → VK → Prop) : Prop :=
 ∀ (pins : List (Addr × Obj)) (s : Shared) (σ : St) (H : Hp) (x : V) (v : Value) (Q : VK), Inv X pins σ H s → RelV x v → r x H Q →
  wpAny (model X.prog X.w) X.A (f v) (EP X pins σ Q) X.xe s
def CallR (X : Cx) (f : Value) (r : List V → Hp → VK → Prop) : Prop :=
 ∀ (pins : List (Addr × Obj)) (s : Shared) (σ : St) (H : Hp) (xs : List V) (us : List Value) (Q : VK), Inv X pins σ H s → Vals xs us → r xs H Q →
  wpAny (model X.prog X.w) X.A (call f us) (EP X pins σ Q) X.xe s
def tOp (r : R2) (ta tb : TE) : TE := fun σ H Q => ta σ H fun x H1 => tb σ H1 fun y H2 => r x y H2 Q
def tUn (r : V → Hp → VK → Prop) (ta : TE) : TE := fun σ H Q => ta σ H fun x H1 => r x H1 Q
def rI (C : Int → Int → Prop) (g : Int → Int → V) : R2 := fun x y H Q => ∃ i j, x = .int i ∧ y = .int j ∧ C i j ∧ Q (g i j) H
def rI0 (g : Int → Int → V) : R2 := fun x y H Q => ∃ i j, x = .int i ∧ y = .int j ∧ Q (g i j) H
def rU (g : Int → V) : V → Hp → VK → Prop := fun x H Q => ∃ i, x = .int i ∧ Q (g i) H
section
variable {X : Cx} {a b c : Expr} {ta tb tc : TE} {pos : Pos}
theorem binT (ha : PE X a ta) (hb : PE X b tb) {pins : List (Addr × Obj)} {s : Shared} {σ : St} {H : Hp} {R : V → V → Hp → Prop} (I : Inv X pins σ H s)
  (h : ta σ H fun x H1 => tb σ H1 fun y H2 => R x y H2) {Q : Value → Shared → Prop} {f : Value → Value → Sem Value}
  (hf : ∀ v u s2 x y H2, Inv X pins σ H2 s2 → RelV x v → RelV y u → R x y H2 → wpAny (model X.prog X.w) X.A (f v u) Q X.xe s2) :
  wpAny (model X.prog X.w) X.A (eval a X.env) (fun v s₁ => wpAny (model X.prog X.w) X.A (eval b X.env) (fun u s₂ => wpAny (model X.prog X.w) X.A (f v u) Q X.xe s₂) X.xe s₁) X.xe s := by
 refine thn (ha pins s σ H _ I h) fun v s1 ⟨x, H1, I1, r1, q1⟩ => ?_
 refine thn (hb pins s1 σ H1 _ I1 q1) fun u s2 ⟨y, H2, I2, r2, q2⟩ => ?_
 exact hf v u s2 x y H2 I2 r1 r2 q2
theorem pe_op {op : Operator} {r : R2} (ho : OpR X (binaryOp op) r) (ha : PE X a ta) (hb : PE X b tb) : PE X (.BinOp a op b pos) (tOp r ta tb) := by
 intro pins s σ H Q I h
 exact wpAny_BinOp (binT ha hb I h fun v u s2 x y H2 I2 rx ry q => ho pins s2 σ H2 x y v u Q I2 rx ry q)
theorem pe_un {op : UnaryOp} {r : V → Hp → VK → Prop} (ho : UnR X (unaryOp op) r) (ha : PE X a ta) : PE X (.UnaryOp op a pos) (tUn r ta) := by
 intro pins s σ H Q I h
 exact UnaryOp_ (thn (ha pins s σ H _ I h) fun v s1 ⟨x, H1, I1, r1, q1⟩ => ho pins s1 σ H1 x v Q I1 r1 q1)
theorem opI {f : Value → Value → Sem Value} {C : Int → Int → Prop} {g : Int → Int → Int}
  (rule : ∀ (i j : Int) (t u : Tok) (s : Shared) (Q : Value → Shared → Prop) (E : Value → Shared → Prop), C i j → Q (.int (g i j) s.toks) { s with toks := s.toks + 1 } → wpAny (model X.prog X.w) X.A (f (.int i t) (.int j u)) Q E s) :
  OpR X f (rI C fun i j => .int (g i j)) := by
 intro pins s σ H x y v u Q I rx ry h
 obtain ⟨i, j, rfl, rfl, hc, q⟩ := h
 obtain ⟨t, rfl⟩ := rx
 obtain ⟨t', rfl⟩ := ry
 exact rule i j t t' s _ _ hc ⟨.int (g i j), H, I.tok _, ⟨_, rfl⟩, q⟩
theorem opI0 {f : Value → Value → Sem Value} {g : Int → Int → Int}
  (rule : ∀ (i j : Int) (t u : Tok) (s : Shared) (Q : Value → Shared → Prop) (E : Value → Shared → Prop), Q (.int (g i j) s.toks) { s with toks := s.toks + 1 } → wpAny (model X.prog X.w) X.A (f (.int i t) (.int j u)) Q E s) :
  OpR X f (rI0 fun i j => .int (g i j)) := by
 intro pins s σ H x y v u Q I rx ry h
 obtain ⟨i, j, rfl, rfl, q⟩ := h
 obtain ⟨t, rfl⟩ := rx
 obtain ⟨t', rfl⟩ := ry
 exact rule i j t t' s _ _ ⟨.int (g i j), H, I.tok _, ⟨_, rfl⟩, q⟩
theorem opB0 {f : Value → Value → Sem Value} {g : Int → Int → Bool}
  (rule : ∀ (i j : Int) (t u : Tok) (s : Shared) (Q : Value → Shared → Prop) (E : Value → Shared → Prop), Q (.bool (g i j)) s → wpAny (model X.prog X.w) X.A (f (.int i t) (.int j u)) Q E s) :
  OpR X f (rI0 fun i j => .bl (g i j)) := by
 intro pins s σ H x y v u Q I rx ry h
 obtain ⟨i, j, rfl, rfl, q⟩ := h
 obtain ⟨t, rfl⟩ := rx
 obtain ⟨t', rfl⟩ := ry
 exact rule i j t t' s _ _ ⟨.bl (g i j), H, I, rfl, q⟩
def CDiv (i j : Int) : Prop := 0 < j ∧ j < 1073741824
def CPow (i j : Int) : Prop := 0 ≤ j ∧ j ≤ 1000000 ∧ i.natAbs < 2 ^ 64
def CMul (i j : Int) : Prop := (-(2 ^ 64) < i ∧ i < 2 ^ 64) ∨ (-(2 ^ 64) < j ∧ j < 2 ^ 64)
theorem CMul.ok {i j : Int} (h : CMul i j) : IntMulOk i j := by
 rcases h with ⟨h1, h2⟩ | ⟨h1, h2⟩
 ·exact .of_left (intBits_le_64 h1 h2)
 ·exact .of_right (intBits_le_64 h1 h2)
theorem op_add : OpR X (binaryOp .Add) (rI0 fun i j => .int (i + j)) := opI0 fun _ _ _ _ _ _ _ q => add_int q
theorem op_sub : OpR X (binaryOp .Sub) (rI0 fun i j => .int (i - j)) := opI0 fun _ _ _ _ _ _ _ q => sub_int q
theorem op_mul : OpR X (binaryOp .Mult) (rI CMul fun i j => .int (i * j)) := opI fun _ _ _ _ _ _ _ hc q => mul_int q hc.ok
theorem op_fdiv : OpR X (binaryOp .FloorDiv) (rI CDiv fun i j => .int (i / j)) := opI fun i j _ _ _ _ _ hc q => by
 have h1 : (0 : Int) < j := hc.1
 have h2 : j < 1073741824 := hc.2
 exact floordiv_int (by omega) (by rw [Int.fdiv_eq_ediv_of_nonneg i (by omega)]; exact q) (.inl (PyProof.noPylong_small (by omega)))
theorem op_mod : OpR X (binaryOp .Mod) (rI (fun _ j => 0 < j) fun i j => .int (i % j)) := opI fun i j _ _ _ _ _ hc q => by
 have h1 : (0 : Int) < j := hc
 exact mod_int' (by omega) (by rw [Int.fmod_eq_emod_of_nonneg i (by omega)]; exact q)
theorem op_pow : OpR X (binaryOp .Pow) (rI CPow fun i j => .int (i ^ j.toNat)) := opI fun _ _ _ _ _ _ _ hc q => pow_int_small hc.1 hc.2.1 hc.2.2 q
theorem unI {f : Value → Sem Value} {g : Int → Int}
  (rule : ∀ (i : Int) (t : Tok) (s : Shared) (Q : Value → Shared → Prop) (E : Value → Shared → Prop), Q (.int (g i) s.toks) { s with toks := s.toks + 1 } → wpAny (model X.prog X.w) X.A (f (.int i t)) Q E s) :
  UnR X f (rU fun i => .int (g i)) := by
 intro pins s σ H x v Q I rx h
 obtain ⟨i, rfl, q⟩ := h
 obtain ⟨t, rfl⟩ := rx
 exact rule i t s _ _ ⟨.int (g i), H, I.tok _, ⟨_, rfl⟩, q⟩
theorem un_neg : UnR X (unaryOp .USub) (rU fun i => .int (-i)) := unI fun _ _ _ _ _ q => neg_int q
end
def scal : V → V → Bool
 | .non, .non => true | .non, .int _ => true | .int _, .non => true | .non, .bl _ => true | .bl _, .non => true | .non, .str _ => true | .str _, .non => true
 | .int _, .int _ => true | .bl _, .bl _ => true | .str _, .str _ => true | .byt _, .byt _ => true
 | .int _, .str _ => true | .str _, .int _ => true | .bl _, .str _ => true | .str _, .bl _ => true
 | _, _ => false
def rEq : R2 := fun x y H Q => scal x y = true ∧ Q (.bl (decide (x = y))) H
def rNe : R2 := fun x y H Q => scal x y = true ∧ Q (.bl (!decide (x = y))) H
theorem dec_int {i j : Int} : decide (V.int i = V.int j) = (i == j) := by
 rw [Bool.eq_iff_iff]
 simp
theorem dec_bl {i j : Bool} : decide (V.bl i = V.bl j) = (i == j) := by
 rw [Bool.eq_iff_iff]
 simp
theorem dec_str {i j : Str} : decide (V.str i = V.str j) = (i == j) := by
 rw [Bool.eq_iff_iff]
 simp
theorem dec_byt {i j : Array UInt8} : decide (V.byt i = V.byt j) = (i.toList == j.toList) := by
 rw [Bool.eq_iff_iff]
 cases i
 cases j
 simp
section
variable {X : Cx} {a b c : Expr} {ta tb tc : TE} {pos : Pos}
theorem fin_bl {pins : List (Addr × Obj)} {σ : St} {H : Hp} {s : Shared} {Q : VK} {k k' : Bool} (I : Inv X pins σ H s) (q : Q (.bl k) H) (e : k = k') : EP X pins σ Q (.bool k') s := by
 subst e
 exact ⟨.bl k, H, I, rfl, q⟩
theorem op_eq : OpR X (compareOp .Eq) rEq := by
 intro pins s σ H x y v u Q I rx ry h
 obtain ⟨hs, q⟩ := h
 cases x with
 | non =>
  cases rx
  cases y with
  | non => cases ry; exact PySem.EqNone.eq_none_none (fin_bl I q (by simp))
  | bl j => cases ry; exact PySem.EqNone.eq_none_bool (fin_bl I q (by simp))
  | int j => obtain ⟨t', rfl⟩ := ry; exact PySem.EqNone.eq_none_int (fin_bl I q (by simp))
  | str j => obtain ⟨t', rfl⟩ := ry; exact PySem.EqNone.eq_none_str (fin_bl I q (by simp))
  | _ => exact absurd (show false = true from hs) Bool.false_ne_true
 | bl i =>
  cases rx
  cases y with
  | non => cases ry; exact PySem.EqNone.eq_bool_none (fin_bl I q (by simp))
  | bl j => cases ry; exact eq_bool (fin_bl I q dec_bl)
  | str j => obtain ⟨t', rfl⟩ := ry; exact PySem.EqMixed.eq_bool_str (fin_bl I q (by simp))
  | _ => exact absurd (show false = true from hs) Bool.false_ne_true
 | int i =>
  obtain ⟨t, rfl⟩ := rx
  cases y with
  | non => cases ry; exact PySem.EqNone.eq_int_none (fin_bl I q (by simp))
  | int j => obtain ⟨t', rfl⟩ := ry; exact eq_int (fin_bl I q dec_int)
  | str j => obtain ⟨t', rfl⟩ := ry; exact PySem.EqMixed.eq_int_str (fin_bl I q (by simp))
  | _ => exact absurd (show false = true from hs) Bool.false_ne_true
 | str i =>
  obtain ⟨t, rfl⟩ := rx
  cases y with
  | non => cases ry; exact PySem.EqNone.eq_str_none (fin_bl I q (by simp))
  | bl j => cases ry; exact PySem.EqMixed.eq_str_bool (fin_bl I q (by simp))
  | int j => obtain ⟨t', rfl⟩ := ry; exact PySem.EqMixed.eq_str_int (fin_bl I q (by simp))
  | str j => obtain ⟨t', rfl⟩ := ry; exact eq_str (fin_bl I q dec_str)
  | _ => exact absurd (show false = true from hs) Bool.false_ne_true
 | byt i =>
  obtain ⟨t, rfl⟩ := rx
  cases y with
  | byt j => obtain ⟨t', rfl⟩ := ry; exact PySem.W.eq_bytes (fin_bl I q dec_byt)
  | _ => exact absurd (show false = true from hs) Bool.false_ne_true
 | _ => cases y <;> exact absurd (show false = true from hs) Bool.false_ne_true
theorem op_ne : OpR X (compareOp .NotEq) rNe := by
 intro pins s σ H x y v u Q I rx ry h
 obtain ⟨hs, q⟩ := h
 cases x with
 | non =>
  cases rx
  cases y with
  | non => cases ry; exact PySem.EqNone.ne_none_none (fin_bl I q (by simp))
  | bl j => cases ry; exact PySem.EqNone.ne_none_bool (fin_bl I q (by simp))
  | int j => obtain ⟨t', rfl⟩ := ry; exact PySem.EqNone.ne_none_int (fin_bl I q (by simp))
  | str j => obtain ⟨t', rfl⟩ := ry; exact PySem.EqNone.ne_none_str (fin_bl I q (by simp))
  | _ => exact absurd (show false = true from hs) Bool.false_ne_true
 | bl i =>
  cases rx
  cases y with
  | non => cases ry; exact PySem.EqNone.ne_bool_none (fin_bl I q (by simp))
  | bl j => cases ry; exact ne_bool (fin_bl I q (congrArg not dec_bl))
  | str j => obtain ⟨t', rfl⟩ := ry; exact PySem.EqMixed.ne_bool_str (fin_bl I q (by simp))
  | _ => exact absurd (show false = true from hs) Bool.false_ne_true
 | int i =>
  obtain ⟨t, rfl⟩ := rx
  cases y with
  | non => cases ry; exact PySem.EqNone.ne_int_none (fin_bl I q (by simp))
  | int j => obtain ⟨t', rfl⟩ := ry; exact ne_int (fin_bl I q (congrArg not dec_int))
  | str j => obtain ⟨t', rfl⟩ := ry; exact PySem.EqMixed.ne_int_str (fin_bl I q (by simp))
  | _ => exact absurd (show false = true from hs) Bool.false_ne_true
 | str i =>
  obtain ⟨t, rfl⟩ := rx
  cases y with
  | non => cases ry; exact PySem.EqNone.ne_str_none (fin_bl I q (by simp))
  | bl j => cases ry; exact PySem.EqMixed.ne_str_bool (fin_bl I q (by simp))
  | int j => obtain ⟨t', rfl⟩ := ry; exact PySem.EqMixed.ne_str_int (fin_bl I q (by simp))
  | str j => obtain ⟨t', rfl⟩ := ry; exact ne_str (fin_bl I q (congrArg not dec_str))
  | _ => exact absurd (show false = true from hs) Bool.false_ne_true
 | byt i =>
  obtain ⟨t, rfl⟩ := rx
  cases y with
  | byt j => obtain ⟨t', rfl⟩ := ry; exact PySem.W.ne_bytes (fin_bl I q (congrArg not dec_byt))
  | _ => exact absurd (show false = true from hs) Bool.false_ne_true
 | _ => cases y <;> exact absurd (show false = true from hs) Bool.false_ne_true
theorem op_lt : OpR X (compareOp .Lt) (rI0 fun i j => .bl (decide (i < j))) := opB0 fun _ _ _ _ _ _ _ q => lt_int q
theorem op_le : OpR X (compareOp .LtE) (rI0 fun i j => .bl (decide (i ≤ j))) := opB0 fun _ _ _ _ _ _ _ q => le_int q
theorem op_gt : OpR X (compareOp .Gt) (rI0 fun i j => .bl (decide (j < i))) := opB0 fun _ _ _ _ _ _ _ q => gt_int q
theorem op_ge : OpR X (compareOp .GtE) (rI0 fun i j => .bl (decide (j ≤ i))) := opB0 fun _ _ _ _ _ _ _ q => ge_int q
theorem nomark (b : Expr) {op : CmpOp} (h : op ≠ .In := by decide) (h2 : op ≠ .NotIn := by decide) : behindInMarks op b = false := by
 have e1 : (op == CmpOp.In) = false := by cases op <;> first | rfl | exact absurd rfl h
 have e2 : (op == CmpOp.NotIn) = false := by cases op <;> first | rfl | exact absurd rfl h2
 cases b <;> simp [behindInMarks, e1, e2]
theorem pe_cmpR {op : CmpOp} {r : R2} (ho : OpR X (compareOp op) r) (ha : PE X a ta) (hb : PE X b tb) (hm : behindInMarks op b = false) : PE X (.Compare a [op] [b] pos) (tOp r ta tb) := by
 intro pins s σ H Q I h
 exact wpAny_Compare1 (binT ha hb I h fun v u s2 x y H2 I2 rx ry q => ho pins s2 σ H2 x y v u Q I2 rx ry q) hm
def tTest (t : TE) : TT := fun σ H Q => t σ H fun x H' => ∃ k, x = .bl k ∧ Q k H'
theorem pt_cmpR {op : CmpOp} {r : R2} (ho : OpR X (compareOp op) r) (ha : PE X a ta) (hb : PE X b tb) (hm : behindInMarks op b = false) : PT X (.Compare a [op] [b] pos) (tTest (tOp r ta tb)) := by
 intro pins s σ H Q I h
 refine wpAny_isTrue_Compare1 (thn (ha pins s σ H _ I h) fun v s1 ⟨x, H1, I1, r1, q1⟩ => thn (hb pins s1 σ H1 _ I1 q1) fun u s2 ⟨y, H2, I2, r2, q2⟩ =>
  thn (ho pins s2 σ H2 x y v u _ I2 r1 r2 q2) fun c s3 ⟨z, H3, I3, r3, k, e, q3⟩ => ?_) hm
 subst e
 cases r3
 exact wpAny_truthy_bool ⟨H3, I3, q3⟩
def tChain (r r' : R2) (ta tb tc : TE) : TE := fun σ H Q => ta σ H fun x H1 => tb σ H1 fun y H2 => r x y H2 fun z H3 => ∃ k, z = .bl k ∧
 (if k = true then tc σ H3 fun w' H4 => r' y w' H4 Q else Q (.bl false) H3)
theorem pe_chain {op op' : CmpOp} {r r' : R2} (ho : OpR X (compareOp op) r) (ho' : OpR X (compareOp op') r') (ha : PE X a ta) (hb : PE X b tb) (hc : PE X c tc)
  (hm : lastMarks [op, op'] [b, c] = false := by with_unfolding_all rfl) : PE X (.Compare a [op, op'] [b, c] pos) (tChain r r' ta tb tc) := by
 intro pins s σ H Q I h
 refine Compare_chain (thn (ha pins s σ H _ I h) fun v s1 ⟨x, H1, I1, r1, q1⟩ => chain_link (thn (hb pins s1 σ H1 _ I1 q1) fun u s2 ⟨y, H2, I2, r2, q2⟩ =>
  thn (ho pins s2 σ H2 x y v u _ I2 r1 r2 q2) fun d s3 ⟨z, H3, I3, r3, k, e, q3⟩ => ?_)) hm
 subst e
 cases r3
 refine wpAny_truthy_bool ?_
 cases k with
 | false => exact ite_ff ⟨.bl false, H3, I3, rfl, q3⟩
 | true => exact ite_tt (chain_last (thn (hc pins s3 σ H3 _ I3 q3) fun w' s4 ⟨z', H4, I4, r4, q4⟩ => ho' pins s4 σ H4 y z' u w' Q I4 r2 r4 q4))
theorem pt_chain {op op' : CmpOp} {r r' : R2} (ho : OpR X (compareOp op) r) (ho' : OpR X (compareOp op') r') (ha : PE X a ta) (hb : PE X b tb) (hc : PE X c tc)
  (hm : lastMarks [op, op'] [b, c] = false := by with_unfolding_all rfl) : PT X (.Compare a [op, op'] [b, c] pos) (tTest (tChain r r' ta tb tc)) := by
 intro pins s σ H Q I h
 refine isTrue_chain (thn (ha pins s σ H _ I h) fun v s1 ⟨x, H1, I1, r1, q1⟩ => test_link (thn (hb pins s1 σ H1 _ I1 q1) fun u s2 ⟨y, H2, I2, r2, q2⟩ =>
  thn (ho pins s2 σ H2 x y v u _ I2 r1 r2 q2) fun d s3 ⟨z, H3, I3, r3, k, e, q3⟩ => ?_)) hm
 subst e
 cases r3
 refine wpAny_truthy_bool ?_
 cases k with
 | false =>
  obtain ⟨k', e', q'⟩ := q3
  cases e'
  exact ite_ff ⟨H3, I3, q'⟩
 | true =>
  refine ite_tt (test_last (thn (hc pins s3 σ H3 _ I3 q3) fun w' s4 ⟨z', H4, I4, r4, q4⟩ => thn (ho' pins s4 σ H4 y z' u w' _ I4 r2 r4 q4) fun d' s5 ⟨z2, H5, I5, r5, k2, e2, q5⟩ => ?_))
  subst e2
  cases r5
  exact wpAny_truthy_bool ⟨H5, I5, q5⟩
theorem line63 : (sizeLine : Nat) < 2 ^ 63 := by rw [sizeLine_eq]; decide
theorem vals1 {x : V} {us : List Value} (r : Vals [x] us) : ∃ u, us = [u] ∧ RelV x u := by
 cases r with
 | cons r1 r2 => cases r2; exact ⟨_, rfl, r1⟩
theorem vals2 {x y : V} {us : List Value} (r : Vals [x, y] us) : ∃ u w', us = [u, w'] ∧ RelV x u ∧ RelV y w' := by
 cases r with
 | cons r1 r2 =>
  cases r2 with
  | cons r3 r4 => cases r4; exact ⟨_, _, rfl, r1, r3⟩
theorem call_abs : CallR X (.builtin "abs") (fun xs H Q => ∃ i, xs = [.int i] ∧ Q (.int (if i < 0 then -i else i)) H) := by
 intro pins s σ H xs us Q I r h
 obtain ⟨i, rfl, q⟩ := h
 obtain ⟨u, rfl, t, rfl⟩ := vals1 r
 exact call_abs_int fun u tk => ⟨.int (if i < 0 then -i else i), H, I.tok _, ⟨_, rfl⟩, q⟩
theorem call_max2 (hc : X.calm = true) : CallR X (.builtin "max") (fun xs H Q => ∃ i j, xs = [.int i, .int j] ∧ Q (.int (if j > i then j else i)) H) := by
 intro pins s σ H xs us Q I r h
 obtain ⟨i, j, rfl, q⟩ := h
 obtain ⟨u, w', rfl, ⟨t, rfl⟩, ⟨t', rfl⟩⟩ := vals2 r
 refine max_two_ints (I.ok.hd hc) fun h' tk k => ⟨_, H, I.kept k, ?_, q⟩
 by_cases hj : j > i
 ·rw [if_pos hj, if_pos hj]; exact ⟨_, rfl⟩
 ·rw [if_neg hj, if_neg hj]; exact ⟨_, rfl⟩
theorem call_int1 : CallR X (.type "int") (fun xs H Q => (∃ i, xs = [.int i] ∧ Q (.int i) H) ∨ ∃ k, xs = [.bl k] ∧ Q (.int (if k then 1 else 0)) H) := by
 intro pins s σ H xs us Q I r h
 rcases h with ⟨i, rfl, q⟩ | ⟨k, rfl, q⟩
 ·obtain ⟨u, rfl, t, rfl⟩ := vals1 r
  exact call_int_int ⟨.int i, H, I, ⟨_, rfl⟩, q⟩
 ·obtain ⟨u, rfl, r1⟩ := vals1 r
  cases r1
  exact call_int_bool ⟨.int (if k then 1 else 0), H, I.tok _, ⟨_, rfl⟩, q⟩
end
structure ObjM (h : Heap) (x dx C : Addr) (mA : Str → Option Value) : Prop where
 obj : h.get? x = some (PySem.W.instObj C dx)
 ns : h.Ns1 dx mA
 ne : dx ≠ x
theorem lookIn_ns {h : Heap} {dx : Addr} {mA : Str → Option Value} (n : h.Ns1 dx mA) : ∃ od, h.get? dx = some od ∧ ∀ name, PySem.W.lookIn name od = some (mA name) := by
 obtain ⟨o, es, ep, ho, hd, hk, _, hm⟩ := n
 refine ⟨o, ho, fun name => ?_⟩
 have e := hm name
 unfold nsFind findBy at e
 rw [← Array.find?_toList] at e
 unfold PySem.W.lookIn
 rw [hd]
 dsimp only
 split
 ·rename_i y q
  rw [q] at e
  exact congrArg some e
 ·rename_i q
  rw [q] at e
  have a : es.toList.any (·.refKey) = false := by
   rw [List.any_eq_false]
   intro y hy
   obtain ⟨z, t, hkey⟩ := hk y (Array.mem_toList_iff.mp hy)
   simp [DictEntry.refKey, hkey]
  have a' : ¬ es.toList.any (·.refKey) = true := by rw [a]; exact Bool.false_ne_true
  rw [if_neg a']
  exact congrArg some e
theorem ObjM.look {h : Heap} {x dx C : Addr} {mA : Str → Option Value} (I : ObjM h x dx C mA) : ∃ od, PySem.W.InstAt h x (PySem.W.instObj C dx) C (some od) ∧ ∀ name, PySem.W.lookIn name od = some (mA name) :=
 let ⟨od, ho, hl⟩ := lookIn_ns I.ns
 ⟨od, ⟨I.obj, rfl, rfl, ho⟩, hl⟩
section
variable {prog : Program} {w : World} {A : Around} {E : Value → Shared → Prop} {s : Shared} {K : PySem.W.Frag} {x dx C f : Addr} {mA : Str → Option Value} {name : Str} {v : Value}
end
theorem handed_of {v : V} {u : Value} (r : RelV v u) : PySem.W.handedIn u = true := by
 cases v with
 | non => cases (show u = Value.none from r); rfl
 | bl b => cases (show u = Value.bool b from r); rfl
 | int i => obtain ⟨t, e⟩ := (show ∃ t, u = Value.int i t from r); cases e; rfl
 | str x => obtain ⟨t, e⟩ := (show ∃ t, u = Value.str x t from r); cases e; rfl
 | byt b => obtain ⟨t, e⟩ := (show ∃ t, u = Value.bytes b t from r); cases e; rfl
 | flt b => obtain ⟨t, e⟩ := (show ∃ t, u = Value.float b t from r); cases e; rfl
 | ref a => cases (show u = Value.ref a from r); rfl
 | ty n => cases (show u = Value.type n from r); rfl
section
variable {P : Program} {w : World} {H H' : Hp} {h h' : Heap} {a C dx : Addr} {fs fs' : List (Str × V)}
theorem ins_get (hok : HOk P w H h) (e : H a = some (.ins C dx fs)) : ∃ mA, ObjM h a dx C mA ∧ (∀ f, RelO (fs.lookup f) (mA f)) ∧ PySem.Within mA (fs.map (·.1)) ∧ fs.length ≤ 1000 ∧ H dx = some (.own a) := by
 obtain ⟨d, z, ne, ob, mA, n, r, q⟩ := (show ObjOk P w H h a (.ins C dx fs) from hok a _ e)
 exact ⟨mA, ⟨ob, n, ne⟩, r, q, z, d⟩
end
structure Cls (K : PySem.W.Frag) (C : Addr) : Prop where
 pg : PySem.W.plainGet K C Str.empty = true
 hd : PySem.W.hasDictIn K C = true
 po : PySem.W.plainOver K C = true
 sa : PySem.W.findIn K (.ref C) "__setattr__" = some (some (.builtin "object.__setattr__"))
theorem Cls.get {K : PySem.W.Frag} {C : Addr} (c : Cls K C) (f : Str) : PySem.W.plainGet K C f = true := c.pg
section
variable {X : Cx} {pins : List (Addr × Obj)} {σ : St} {H : Hp} {s : Shared} {a C dx : Addr} {fs : List (Str × V)} {f : Str} {v : V} {A : Around} {E : Value → Shared → Prop}
theorem attr_of {prog : Program} {w : World} {env : Env} {e : Expr} {f : Str} {pos : Pos} {s : Shared} {Q : Value → Shared → Prop} (hb : attributeBase e f env (eval e env) = eval e env)
  (h : wpAny (model prog w) A (eval e env) (fun o s₁ => wpAny (model prog w) A (getAttr o f true) Q E s₁) E s) : wpAny (model prog w) A (eval (.Attribute e f pos) env) Q E s :=
 Attribute_any_ h (by rw [arm_eval_Attribute, hb])
end
section
variable {X : Cx} {o e value : Expr} {f : Str} {pos pos' tpos : Pos} {ta tv : TE}
end
section
variable {X : Cx} {pins : List (Addr × Obj)} {σ : St} {H : Hp} {s : Shared} {A : Around} {E : Value → Shared → Prop} {Q : Value → Shared → Prop} {c : Value} {b : Bool}
inductive TyOf (K : PySem.W.Frag) (H : Hp) : V → Value → Prop where
 | non : TyOf K H .non (.type "NoneType")
 | bl (x : Bool) : TyOf K H (.bl x) (.type "bool")
 | int (i : Int) : TyOf K H (.int i) (.type "int")
 | str (x : Str) : TyOf K H (.str x) (.type "str")
 | flt (x : UInt64) : TyOf K H (.flt x) (.type "float")
 | lst {a : Addr} {xs : List V} (e : H a = some (.lst xs)) : TyOf K H (.ref a) (.type "list")
 | frz {a : Addr} {o : Obj} {xs : List V} (e : H a = some (.frz o (.lst xs))) : TyOf K H (.ref a) (.type "list")
 | tup {a : Addr} {xs : List V} (e : H a = some (.tup xs)) : TyOf K H (.ref a) (.type "tuple")
 | dK {a : Addr} {kvs : List (Key × V)} (e : H a = some (.dK kvs)) : TyOf K H (.ref a) (.type "dict")
 | dT {a : Addr} {kvs : List (List Key × V)} (e : H a = some (.dT kvs)) : TyOf K H (.ref a) (.type "dict")
 | ins {a C dx : Addr} {fs : List (Str × V)} (e : H a = some (.ins C dx fs)) (cl : Cls K C) (ha : PySem.W.findIn K (.ref C) "__class__" = some (some (.builtin "object.__class__")))
   (hn : PySem.W.specialIn K (.builtin "object.__class__") "__get__" = some (some (.builtin "getset_descriptor.__get__"))) (htk : PySem.W.takesIn K (.builtin "object.__class__") = some true)
   (hm : PySem.W.mroIn K C (.type "object") = some true) : TyOf K H (.ref a) (.ref C)
theorem isinst_ok {x : V} {u t : Value} (I : Inv X pins σ H s) (rx : RelV x u) (ty : TyOf X.K H x t) (e : PySem.W.kitOne X.K t c = some b) (h : ∀ tk, Q (.bool b) { s with toks := tk }) :
  wpAny (model X.prog X.w) A (call (.builtin "isinstance") [u, c]) Q E s := by
 cases ty with
 | non => cases (show u = Value.none from rx); exact PySem.W.kia_one PySem.W.kitx_none I.kIn True.intro e (fun z => nomatch z) h
 | bl y => cases (show u = Value.bool y from rx); exact PySem.W.kia_one PySem.W.kitx_bool I.kIn True.intro e (fun z => nomatch z) h
 | int i => obtain ⟨t, q⟩ := (show ∃ t, u = Value.int i t from rx); cases q; exact PySem.W.kia_one PySem.W.kitx_int I.kIn True.intro e (fun z => nomatch z) h
 | str y => obtain ⟨t, q⟩ := (show ∃ t, u = Value.str y t from rx); cases q; exact PySem.W.kia_one PySem.W.kitx_str I.kIn True.intro e (fun z => nomatch z) h
 | flt y => obtain ⟨t, q⟩ := (show ∃ t, u = Value.float y t from rx); cases q; exact PySem.W.kia_one PySem.W.kitx_float I.kIn True.intro e (fun z => nomatch z) h
 | @lst a xs ea =>
  cases (show u = Value.ref a from rx)
  obtain ⟨_, _, n, _, h1⟩ := (show ObjOk X.prog X.w H s.heap a (.lst xs) from I.hok a _ ea)
  exact PySem.W.kia_one PySem.W.kitx_list I.kIn ⟨_, h1, rfl⟩ e (fun z => nomatch z) h
 | @frz a ob xs ea =>
  cases (show u = Value.ref a from rx)
  obtain ⟨_, _, _, n, _, h1⟩ := (show ObjOk X.prog X.w H s.heap a (.frz ob (.lst xs)) from I.hok a _ ea)
  exact PySem.W.kia_one PySem.W.kitx_list I.kIn ⟨_, h1, rfl⟩ e (fun z => nomatch z) h
 | @tup a xs ea =>
  cases (show u = Value.ref a from rx)
  obtain ⟨_, _, _, p⟩ := (show ObjOk X.prog X.w H s.heap a (.tup xs) from I.hok a _ ea)
  obtain ⟨o, h1, h2, _⟩ := p
  exact PySem.W.kia_one PySem.W.kitx_tuple I.kIn ⟨o, h1, h2⟩ e (fun z => nomatch z) h
 | @dK a kvs ea =>
  cases (show u = Value.ref a from rx)
  obtain ⟨_, _, vs, _, p⟩ := (show ObjOk X.prog X.w H s.heap a (.dK kvs) from I.hok a _ ea)
  obtain ⟨o, es, ep, h1, h2, _⟩ := p
  exact PySem.W.kia_one PySem.W.kitx_dict I.kIn ⟨o, h1, h2.1⟩ e (fun z => nomatch z) h
 | @dT a kvs ea =>
  cases (show u = Value.ref a from rx)
  obtain ⟨_, _, xs, _, o, es, ep, h1, h2, _⟩ := (show ObjOk X.prog X.w H s.heap a (.dT kvs) from I.hok a _ ea)
  exact PySem.W.kia_one PySem.W.kitx_dict I.kIn ⟨o, h1, h2.1⟩ e (fun z => nomatch z) h
 | @ins a C dx fs ea cl ha hn htk hm =>
  cases (show u = Value.ref a from rx)
  obtain ⟨mA, O, _⟩ := ins_get I.hok ea
  obtain ⟨od, J, _⟩ := O.look
  exact PySem.W.kia_one (PySem.W.kitx_own (cl.get _) cl.hd ha hn htk hm) I.kIn J e (fun z => nomatch z) h
end
structure Room (k : Nat) (A : Around) : Prop where
 hd : A.handled = none
 dp : A.depth + 3 * k + 5 < recursionLimit
 un : A.units + 16 * k + 200 < cLine
 gd : A.guards = some []
theorem Room.mono {j k : Nat} {A : Around} (r : Room k A) (h : j ≤ k) : Room j A := ⟨r.hd, by have := r.dp; omega, by have := r.un; omega, r.gd⟩
theorem Room.deeper {k : Nat} {A : Around} (r : Room (k + 1) A) (env : Env) : Room k (A.deeper env) :=
 ⟨r.hd, by have := r.dp; show A.depth + 1 + 3 * k + 5 < _; omega, by have := r.un; show A.units + 3 + 16 * k + 200 < _; omega, r.gd⟩
theorem make_depth {A : Around} {C : Addr} {us : List Value} {kw : List (Str × Value)} : (A.under (.builtin "type.__call__" ⟨.ref C :: us, kw⟩)).depth = A.depth + 1 := by
 first | rfl | simp [Around.under, Code.weight, Code.isCreation, Code.isGuard, Code.isCaller, Code.frames, Code.isFrame, guardIds]
theorem make_units {A : Around} {C : Addr} {us : List Value} {kw : List (Str × Value)} : (A.under (.builtin "type.__call__" ⟨.ref C :: us, kw⟩)).units = A.units + 1 := by
 first | rfl | simp [Around.under, Code.cUnits, Code.frames, Code.isFrame]
theorem Room.make {k : Nat} {A : Around} (r : Room (k + 1) A) (C : Addr) (us : List Value) (kw : List (Str × Value)) : Room k (A.under (.builtin "type.__call__" ⟨.ref C :: us, kw⟩)) :=
 ⟨r.hd, by have := r.dp; rw [make_depth]; omega, by have := r.un; rw [make_units]; omega, by first | exact r.gd | (simpa [Around.under, Code.guards, Code.isGuard, guardIds] using r.gd)⟩
theorem Room.depth {k : Nat} {A : Around} (r : Room k A) : A.depth < recursionLimit := by have := r.dp; omega
theorem Room.units {k : Nat} {A : Around} (r : Room k A) : A.units + 64 < cLine := by have := r.un; omega
def tNil : TA := fun _ H Q => Q [] H
def tCons (ta : TE) (tr : TA) : TA := fun σ H Q => ta σ H fun x H1 => tr σ H1 fun xs H2 => Q (x :: xs) H2
section
variable {X : Cx} {e : Expr} {es : List Expr} {te : TE} {t : TA} {pos : Pos}
theorem pa_nil : PA X [] tNil := fun _ _ _ _ H Q I h => Calls.spliced_nil ⟨[], H, I, .nil, h⟩
theorem pa_cons (ha : PE X e te) (hr : PA X es t) (hs : starEach (e :: es) X.env = (false, eval e X.env) :: starEach es X.env := by rfl) : PA X (e :: es) (tCons te t) := by
 intro pos pins s σ H Q I h
 rw [hs]
 show wpAny _ _ (spliced ((false, eval e X.env) :: backTo pos (starEach es X.env))) _ _ s
 refine Calls.spliced_cons (thn (ha pins s σ H _ I h) fun u s1 ⟨x, H1, I1, r1, q1⟩ => ?_)
 exact thn (hr pos pins s1 σ H1 _ I1 q1) fun us s2 ⟨xs, H2, I2, r2, q2⟩ => ⟨x :: xs, H2, I2, .cons r1 r2, q2⟩
def tTup (t : TA) : TE := fun σ H Q => t σ H fun xs H1 => xs.length ≤ sizeLine ∧ ∀ p, H1 p = none → Q (.ref p) (upd H1 p (.tup xs))
def tLst (t : TA) : TE := fun σ H Q => t σ H fun xs H1 => xs.length ≤ sizeLine ∧ ∀ p, H1 p = none → Q (.ref p) (upd H1 p (.lst xs))
theorem pe_tup {x1} (h : PA X es t) : PE X (.Tuple es x1 pos) (tTup t) := by
 intro pins s σ H Q I hq
 refine wpAny_Tuple_spliced (thn (h pos pins s σ H _ I hq) fun us s1 ⟨xs, H1, I1, r, z, q⟩ => ⟨by rw [← r.length]; exact z, ?_⟩)
 have hf : H1 s1.heap.objs.size = none := I1.hok.fresh (Nat.le_refl _)
 refine ⟨.ref s1.heap.objs.size, upd H1 s1.heap.objs.size (.tup xs), I1.laid (t' := s1.toks) (fun b u e => Heap.get?_push_of_some _ e) (Nat.le_refl _) ?_, rfl, q _ hf⟩
 exact ⟨z, us, r, ⟨_, Heap.get?_push_size _ rfl, rfl, _, rfl⟩⟩
theorem pe_lst (h : PA X es t) : PE X (.List es pos) (tLst t) := by
 intro pins s σ H Q I hq
 refine wpAny_List_spliced (thn (h pos pins s σ H _ I hq) fun us s1 ⟨xs, H1, I1, r, z, q⟩ => ⟨by rw [← r.length]; exact z, ?_⟩)
 have hf : H1 s1.heap.objs.size = none := I1.hok.fresh (Nat.le_refl _)
 refine ⟨.ref s1.heap.objs.size, upd H1 s1.heap.objs.size (.lst xs), I1.laid (t' := s1.toks) (fun b u e => Heap.get?_push_of_some _ e) (Nat.le_refl _) ?_, rfl, q _ hf⟩
 exact ⟨z, us, 0, r, Heap.get?_push_size _ rfl⟩
end
abbrev Sp := List V → Hp → VK → XK → Prop
abbrev CXT := List Env → Hp → Shared → XK → Value → Shared → Prop
structure Env0 (P : Program) (w : World) (K : PySem.W.Frag) (mg : Str → Option Value) (base : Heap) (A : Around) (outer : List Env) (s : Shared) (H : Hp) : Prop where
 frames : A.frames = some outer
 mod : Mod K mg base
 bs : ∀ b o, base.get? b = some o → s.heap.get? b = some o ∧ H b = none
 bsz : base.objs.size ≤ s.heap.objs.size
 funs : s.heap.FunFrames base outer
 frf : ∀ b ∈ frs outer, H b = none
 hok : HOk P w H s.heap
 bare : AllBare s.gens
def CE (outer : List Env) (P : Program) (w : World) (H : Hp) (s : Shared) (Q : VK) (u : Value) (s' : Shared) : Prop :=
 ∃ v H', s'.os = s.os ∧ AllBare s'.gens ∧ Un (frs outer) [] H H' s.heap s'.heap ∧ HOk P w H' s'.heap ∧ RelV v u ∧ Q v H'
def CR (CX : CXT) (outer : List Env) (P : Program) (w : World) (H : Hp) (s : Shared) (Q : VK) (E : XK) (r : Result) (s' : Shared) : Prop :=
 match r with
 | .ok (.ret u) => CE outer P w H s Q u s'
 | .ok _ => False
 | .error e => CX outer H s E e s'
structure FnOk (P : Program) (w : World) (K : PySem.W.Frag) (mg : Str → Option Value) (base : Heap) (CX : CXT) (k : Nat) (f : Addr) (fd : FuncData) (ps : List Str) (sp : Sp) : Prop where
 len : ∀ vs H Q E, sp vs H Q E → vs.length = ps.length
 run : ∀ (A : Around) (outer : List Env) (s : Shared) (H : Hp) (args : Args) (us : List Value) (vs : List V) (Q : VK) (E : XK), Room k A → Env0 P w K mg base A outer s H → BindsTo s fd args (ps.zip us) → Vals vs us → sp vs H Q E →
  codeAny (model P w) A (.call (.ref f) args) (CR CX outer P w H s Q E) s
theorem Env0.make {P : Program} {w : World} {K : PySem.W.Frag} {mg : Str → Option Value} {base : Heap} {A : Around} {outer : List Env} {s : Shared} {H : Hp} (e : Env0 P w K mg base A outer s H) (C : Addr) (us : List Value) (kw : List (Str × Value)) :
  Env0 P w K mg base (A.under (.builtin "type.__call__" ⟨.ref C :: us, kw⟩)) outer s H := ⟨by first | exact e.frames | (simpa [Around.under, Code.envs, Code.isFrame, pushEnvs] using e.frames), e.mod, e.bs, e.bsz, e.funs, e.frf, e.hok, e.bare⟩
section
variable {X : Cx} {pins : List (Addr × Obj)} {σ : St} {H : Hp} {s s' : Shared}
theorem Inv.env0 (I : Inv X pins σ H s) : Env0 X.prog X.w X.K X.mg X.base X.A X.stack s H :=
 ⟨I.ok.frames, I.ok.mod, I.bs, Nat.le_trans I.ok.bsz I.sz, I.stack, I.stkFree, I.hok, I.bare⟩
theorem Inv.after {Q : VK} {u : Value} (I : Inv X pins σ H s) (h : CE X.stack X.prog X.w H s Q u s') : EP X pins σ Q u s' := by
 obtain ⟨v, H', os, bare, un, hok, r, q⟩ := h
 obtain ⟨hh, g, d, t, os'⟩ := s'
 obtain rfl : os' = s.os := os
 exact ⟨v, H', I.call (h' := hh) (g' := g) (d' := d) (t' := t) (ch := []) un hok bare (fun b z => absurd z (by simp)), r, q⟩
end
def tCall (sp : Sp) (dvs : List V) (E : XK) (t : TA) : TE := fun σ H Q => t σ H fun vs H1 => sp (vs ++ dvs) H1 Q E
def Binds (K : PySem.W.Frag) (fd : FuncData) (ps : List Str) (ds : List Value) : Prop :=
 ∀ (s : Shared) (us : List Value), K.In s.heap → (us ++ ds).length = ps.length → BindsTo s fd ⟨us, []⟩ (ps.zip (us ++ ds))
theorem Binds.all {K : PySem.W.Frag} {fd : FuncData} {ps : List Str} (h : ∀ us : List Value, us.length = ps.length → bindArgs fd ⟨us, []⟩ = pure (ps.zip us)) : Binds K fd ps [] := fun s us _ hl => by
 rw [List.append_nil] at hl ⊢
 exact .of_eq (h us hl)
def Passes (CX : CXT) (X : Cx) (E : XK) : Prop := ∀ (pins : List (Addr × Obj)) (σ : St) (H : Hp) (s : Shared) (e : Value) (s' : Shared), Inv X pins σ H s → CX X.stack H s E e s' → X.xe e s'
section
variable {X : Cx} {CX : CXT} {k : Nat} {f C : Addr} {fd : FuncData} {ps : List Str} {sp : Sp} {dvs : List V} {ds : List Value} {E : XK} {x m : Str} {p pos apos : Pos} {e o : Expr} {es : List Expr} {ta : TE} {t : TA}
theorem run_fn {pins : List (Addr × Obj)} {σ : St} {H : Hp} {s : Shared} {Q : VK} {us : List Value} {vs : List V} (F : FnOk X.prog X.w X.K X.mg X.base CX k f fd ps sp) (hr : Room k X.A) (hb : Binds X.K fd ps ds) (hd : Vals dvs ds) (hx : Passes CX X E)
  (I : Inv X pins σ H s) (r : Vals vs us) (h : sp (vs ++ dvs) H Q E) : wpAny (model X.prog X.w) X.A (call (.ref f) us) (EP X pins σ Q) X.xe s := by
 have r2 : Vals (vs ++ dvs) (us ++ ds) := r.append hd
 have hl : (us ++ ds).length = ps.length := by rw [← r2.length]; exact F.len _ _ _ _ h
 refine wpAny_call (codeAny_mono (F.run X.A X.stack s H ⟨us, []⟩ (us ++ ds) (vs ++ dvs) Q E hr I.env0 (hb s us I.kIn hl) r2 h) fun r s' hq => ?_)
 cases r with
 | error e => exact hx pins σ H s e s' I hq
 | ok fl =>
  cases fl with
  | ret u => exact I.after hq
  | next => exact False.elim hq
  | brk => exact False.elim hq
  | cont => exact False.elim hq
theorem pe_call (F : FnOk X.prog X.w X.K X.mg X.base CX k f fd ps sp) (hr : Room k X.A) (hg : Gl X x) (hm : X.mg x = some (.ref f)) (hk : PySem.W.keepIn X.K (.ref f) = true) (hb : Binds X.K fd ps ds) (hd : Vals dvs ds) (hx : Passes CX X E)
  (ha : PA X (e :: es) t) (hdb : (x == ("__debug__" : Str)) = false := by decide) (he : starEach (e :: es) X.env = (false, eval e X.env) :: starEach es X.env := by rfl) (hpl : (backTo pos (starEach es X.env)).any (·.1) = false := by rfl) :
  PE X (.Call (.Name x p) (e :: es) [] pos) (tCall sp dvs E t) := by
 intro pins s σ H Q I h
 refine wpAny_Call_Name_kw (ld_glob I hg hm ?_ hdb)
 refine PySem.W.callWith_K (h₀ := X.base) I.ok.mod.kin hk (thn (ha pos pins s σ H _ I h) fun us s1 ⟨vs, H1, I1, r, q⟩ => ⟨I1.kIn, ?_⟩) he hpl
 exact run_fn F hr hb hd hx I1 r q
end
section
variable {X : Cx} {CX : CXT} {k : Nat} {f C : Addr} {fd : FuncData} {ps ks : List Str} {sp : Sp} {E : XK} {x m : Str} {p pos apos kpos : Pos} {e o : Expr} {es : List Expr} {kws : List Keyword} {te ta : TE} {t tk : TA} {nm : Option Str}
variable {g : List Value → List Value → List Value} {gV : List V → List V → List V}
end
structure FnScope (N P : List Str) (sc : Scope) : Prop where
 kind : sc.kind = .function
 co : sc.isCoroutine = false
 gen : sc.isGenerator = false
 nd : N.Nodup
 pre : N.take P.length = P
 par : ∀ x ∈ P, sc.names.lookup x = some .local ∨ sc.names.lookup x = some .cell
 nofree : ∀ y ∈ sc.names, y.2 ≠ .free
theorem FS {N P : List Str} {sc : Scope} (a : sc.kind = .function := by rfl) (b : sc.isCoroutine = false := by rfl) (c : sc.isGenerator = false := by rfl) (d : N.Nodup := by decide +kernel) (e : N.take P.length = P := by rfl) (f : ∀ x ∈ P, sc.names.lookup x = some .local ∨ sc.names.lookup x = some .cell := by decide +kernel) (g : ∀ y ∈ sc.names, y.2 ≠ .free := by decide +kernel) : FnScope N P sc := ⟨a, b, c, d, e, f, g⟩
theorem bd1 {α : Type} {f g : List Value → α} (h : ∀ a, f [a] = g [a]) (us : List Value) (l : us.length = 1) : f us = g us := by
  cases us with
  | nil => cases l
  | cons a r => cases r with
    | nil => exact h a
    | cons b r => simp at l
theorem bd2 {α : Type} {f g : List Value → α} (h : ∀ a b, f [a, b] = g [a, b]) (us : List Value) (l : us.length = 2) : f us = g us := by
  cases us with
  | nil => cases l
  | cons a r => exact bd1 (f := fun r => f (a :: r)) (g := fun r => g (a :: r)) (h a) r (Nat.succ.inj l)
theorem bd3 {α : Type} {f g : List Value → α} (h : ∀ a b c, f [a, b, c] = g [a, b, c]) (us : List Value) (l : us.length = 3) : f us = g us := by
  cases us with
  | nil => cases l
  | cons a r => exact bd2 (f := fun r => f (a :: r)) (g := fun r => g (a :: r)) (h a) r (Nat.succ.inj l)
theorem bd4 {α : Type} {f g : List Value → α} (h : ∀ a b c d, f [a, b, c, d] = g [a, b, c, d]) (us : List Value) (l : us.length = 4) : f us = g us := by
  cases us with
  | nil => cases l
  | cons a r => exact bd3 (f := fun r => f (a :: r)) (g := fun r => g (a :: r)) (h a) r (Nat.succ.inj l)
theorem bindL_out {kindOf : Str → Option NameKind} {x : Str} : ∀ {binds : List (Str × Value)} {m : Str → Option Value}, (∀ v, (x, v) ∉ binds) → bindL kindOf binds m x = m x
 | [], _, _ => rfl
 | (n, v) :: r, m, h => by
  unfold bindL
  rw [bindL_out fun w hw => h w (List.mem_cons_of_mem _ hw)]
  split
  ·have : x ≠ n := by rintro rfl; exact h v List.mem_cons_self
   simp [this]
  ·rfl
theorem bindC_out {kindOf : Str → Option NameKind} {x : Str} : ∀ {binds : List (Str × Value)} {m : Str → Option Value}, (∀ v, (x, v) ∉ binds) → bindC kindOf binds m x = m x
 | [], _, _ => rfl
 | (n, v) :: r, m, h => by
  unfold bindC
  rw [bindC_out fun w hw => h w (List.mem_cons_of_mem _ hw)]
  split
  ·rfl
  ·have : x ≠ n := by rintro rfl; exact h v List.mem_cons_self
   simp [this]
theorem bindL_get {kindOf : Str → Option NameKind} {x : Str} {v : Value} : ∀ {P : List Str} {vs : List Value} {i : Nat} {m : Str → Option Value}, P.Nodup → P[i]? = some x → vs[i]? = some v → kindOf x = some .local →
  bindL kindOf (P.zip vs) m x = some v
 | [], _, _, _, _, h, _, _ => by simp at h
 | _ :: _, [], _, _, _, _, h, _ => by simp at h
 | p :: P, w :: vs, 0, m, nd, h1, h2, hk => by
  simp at h1 h2; subst h1; subst h2
  show bindL kindOf ((p, w) :: P.zip vs) m p = _
  unfold bindL
  rw [bindL_out fun v hv => (List.nodup_cons.mp nd).1 (List.of_mem_zip hv).1, if_pos hk]
  simp
 | p :: P, w :: vs, i + 1, m, nd, h1, h2, hk => by
  show bindL kindOf ((p, w) :: P.zip vs) m x = _
  unfold bindL
  exact bindL_get (i := i) (List.nodup_cons.mp nd).2 (by simpa using h1) (by simpa using h2) hk
theorem bindC_get {kindOf : Str → Option NameKind} {x : Str} {v : Value} : ∀ {P : List Str} {vs : List Value} {i : Nat} {m : Str → Option Value}, P.Nodup → P[i]? = some x → vs[i]? = some v → kindOf x ≠ some .local →
  bindC kindOf (P.zip vs) m x = some v
 | [], _, _, _, _, h, _, _ => by simp at h
 | _ :: _, [], _, _, _, _, h, _ => by simp at h
 | p :: P, w :: vs, 0, m, nd, h1, h2, hk => by
  simp at h1 h2; subst h1; subst h2
  show bindC kindOf ((p, w) :: P.zip vs) m p = _
  unfold bindC
  rw [bindC_out fun v hv => (List.nodup_cons.mp nd).1 (List.of_mem_zip hv).1, if_neg hk]
  simp
 | p :: P, w :: vs, i + 1, m, nd, h1, h2, hk => by
  show bindC kindOf ((p, w) :: P.zip vs) m x = _
  unfold bindC
  exact bindC_get (i := i) (List.nodup_cons.mp nd).2 (by simpa using h1) (by simpa using h2) hk
def start (N : List Str) (vs : List V) : St := vs.map some ++ List.replicate (N.length - vs.length) none
def cxOf (CX : CXT) (P : Program) (w : World) (K : PySem.W.Frag) (mg : Str → Option Value) (base : Heap) (N : List Str) (qual : Str) (scope : Scope) (f : Addr) (cd : Value) (A : Around) (outer : List Env) (s : Shared) (H : Hp) (E : XK) : Cx where
 prog := P
 w := w
 K := K
 mg := mg
 base := base
 A := A.deeper (envOfC qual scope s.heap.objs.size f cd)
 N := N
 s₀ := s
 H₀ := H
 env := envOfC qual scope s.heap.objs.size f cd
 outer := outer
 stack := envOfC qual scope s.heap.objs.size f cd :: outer
 ex := []
 calm := true
 fn := fun _ => true
 pn := []
 xe := fun e s' => wpAny (model P w) (A.deeper (envOfC qual scope s.heap.objs.size f cd)) (leaving (envOfC qual scope s.heap.objs.size f cd) e) (fun _ s'' => CX outer H s E e s'') (fun e' s'' => CX outer H s E e' s'') s'
theorem cell_has {sc : Scope} {n : Nat} {x : Str} (h : sc.names.lookup x = some .cell) : ∃ c, (cellsFrom n sc.names []).lookup x = some c := by
 have q := PySem.W.cellsFrom_some sc.names n [] (.inl h)
 exact Option.isSome_iff_exists.mp q
theorem inv_start {CX : CXT} {P : Program} {w : World} {K : PySem.W.Frag} {mg : Str → Option Value} {base : Heap} {N ps : List Str} {qual : Str} {scope : Scope} {f : Addr} {cd : Value} {A : Around} {outer : List Env} {s s1 : Shared} {H : Hp} {E : XK} {us : List Value} {vs : List V}
  (S : FnScope N ps scope) (hd : A.handled = none) (e0 : Env0 P w K mg base A outer s H) (hl : vs.length = ps.length) (r : Vals vs us)
  (x : InCallC s s.heap.objs.size (bindL (envOfC qual scope s.heap.objs.size f cd).kindOf (ps.zip us) fun _ => none) (cellsFrom (s.heap.objs.size + 1) scope.names []) (bindC (envOfC qual scope s.heap.objs.size f cd).kindOf (ps.zip us) fun _ => none) s1) :
  Inv (cxOf CX P w K mg base N qual scope f cd A outer s H E) [] (start N vs) H s1 := by
 have hpl : ps.length ≤ N.length := by have := congrArg List.length S.pre; rw [List.length_take] at this; omega
 obtain ⟨h1, tk, rfl, hk⟩ := x.done
 have noA : ∀ b : Addr, b ∉ (cxOf CX P w K mg base N qual scope f cd A outer s H E).ex := fun b z => absurd (show b ∈ ([] : List Addr) from z) (by simp)
 refine ⟨⟨e0.mod, S.kind, rfl, rfl, Nat.le_refl _, fun y z c h1 h2 => ?_, fun y hy => ?_, fun y c _ h => ?_, fun _ => hd, Around.frames_deeper e0.frames, .inr ⟨rfl, rfl⟩, fun b z => absurd z (noA b), e0.bs, e0.bsz, fun b _ _ => noA b, fun b z => absurd z (noA b), e0.funs, e0.frf⟩,
  rfl, e0.bare, Un.kept hk, ⟨_, x.toInCall.ns, fun i y v h1 h2 h3 => ?_⟩, fun y c h => ⟨_, x.cell y c h⟩, e0.hok.fresh (Nat.le_refl _), fun y c h => ?_, fun p hp => absurd (show p ∈ ([] : List (Addr × Obj)) from hp) (by simp), e0.hok.kept hk, ?_⟩
 ·exact name_of_addr x.apart (PySem.mem_of_lookup h1) (PySem.mem_of_lookup h2)
 ·have hy : scope.names.lookup y = some .cell ∨ scope.names.lookup y = some .free := hy
  rcases hy with hy | hy
  ·exact cell_has hy
  ·exact absurd rfl (S.nofree _ (PySem.mem_of_lookup hy))
 ·exact Nat.le_of_lt (x.above y c (PySem.mem_of_lookup h))
 ·have hi : i < vs.length := by
   unfold start at h2
   by_cases hi : i < vs.length
   ·exact hi
   ·rw [List.getElem?_append_right (by simpa using hi)] at h2
    rw [List.getElem?_replicate] at h2
    split at h2 <;> cases h2
  have ha : vs[i]? = some v := by
   unfold start at h2
   rw [List.getElem?_append_left (by simpa using hi), List.getElem?_map] at h2
   cases e : vs[i]? with
   | none => rw [e] at h2; cases h2
   | some a => rw [e] at h2; cases h2; rfl
  obtain ⟨u, hu, rv⟩ := r.get ha
  have hp : ps[i]? = some y := by
   rw [← S.pre, List.getElem?_take_of_lt (by omega)]; exact h1
  have ndP : ps.Nodup := by rw [← S.pre]; exact S.nd.sublist (List.take_sublist _ _)
  refine ⟨u, rv, ?_⟩
  rcases S.par y (List.mem_of_getElem? hp) with k | k
  ·exact .inl ⟨k, bindL_get ndP hp hu k⟩
  ·obtain ⟨c, e⟩ := cell_has (n := s.heap.objs.size + 1) k
   refine .inr ⟨.inl k, c, e, ?_⟩
   have q := x.cell y c e
   rw [bindC_get ndP hp hu (by show scope.names.lookup y ≠ _; rw [k]; decide)] at q
   exact q
 ·exact e0.hok.fresh (Nat.le_of_lt (x.above y c (PySem.mem_of_lookup h)))
 ·unfold start
  show _ = N.length
  rw [List.length_append, List.length_map, List.length_replicate]
  omega
theorem fn_of {CX : CXT} {P : Program} {w : World} {K : PySem.W.Frag} {mg : Str → Option Value} {base : Heap} {k : Nat} {f : Addr} {name qual : Str} {params : Arguments} {body : List Stmt} {scope : Scope} {dV kV doc pm cdv ct oc : Value} {an od : Option Addr}
  {osl : Array (Option Value)} {N ps : List Str} {sp : Sp} (lk : K.lookup f = some ⟨oc, od, .func (PySem.W.fnOf name qual params body scope dV kV doc pm an cdv ct), osl⟩) (hcd : PySem.W.codeIn K cdv qual = true) (S : FnScope N ps scope)
  (len : ∀ vs H Q E, sp vs H Q E → vs.length = ps.length)
  (hbody : ∀ (A : Around) (outer : List Env) (s : Shared) (H : Hp) (vs : List V) (Q : VK) (E : XK), Room k (A.deeper (envOfC qual scope s.heap.objs.size f cdv)) → sp vs H Q E →
   ∃ t, PSs (cxOf CX P w K mg base N qual scope f cdv A outer s H E) body t ∧ t { nx := fun _ H' => Q .non H', rt := Q } (start N vs) H) :
  FnOk P w K mg base CX (k + 1) f (PySem.W.fnOf name qual params body scope dV kV doc pm an cdv ct) ps sp := by
 refine ⟨len, fun A outer s H args us vs Q E hr e0 hb r hsp => ?_⟩
 have hl := len _ _ _ _ hsp
 have KX : K.In s.heap := e0.mod.kin.keeps fun b o e => (e0.bs b o e).1
 have lim : s.heap.NoLimit := e0.mod.nolimit.keeps fun b o e => (e0.bs b o e).1
 have hkind : ∀ y ∈ ps.zip us, scope.names.lookup y.1 = some .local ∨ (scope.names.lookup y.1 = some .cell ∧ ((cellsFrom (s.heap.objs.size + 1) scope.names []).lookup y.1).isSome = true) := fun ⟨n, v⟩ hy => by
  rcases S.par n (List.of_mem_zip hy).1 with q | q
  ·exact .inl q
  ·exact .inr ⟨q, PySem.W.cellsFrom_some _ _ _ (.inl q)⟩
 refine codeAny_call_function hr.depth (KX _ _ lk) rfl S.co S.gen rfl (PySem.W.codeRec_of KX hcd) (hb _ _ _ _ ?_)
 refine wpAny_newFunctionEnv_cells S.kind hkind fun env he s1 x => ?_
 subst he
 refine ⟨lim.keeps x.toInCall.keep, codeAny_func ?_⟩
 obtain ⟨t, ht, hq⟩ := hbody A outer s H vs Q E (hr.deeper _) hsp
 have I : Inv (cxOf CX P w K mg base N qual scope f cdv A outer s H E) [] (start N vs) H s1 := inv_start S hr.hd e0 hl r x
 refine wpAny_mono (ht [] s1 (start N vs) H _ I hq) (fun fl s' hs => ?_) fun e s' hs => hs
 have fin : ∀ {σ' : St} {H' : Hp} {v : V} {u : Value}, Inv (cxOf CX P w K mg base N qual scope f cdv A outer s H E) [] σ' H' s' → RelV v u → Q v H' → CE outer P w H s Q u s' :=
  fun {σ' H' v u} J rv q => ⟨v, H', J.os, J.bare, J.base, J.hok, rv, q⟩
 cases fl with
 | ret u =>
  obtain ⟨v, σ', H', J, rv, q⟩ := hs
  exact fin J rv q
 | next =>
  obtain ⟨σ', H', J, q⟩ := hs
  exact fin (v := V.non) (u := Value.none) J rfl q
 | brk =>
  obtain ⟨_, _, _, q⟩ := hs
  exact False.elim q
 | cont =>
  obtain ⟨_, _, _, q⟩ := hs
  exact False.elim q
section
variable {X : Cx} {x : Str} {p pos : Pos} {e : Expr} {es : List Expr} {t : TA} {id T : String} {r : List V → Hp → VK → Prop}
def tCB (r : List V → Hp → VK → Prop) (t : TA) : TE := fun σ H Q => t σ H fun vs H1 => r vs H1 Q
theorem pe_callB (hc : CallR X (.builtin id) r) (hg : Gl X x) (hm : X.mg x = none) (hv : bootBuiltins x = some (.builtin id)) (ha : PA X (e :: es) t) (hn : x ≠ "__name__" := by decide) (hdb : (x == ("__debug__" : Str)) = false := by decide)
  (he : starEach (e :: es) X.env = (false, eval e X.env) :: starEach es X.env := by rfl) (hpl : (backTo pos (starEach es X.env)).any (·.1) = false := by rfl) : PE X (.Call (.Name x p) (e :: es) [] pos) (tCB r t) := by
 intro pins s σ H Q I h
 refine wpAny_Call_Name_kw (ld_blt I hg hm hv ?_ hn hdb)
 exact PyProof.Rows.callWith_builtin1 (thn (ha pos pins s σ H _ I h) fun us s1 ⟨vs, H1, I1, r1, q1⟩ => hc pins s1 σ H1 vs us Q I1 r1 q1) he hpl
theorem pe_callTy (hc : CallR X (.type T) r) (hg : Gl X x) (hm : X.mg x = none) (hv : bootBuiltins x = some (.type T)) (ha : PA X (e :: es) t) (hn : x ≠ "__name__" := by decide) (hdb : (x == ("__debug__" : Str)) = false := by decide)
  (he : starEach (e :: es) X.env = (false, eval e X.env) :: starEach es X.env := by rfl) (hpl : (backTo pos (starEach es X.env)).any (·.1) = false := by rfl) : PE X (.Call (.Name x p) (e :: es) [] pos) (tCB r t) := by
 intro pins s σ H Q I h
 refine wpAny_Call_Name_kw (ld_blt I hg hm hv ?_ hn hdb)
 exact PyProof.Rows.callWith_type1 (thn (ha pos pins s σ H _ I h) fun us s1 ⟨vs, H1, I1, r1, q1⟩ => hc pins s1 σ H1 vs us Q I1 r1 q1) he hpl
end
end L2
namespace HT
open PySem PyProof.Rows
section
open PySem.SeqAt
open PySem.AutoSeq1 (wpAny_loadPart')
open PySem.MeetsSeq PySem.MeetsSeq2 PySem.MeetsSeq3
end
section
variable {prog : Program} {w : World} {A : Around} {E : Value → Shared → Prop} {s : Shared}
theorem cat_tup {t b : Addr} {vs ws : List Value} {Q : Value → Shared → Prop} (ht : IsTup s.heap t vs.toArray) (hb : IsTup s.heap b ws.toArray) (hv : vs ≠ [])
  (h1 : ws = [] → Q (.ref t) s) (h2 : ws ≠ [] → Q (.ref s.heap.objs.size) { s with heap := s.heap.push { cls := .type "tuple", data := .seq (vs ++ ws).toArray } })
  (hsz : vs.length + ws.length ≤ sizeLine) : wpAny (model prog w) A (binaryOp .Add (.ref t) (.ref b)) Q E s := by
 obtain ⟨⟨cls, dd, data, sl⟩, ho, hc, n, hd⟩ := id ht
 obtain ⟨⟨cls2, dd2, data2, sl2⟩, ho2, hc2, n2, hd2⟩ := id hb
 simp only at hc hd hc2 hd2
 subst hc hd hc2 hd2
 have e : vs.toArray ++ ws.toArray = (vs ++ ws).toArray := by simp
 by_cases hw : ws = []
 ·exact concat_meets ⟨_, ho, rfl⟩ ⟨_, ho2, rfl⟩ noFill_tuple_add seq_tuple_add PySem.F.slot_tuple_add PySem.F.entry_tuple_add (PySem.F.args_tuple_add_2 _ _)
   (tuple_addW1 t b vs.toArray ws.toArray n n2 dd dd2 sl sl2 (by simpa using hv) (by simp [hw])) ⟨ho, ho2, h1 hw⟩
 ·refine concat_meets ⟨_, ho, rfl⟩ ⟨_, ho2, rfl⟩ noFill_tuple_add seq_tuple_add PySem.F.slot_tuple_add PySem.F.entry_tuple_add (PySem.F.args_tuple_add_2 _ _)
   (tuple_addW2 t b vs.toArray ws.toArray n n2 dd dd2 sl sl2 (by simpa using hv) (by simpa using hw) (by rw [List.size_toArray, List.size_toArray]; exact hsz)) ⟨ho, ho2, ?_⟩
  rw [e]
  exact h2 hw
def sIx (n d : Nat) : Option Int → Nat
 | none => d
 | some v => if v < 0 then (v + (n : Int)).toNat else min v.toNat n
theorem sIx_none (n d : Nat) : sIx n d none = d := rfl
theorem sIx_nat (n d k : Nat) : sIx n d (some (k : Int)) = min k n := by
 show (if (k : Int) < 0 then ((k : Int) + (n : Int)).toNat else min (k : Int).toNat n) = min k n
 rw [if_neg (by omega), Int.toNat_natCast]
theorem sIx_le (n d : Nat) (hd : d ≤ n) (o : Option Int) : sIx n d o ≤ n := by
 cases o with
 | none => exact hd
 | some v =>
  show (if v < 0 then (v + (n : Int)).toNat else min v.toNat n) ≤ n
  by_cases hv : v < 0
  ·rw [if_pos hv]; omega
  ·rw [if_neg hv]; exact Nat.min_le_right _ _
theorem clip_eq (v : Int) (n d : Nat) : (if v < 0 then max (v + (n : Int)) 0 else min v (n : Int)) = ((sIx n d (some v) : Nat) : Int) := by
 show (if v < 0 then max (v + (n : Int)) 0 else min v (n : Int)) = (((if v < 0 then (v + (n : Int)).toNat else min v.toNat n) : Nat) : Int)
 by_cases hv : v < 0
 ·simp only [if_pos hv]; omega
 ·simp only [if_neg hv]; omega
theorem adjust_gen (lo hi : Option Int) (n : Nat) : Builtin.Slice.sliceAdjust lo hi 1 (n : Int) = (((sIx n 0 lo : Nat) : Int), ((sIx n n hi : Nat) : Int)) := by
 have h1 : ¬ ((1 : Int) < 0) := by omega
 unfold Builtin.Slice.sliceAdjust
 simp only [h1, if_false]
 refine Prod.ext ?_ ?_
 ·cases lo with
  | none => rfl
  | some v => exact clip_eq v n 0
 ·cases hi with
  | none => rfl
  | some v => exact clip_eq v n n
theorem places_gen (i j : Nat) : Builtin.Slice.slicePlaces (i : Int) (j : Int) 1 = j - i := by
 unfold Builtin.Slice.slicePlaces
 have h1 : (1 : Int) > 0 := by omega
 simp only [h1, if_true, Int.ediv_one]
 split <;> omega
theorem slicePart_ {v : Value} {o : Option Int} {Q : Option Int → Shared → Prop} (p : IsPart v o) (h : Q o s) : wpAny (model prog w) A (Builtin.Slice.slicePartIndex v) Q E s := by
 cases p with
 | none => exact slicePart_none h
 | int i t => exact slicePart_int h
theorem sliceApplied_gen {sl : Addr} {vl vu : Value} {lo hi : Option Int} {n : Nat} {Q : Int × Int × Nat → Shared → Prop} (hs : s.heap.IsSliceOf sl vl vu .none) (pl : IsPart vl lo) (pu : IsPart vu hi)
  (h : Q (((sIx n 0 lo : Nat) : Int), 1, sIx n n hi - sIx n 0 lo) s) : wpAny (model prog w) A (Builtin.Slice.sliceApplied (.ref sl) (pure (n : Int))) Q E s := by
 obtain ⟨os, hos, hcs, hds⟩ := id hs
 unfold Builtin.Slice.sliceApplied Builtin.Slice.sliceFields
 refine wpAny_bind (wpAny_bind (wpAny_field hos hds (x := vl) rfl (wpAny_bind (wpAny_field hos hds (x := vu) rfl (wpAny_bind (wpAny_field hos hds (x := .none) rfl (wpAny_pure ?_)))))))
 refine wpAny_bind (slicePart_none ?_)
 show wpAny _ _ (if ((1 : Int) == 0) = true then _ else _) _ _ s
 rw [if_neg (by decide)]
 refine wpAny_bind (slicePart_ pl (wpAny_bind (slicePart_ pu (wpAny_bind (wpAny_pure ?_)))))
 show wpAny _ _ (match Builtin.Slice.sliceAdjust lo hi 1 (n : Int) with | (lo, hi) => pure (lo, (1 : Int), Builtin.Slice.slicePlaces lo hi 1)) _ _ s
 rw [adjust_gen lo hi n]
 show wpAny _ _ (pure (((sIx n 0 lo : Nat) : Int), (1 : Int), Builtin.Slice.slicePlaces ((sIx n 0 lo : Nat) : Int) ((sIx n n hi : Nat) : Int) 1)) _ _ s
 rw [places_gen]
 exact wpAny_pure h
theorem pick_gen (xs : Array Value) (i k : Nat) : ((List.range k).filterMap fun (m : Nat) => xs[((i : Int) + (m : Int) * 1).toNat]?).toArray = ((xs.toList.drop i).take k).toArray := by
 have e : (fun (m : Nat) => xs[((i : Int) + (m : Int) * 1).toNat]?) = fun m => xs[i + m]? := by
  funext m
  have : ((i : Int) + (m : Int) * 1).toNat = i + m := by omega
  rw [this]
 rw [e]
 have := pick_run xs i k
 rw [List.filterMap_map] at this
 have e2 : ((fun x => xs[x]?) ∘ fun x => i + x) = fun m => xs[i + m]? := rfl
 rw [e2] at this
 rw [this]
theorem getItem_tuple_cut {t sl : Addr} {items : Array Value} {vl vu : Value} {lo hi : Option Int} {Q : Value → Shared → Prop} (ht : IsTup s.heap t items) (hs : s.heap.IsSliceOf sl vl vu .none) (pl : IsPart vl lo) (pu : IsPart vu hi)
  (hw : ¬ (sIx items.size 0 lo = 0 ∧ sIx items.size items.size hi = items.size))
  (h : Q (.ref s.heap.objs.size) { s with heap := s.heap.push { cls := .type "tuple", data := .seq ((items.toList.drop (sIx items.size 0 lo)).take (sIx items.size items.size hi - sIx items.size 0 lo)).toArray } })
  (hsz : items.size ≤ sizeLine) : wpAny (model prog w) A (getItem (.ref t) (.ref sl)) Q E s := by
 have htake : sizeOk (.seq ((items.toList.drop (sIx items.size 0 lo)).take (sIx items.size items.size hi - sIx items.size 0 lo)).toArray) := by
  show ((items.toList.drop (sIx items.size 0 lo)).take (sIx items.size items.size hi - sIx items.size 0 lo)).toArray.size ≤ sizeLine
  rw [List.size_toArray, List.length_take, List.length_drop, Array.length_toList]
  omega
 have hj : sIx items.size items.size hi ≤ items.size := sIx_le _ _ (Nat.le_refl _) hi
 obtain ⟨os, hos, hcs, hds⟩ := id hs
 have hTs : s.TypeIs (.ref sl) "slice" := ⟨os, hos, hcs⟩
 unfold getItem
 try with_reducible refine wpAny_holding ?_
 first | refine wpAny_bind (wpAny_pure ?_) | skip
 refine wpAny_bind (wpAny_sequenceKey ht.typeIs (by decide) ?_)
 refine wpAny_bind (wpAny_callSpecial?_slot (name := Str.ofString "__getitem__") ht.typeIs PyProof.Rows.slot_tuple_getitem
  (wpAny_call_entry PyProof.Rows.slot_tuple_getitem ht.typeIs entry_tuple_getitem ?_ (args_tuple_getitem _ _)))
 show wpAny _ _ (Builtin.Tuple.tupleItemsOf (.ref t) >>= _) _ _ s
 refine wpAny_bind (tupleItemsOf_ ht ?_)
 refine wpAny_bind (wpAny_typeOf hTs ?_)
 rw [if_pos (by decide)]
 refine wpAny_bind (sliceApplied_gen hs pl pu ?_)
 have hno : ¬ ((((sIx items.size 0 lo : Nat) : Int) == 0 && (1 : Int) == 1 && (sIx items.size items.size hi - sIx items.size 0 lo) == items.size) = true) := by
  intro q
  rw [Bool.and_eq_true, Bool.and_eq_true] at q
  have q1 : ((sIx items.size 0 lo : Nat) : Int) = 0 := eq_of_beq q.1.1
  have q2 : sIx items.size items.size hi - sIx items.size 0 lo = items.size := eq_of_beq q.2
  exact hw ⟨by omega, by omega⟩
 show wpAny _ _ (if (((sIx items.size 0 lo : Nat) : Int) == 0 && (1 : Int) == 1 && (sIx items.size items.size hi - sIx items.size 0 lo) == items.size) = true then _ else _) _ _ s
 rw [if_neg hno, pick_gen]
 first
  | exact wpAny_bind (m := Builtin.Tuple.tupleExact _) (wpAny_newObj_type (wpAny_pure ⟨_, rfl, wpAny_pure h⟩) htake)
  | exact wpAny_bind (m := Builtin.Tuple.tupleExact _) (wpAny_newObj_type (wpAny_bind (wpAny_pure (wpAny_pure ⟨_, rfl, wpAny_pure h⟩))) htake)
  | exact wpAny_bind (wpAny_bind (m := Builtin.Tuple.tupleExact _) (wpAny_newObj_type (wpAny_pure (wpAny_pure ⟨_, rfl, wpAny_pure h⟩)) htake))
  | exact wpAny_bind (wpAny_bind (m := Builtin.Tuple.tupleExact _) (wpAny_newObj_type (wpAny_pure ⟨_, rfl, wpAny_pure h⟩) htake))
end
end HT
namespace L2
open PySem PySem.Spec PyProof.Rows
abbrev TO := St → Hp → (Option Int → Hp → Prop) → Prop
def PO (X : Cx) (e : Option Expr) (t : TO) : Prop :=
 ∀ (pins : List (Addr × Obj)) (s : Shared) (σ : St) (H : Hp) (Q : Option Int → Hp → Prop), Inv X pins σ H s → t σ H Q →
  wpAny (model X.prog X.w) X.A (evalPart e X.env) (fun u s' => ∃ o H', Inv X pins σ H' s' ∧ IsPart u o ∧ Q o H') X.xe s
def tNoPart : TO := fun _ H Q => Q none H
def tPart (t : TE) : TO := fun σ H Q => t σ H fun x H1 => ∃ i, x = .int i ∧ Q (some i) H1
section
variable {X : Cx} {e : Expr} {te : TE} {lo hi : Option Expr} {tl th : TO} {pos p2 : Pos}
theorem po_none : PO X none tNoPart := by
 intro pins s σ H Q I h
 rw [evalPart_none]
 exact wpAny_pure ⟨none, H, I, .none, h⟩
theorem po_some (h : PE X e te) : PO X (some e) (tPart te) := by
 intro pins s σ H Q I hw
 rw [evalPart_some]
 refine thn (h pins s σ H _ I hw) fun u s1 ⟨x, H1, I1, r1, q1⟩ => ?_
 obtain ⟨i, rfl, q⟩ := q1
 obtain ⟨t, rfl⟩ := r1
 exact ⟨some i, H1, I1, .int i t, q⟩
def SlR (X : Cx) (r : V → Option Int → Option Int → Hp → VK → Prop) : Prop :=
 ∀ (pins : List (Addr × Obj)) (s : Shared) (σ : St) (H : Hp) (x : V) (v vl vu : Value) (lo hi : Option Int) (sl : Addr) (Q : VK), Inv X pins σ H s → RelV x v → s.heap.IsSliceOf sl vl vu .none → IsPart vl lo → IsPart vu hi → r x lo hi H Q →
  ∃ T id, typeLookup (.type T) "__getitem__" = pure (some (.builtin id)) ∧ s.TypeIs v T ∧ wpAny (model X.prog X.w) X.A (getItem v (.ref sl)) (EP X pins σ Q) X.xe s
theorem SlR.or {r r' : V → Option Int → Option Int → Hp → VK → Prop} (h : SlR X r) (h' : SlR X r') : SlR X (fun x lo hi H Q => r x lo hi H Q ∨ r' x lo hi H Q) := by
 intro pins s σ H x v vl vu lo hi sl Q I rx hs pl pu q
 rcases q with q | q
 ·exact h pins s σ H x v vl vu lo hi sl Q I rx hs pl pu q
 ·exact h' pins s σ H x v vl vu lo hi sl Q I rx hs pl pu q
def tSl (r : V → Option Int → Option Int → Hp → VK → Prop) (te : TE) (tl th : TO) : TE := fun σ H Q => te σ H fun x H1 => tl σ H1 fun l H2 => th σ H2 fun u H3 => r x l u H3 Q
theorem pe_slice {r : V → Option Int → Option Int → Hp → VK → Prop} (hr : SlR X r) (he : PE X e te) (hl : PO X lo tl) (hu : PO X hi th) : PE X (.Subscript e (.Slice lo hi none p2) pos) (tSl r te tl th) := by
 intro pins s σ H Q I h
 refine Subscript_ (thn (he pins s σ H _ I h) fun v s1 ⟨x, H1, I1, r1, q1⟩ => ?_)
 refine wpAny_Slice (thn (hl pins s1 σ H1 _ I1 q1) fun vl s2 ⟨l, H2, I2, pl, q2⟩ => thn (hu pins s2 σ H2 _ I2 q2) fun vu s3 ⟨u, H3, I3, pu, q3⟩ => ?_)
 rw [evalPart_none]
 refine wpAny_pure ?_
 have I4 : Inv X pins σ H3 { s3 with heap := s3.heap.push { cls := .type "slice", data := .fields #[vl, vu, .none] } } := I3.kept (t' := s3.toks) fun b ob q => Heap.get?_push_of_some _ q
 obtain ⟨T, id, hT, ht, hg⟩ := hr pins { s3 with heap := s3.heap.push { cls := .type "slice", data := .fields #[vl, vu, .none] } } σ H3 x v vl vu l u s3.heap.objs.size Q I4 r1 (Heap.IsSliceOf.new ..) pl pu q3
 show wpAny (model X.prog X.w) X.A (subscriptTail e (.Slice lo hi none p2) v (.ref s3.heap.objs.size)) (EP X pins σ Q) X.xe { s3 with heap := s3.heap.push { cls := .type "slice", data := .fields #[vl, vu, .none] } }
 exact tail_any (ops := [.ref s3.heap.objs.size, v]) ht hT hg (by with_unfolding_all rfl)
def cutV (xs : List V) (lo hi : Option Int) : List V := (xs.drop (HT.sIx xs.length 0 lo)).take (HT.sIx xs.length xs.length hi - HT.sIx xs.length 0 lo)
theorem cutV_length (xs : List V) (lo hi : Option Int) : (cutV xs lo hi).length ≤ xs.length := by
 unfold cutV
 rw [List.length_take, List.length_drop]
 omega
def rSlT (K : PySem.W.Frag) : V → Option Int → Option Int → Hp → VK → Prop := fun x lo hi H Q => ∃ a xs, x = .ref a ∧ SqT K H a xs ∧
 ¬ (HT.sIx xs.length 0 lo = 0 ∧ HT.sIx xs.length xs.length hi = xs.length) ∧ ∀ p, H p = none → Q (.ref p) (upd H p (.tup (cutV xs lo hi)))
theorem sl_tup : SlR X (rSlT X.K) := by
 intro pins s σ H x v vl vu lo hi sl Q I rx hs pl pu h
 obtain ⟨a, xs, rfl, hx, hw, q⟩ := h
 cases rx
 obtain ⟨its, r, ht, hz⟩ := I.tuple hx
 have hlen : its.toArray.size = xs.length := by rw [List.size_toArray]; exact r.length.symm
 refine ⟨"tuple", _, PyProof.Rows.slot_tuple_getitem.lookup, ht.typeIs, ?_⟩
 refine HT.getItem_tuple_cut ht hs pl pu (by rw [hlen]; exact hw) ?_ (by rw [hlen]; exact hz)
 rw [hlen]
 refine ⟨.ref s.heap.objs.size, _, I.laid (t' := s.toks) (o := .tup (cutV xs lo hi)) (fun b ob q => Heap.get?_push_of_some _ q) (Nat.le_refl _) ?_, rfl, q _ (I.hok.fresh (Nat.le_refl _))⟩
 exact ⟨Nat.le_trans (cutV_length xs lo hi) hz, _, (r.drop (HT.sIx xs.length 0 lo)).take (HT.sIx xs.length xs.length hi - HT.sIx xs.length 0 lo), IsTup.new _ _⟩
def rCatT (K : PySem.W.Frag) : R2 := fun x y H Q => ∃ a b xs ys, x = .ref a ∧ y = .ref b ∧ SqT K H a xs ∧ SqT K H b ys ∧ xs ≠ [] ∧ xs.length + ys.length ≤ sizeLine ∧
 (ys = [] → Q (.ref a) H) ∧ (ys ≠ [] → ∀ p, H p = none → Q (.ref p) (upd H p (.tup (xs ++ ys))))
theorem Vals.nil_iff {xs : List V} {us : List Value} (r : Vals xs us) : us = [] ↔ xs = [] := by
 cases r with
 | nil => simp
 | cons _ _ => simp
theorem op_catT : OpR X (binaryOp .Add) (rCatT X.K) := by
 intro pins s σ H x y v u Q I rx ry h
 obtain ⟨a, b, xs, ys, rfl, rfl, ha, hb, hx, hz, q1, q2⟩ := h
 cases rx
 cases ry
 obtain ⟨its, r1, p1, _⟩ := I.tuple ha
 obtain ⟨its2, r2, p2, _⟩ := I.tuple hb
 refine HT.cat_tup p1 p2 (fun z => hx (r1.nil_iff.mp z)) (fun z => ⟨.ref a, H, I, rfl, q1 (r2.nil_iff.mp z)⟩) (fun z => ?_) (by rw [← r1.length, ← r2.length]; exact hz)
 refine ⟨.ref s.heap.objs.size, _, I.laid (t' := s.toks) (o := .tup (xs ++ ys)) (fun b ob q => Heap.get?_push_of_some _ q) (Nat.le_refl _) ?_, rfl, q2 (fun w => z (r2.nil_iff.mpr w)) _ (I.hok.fresh (Nat.le_refl _))⟩
 exact ⟨by rw [List.length_append]; exact hz, _, r1.append r2, IsTup.new _ _⟩
end
def ixN (n : Nat) (i : Int) : Option Nat := if 0 ≤ i then (if i < n then some i.toNat else none) else if -(n : Int) ≤ i then some (i + n).toNat else none
def atI {α : Type} (xs : List α) (i : Int) : Option α := (ixN xs.length i).bind fun j => xs[j]?
theorem ixN_seq {n : Nat} {i : Int} {j : Nat} (h : ixN n i = some j) : seqIndex? i n = some j ∧ j < n ∧ -(n : Int) ≤ i ∧ i < n := by
 unfold ixN at h
 by_cases h0 : 0 ≤ i
 ·rw [if_pos h0] at h
  by_cases h1 : i < n
  ·rw [if_pos h1] at h
   have e : i.toNat = j := Option.some.inj h
   exact ⟨by rw [seqIndex_of h0 h1, e], by omega, by omega, h1⟩
  ·rw [if_neg h1] at h; cases h
 ·rw [if_neg h0] at h
  by_cases h1 : -(n : Int) ≤ i
  ·rw [if_pos h1] at h
   have e : (i + n).toNat = j := Option.some.inj h
   exact ⟨by rw [seqIndex_neg (by omega) h1, e], by omega, h1, by omega⟩
  ·rw [if_neg h1] at h; cases h
theorem atI_get {α : Type} {xs : List α} {i : Int} {v : α} (h : atI xs i = some v) : ∃ j, seqIndex? i xs.length = some j ∧ xs[j]? = some v ∧ j < xs.length ∧ -(xs.length : Int) ≤ i ∧ i < xs.length := by
 unfold atI at h
 cases e : ixN xs.length i with
 | none => rw [e] at h; cases h
 | some j =>
  rw [e] at h
  obtain ⟨h1, h2, h3, h4⟩ := ixN_seq e
  exact ⟨j, h1, h, h2, h3, h4⟩
theorem atI_nat {α : Type} {xs : List α} {j : Nat} {v : α} (h : xs[j]? = some v) : atI xs (j : Int) = some v := by
 have hj : j < xs.length := (List.getElem?_eq_some_iff.mp h).1
 have e : ixN xs.length (j : Int) = some j := by
  unfold ixN
  rw [if_pos (by omega), if_pos (by omega)]; simp
 unfold atI; rw [e]; exact h
theorem atI_last {α : Type} (xs : List α) (v : α) : atI (xs ++ [v]) (-1) = some v := by
 have hl : (xs ++ [v]).length = xs.length + 1 := by simp
 have e : ixN (xs ++ [v]).length (-1) = some xs.length := by
  unfold ixN
  rw [hl, if_neg (by decide), if_pos (by omega)]
  congr 1
  omega
 unfold atI
 rw [e]
 show (xs ++ [v])[xs.length]? = some v
 simp
def PlainIx (b : Expr) : Prop := ∀ o i, subscripted b false o i = operate [o, i] (getItem o i)
def IxR (X : Cx) (r : R2) : Prop :=
 ∀ (value slice : Expr) (pins : List (Addr × Obj)) (s : Shared) (σ : St) (H : Hp) (x y : V) (v u : Value) (Q : VK), Inv X pins σ H s → RelV x v → RelV y u → r x y H Q →
  subscripted slice false v u = operate [v, u] (getItem v u) → wpAny (model X.prog X.w) X.A (subscriptTail value slice v u) (EP X pins σ Q) X.xe s
def MtR (X : Cx) (id : String) (r : V → List V → Hp → VK → Prop) : Prop :=
 ∀ (pins : List (Addr × Obj)) (s : Shared) (σ : St) (H : Hp) (x : V) (xs : List V) (v : Value) (us : List Value) (Q : VK), Inv X pins σ H s → RelV x v → Vals xs us → r x xs H Q →
  wpAny (model X.prog X.w) X.A (call (.builtin id) (v :: us)) (EP X pins σ Q) X.xe s
section
variable {X : Cx} {a b : Expr} {ta tb : TE} {pos : Pos}
theorem pe_ix {r : R2} (hr : IxR X r) (ha : PE X a ta) (hb : PE X b tb) (hs : PlainIx b) : PE X (.Subscript a b pos) (tOp r ta tb) := by
 intro pins s σ H Q I h
 exact Subscript_ (binT ha hb I h fun v u s2 x y H2 I2 rx ry q => hr a b pins s2 σ H2 x y v u Q I2 rx ry q (hs _ _))
def rIxL (K : PySem.W.Frag) : R2 := fun x y H Q => ∃ p xs i v, x = .ref p ∧ y = .int i ∧ SqL K H p xs ∧ atI xs i = some v ∧ Q v H
def rIxT (K : PySem.W.Frag) : R2 := fun x y H Q => ∃ p xs i v, x = .ref p ∧ y = .int i ∧ SqT K H p xs ∧ atI xs i = some v ∧ Q v H
theorem ix_list : IxR X (rIxL X.K) := by
 intro value slice pins s σ H x y v u Q I rx ry h hs
 obtain ⟨p, xs, i, z, rfl, rfl, hq, he, q⟩ := h
 cases rx
 obtain ⟨t, rfl⟩ := ry
 obtain ⟨its, r, pl, hz⟩ := I.list hq
 obtain ⟨j, h1, h2, h3, h4, h5⟩ := atI_get he
 obtain ⟨w, ew, rw'⟩ := r.get h2
 have hl := r.length
 have hn := line63
 have fin : EP X pins σ Q w s := ⟨z, H, I, rw', q⟩
 by_cases h0 : 0 ≤ i
 ·have hj : i.toNat = j := by
   rw [seqIndex_of h0 h5] at h1
   exact Option.some.inj h1
  exact item_listR pl.isList h0 (by omega) (by rw [hj]; simpa using ew) fin hs
 ·have hj : (i + (its.toArray.size : Int)).toNat = j := by
   rw [seqIndex_neg (by omega) h4] at h1
   rw [List.size_toArray, ← hl]
   exact Option.some.inj h1
  exact subscriptTail_builtinR (x := w) pl.isList.typeIs slot_list_getitem.lookup
   (wpAny_getItem_list_neg (Q := fun r s' => r = w ∧ EP X pins σ Q r s') pl.isList (by omega) (by rw [List.size_toArray] <;> omega) (by omega) (by rw [hj]; simpa using ew) ⟨rfl, fin⟩) hs
theorem ix_tup : IxR X (rIxT X.K) := by
 intro value slice pins s σ H x y v u Q I rx ry h hs
 obtain ⟨p, xs, i, z, rfl, rfl, hq, he, q⟩ := h
 cases rx
 obtain ⟨t, rfl⟩ := ry
 obtain ⟨its, r, pl, hz⟩ := I.tuple hq
 obtain ⟨j, h1, h2, h3, h4, h5⟩ := atI_get he
 obtain ⟨w, ew, rw'⟩ := r.get h2
 have hl := r.length
 have hn := line63
 have fin : EP X pins σ Q w s := ⟨z, H, I, rw', q⟩
 exact subscriptTail_builtinR (x := w) pl.typeIs slot_tuple_getitem.lookup
  (getItem_tuple (j := j) (Q := fun r s' => r = w ∧ EP X pins σ Q r s') pl (by omega) (by omega) (by rw [List.size_toArray, ← hl]; exact h1) (by simpa using ew) ⟨rfl, fin⟩) hs
theorem mapSeq_set (its : List Value) (n j : Nat) (u : Value) : Obj.mapSeq (·.setIfInBounds j u) { cls := .type "list", data := .seq its.toArray n } = { cls := .type "list", data := .seq (its.set j u).toArray n } := by
 simp [Obj.mapSeq]
theorem Inv.lst {pins : List (Addr × Obj)} {σ : St} {H : Hp} {s : Shared} {p : Addr} {xs : List V} (I : Inv X pins σ H s) (h : H p = some (.lst xs)) :
  ∃ (its : List Value) (n : Nat), Vals xs its ∧ s.heap.get? p = some { cls := .type "list", data := .seq its.toArray n } ∧ xs.length ≤ sizeLine := by
 obtain ⟨z, its, n, r, e⟩ := I.hok p _ h
 exact ⟨its, n, r, e, z⟩
theorem Inv.lstUpd {pins : List (Addr × Obj)} {σ : St} {H : Hp} {s : Shared} {p : Addr} {xs ys : List V} {its its' : List Value} {n n' : Nat} {f : Obj → Obj} (I : Inv X pins σ H s) (h : H p = some (.lst xs))
  (ho : s.heap.get? p = some { cls := .type "list", data := .seq its.toArray n }) (hf : f { cls := .type "list", data := .seq its.toArray n } = { cls := .type "list", data := .seq its'.toArray n' }) (r : Vals ys its') (hz : ys.length ≤ sizeLine) (t : Nat) :
  Inv X pins σ (upd H p (.lst ys)) { s with heap := s.heap.update p f, toks := t } := by
 have e : (s.heap.update p f).get? p = some { cls := .type "list", data := .seq its'.toArray n' } := by
  rw [Heap.get?_update_self f ho (by rw [hf] <;> rfl), hf]
 refine I.write (x := p) (e := p) (by rw [h]; trivial) (.inl rfl) (fun b u hb q => (Heap.get?_update_other _ _ (Ne.symm hb)).trans q) ⟨_, e⟩ ?_
 exact ⟨hz, its', n', r, e⟩
def rSetL : V → V → V → Hp → (Hp → Prop) → Prop := fun o i v H Q => ∃ p xs k j, o = .ref p ∧ i = .int k ∧ H p = some (.lst xs) ∧ ixN xs.length k = some j ∧ Q (upd H p (.lst (xs.set j v)))
theorem set_list : PSet X rSetL := by
 intro pins s σ H o i v ov iv u Q I ro ri rv h
 obtain ⟨p, xs, k, j, rfl, rfl, hp, hj, q⟩ := h
 cases ro
 obtain ⟨t, rfl⟩ := ri
 obtain ⟨its, n, r, ho, hz⟩ := I.lst hp
 obtain ⟨h1, h2, h3, h4⟩ := ixN_seq hj
 have hl := r.length
 have hn := line63
 have I' : Inv X pins σ (upd H p (.lst (xs.set j v))) { s with heap := s.heap.update p (Obj.mapSeq (·.setIfInBounds j u)) } :=
  I.lstUpd hp ho (mapSeq_set its n j u) (r.set rv j) (by rw [List.length_set]; exact hz) s.toks
 by_cases h0 : 0 ≤ k
 ·have hk : k.toNat = j := by
   rw [seqIndex_of h0 h4] at h1
   exact Option.some.inj h1
  exact PySem.W.ki_setAt ho h0 (by omega) (by rw [List.size_toArray, ← hl]; exact h4) (by rw [hk]; exact ⟨_, I', q⟩)
 ·have hk : (k + (its.toArray.size : Int)).toNat = j := by
   rw [seqIndex_neg (by omega) h3] at h1
   rw [List.size_toArray, ← hl]
   exact Option.some.inj h1
  exact PySem.W.ki_setBack ho (by omega) (by rw [List.size_toArray, ← hl]; exact h3) (by omega) (by rw [hk]; exact ⟨_, I', q⟩)
theorem slice_bounds (lo hi : Option Int) (n : Nat) : (sliceBounds lo hi none n).1 = ((HT.sIx n 0 lo : Nat) : Int) ∧ (sliceBounds lo hi none n).2.1 = ((HT.sIx n n hi : Nat) : Int) ∧ (sliceBounds lo hi none n).2.2 = 1 := by
 refine ⟨?_, ?_, rfl⟩
 ·cases lo with
  | none => simp [sliceBounds, HT.sIx]
  | some i =>
   simp only [sliceBounds, HT.sIx, Option.getD_none, show (1 : Int) > 0 by decide, if_true]
   by_cases h : i < 0
   ·simp only [h, if_true] <;> omega
   ·simp only [h, if_false] <;> omega
 ·cases hi with
  | none => simp [sliceBounds, HT.sIx]
  | some i =>
   simp only [sliceBounds, HT.sIx, Option.getD_none, show (1 : Int) > 0 by decide, if_true]
   by_cases h : i < 0
   ·simp only [h, if_true] <;> omega
   ·simp only [h, if_false] <;> omega
theorem slicePick_cut (its : List Value) (lo hi : Option Int) : slicePick its.toArray lo hi none = ((its.drop (HT.sIx its.length 0 lo)).take (HT.sIx its.length its.length hi - HT.sIx its.length 0 lo)).toArray := by
 obtain ⟨h1, h2, h3⟩ := slice_bounds lo hi its.toArray.size
 unfold slicePick
 rw [h1, h2, h3]
 simp only [sliceRange_one, pick_run, List.size_toArray] <;> rfl
def rSlL (K : PySem.W.Frag) : V → Option Int → Option Int → Hp → VK → Prop := fun x lo hi H Q => ∃ a xs, x = .ref a ∧ SqL K H a xs ∧ ∀ p, H p = none → Q (.ref p) (upd H p (.lst (cutV xs lo hi)))
theorem sl_list : SlR X (rSlL X.K) := by
 intro pins s σ H x v vl vu lo hi sl Q I rx hs pl pu h
 obtain ⟨a, xs, rfl, hx, q⟩ := h
 cases rx
 obtain ⟨its, r, ht, hz⟩ := I.list hx
 have hlen := r.length
 refine ⟨"list", _, slot_list_getitem.lookup, ht.isList.typeIs, ?_⟩
 refine wpAny_getItem_list_slice ht.isList hs pl pu .none (by simp) ?_ (by rw [List.size_toArray] <;> omega)
 rw [slicePick_cut, ← hlen]
 refine ⟨.ref s.heap.objs.size, _, I.laid (t' := s.toks) (o := .lst (cutV xs lo hi)) (fun b ob q => Heap.get?_push_of_some _ q) (Nat.le_refl _) ?_, rfl, q _ (I.hok.fresh (Nat.le_refl _))⟩
 exact ⟨Nat.le_trans (cutV_length xs lo hi) hz, _, 0, (r.drop (HT.sIx xs.length 0 lo)).take (HT.sIx xs.length xs.length hi - HT.sIx xs.length 0 lo), Heap.get?_push_size _ rfl⟩
theorem call_len_seq : CallR X (.builtin "len") (fun xs H Q => ∃ p ys, xs = [.ref p] ∧ (SqL X.K H p ys ∨ SqT X.K H p ys) ∧ Q (.int ys.length) H) := by
 intro pins s σ H xs us Q I r h
 obtain ⟨p, ys, rfl, hq, q⟩ := h
 obtain ⟨u, rfl, rx⟩ := vals1 r
 cases rx
 have hn := line63
 rcases hq with hq | hq
 ·obtain ⟨its, r', pl, hz⟩ := I.list hq
  have hlen := r'.length
  exact Calls.call_len_list pl.isList (by simp only [List.size_toArray] <;> omega) ⟨.int ys.length, H, I.tok _, ⟨s.toks + 1, by rw [List.size_toArray, hlen]⟩, q⟩
 ·obtain ⟨its, r', pl, hz⟩ := I.tuple hq
  have hlen := r'.length
  exact len_tuple pl (by simp only [List.size_toArray] <;> omega) ⟨.int ys.length, H, I.tok _, ⟨s.toks + 1, by rw [List.size_toArray, hlen]⟩, q⟩
theorem call_list_of : CallR X (.type "list") (fun xs H Q => ∃ p ys, xs = [.ref p] ∧ (SqL X.K H p ys ∨ SqT X.K H p ys) ∧ ∀ l, H l = none → Q (.ref l) (upd H l (.lst ys))) := by
 intro pins s σ H xs us Q I r h
 obtain ⟨p, ys, rfl, hq, q⟩ := h
 obtain ⟨u, rfl, rx⟩ := vals1 r
 cases rx
 have fin : ∀ (its : List Value), Vals ys its → ys.length ≤ sizeLine → ∀ (h' : Heap) (c' : Nat), (∀ b o', s.heap.get? b = some o' → h'.get? b = some o') →
   h'.get? s.heap.objs.size = some { cls := .type "list", dict := none, data := .seq its.toArray c', slots := #[] } → EP X pins σ Q (.ref s.heap.objs.size) { s with heap := h' } := fun its r' hz h' c' kp e =>
  ⟨.ref s.heap.objs.size, _, I.laid (t' := s.toks) kp (Nat.le_refl _) (show ObjOk X.prog X.w _ h' _ (.lst ys) from ⟨hz, its, c', r', e⟩), rfl, q _ (I.hok.fresh (Nat.le_refl _))⟩
 rcases hq with hq | hq
 ·obtain ⟨its, r', pl, hz⟩ := I.list hq
  have hlen := r'.length
  obtain ⟨o, ho, hc, n, hd⟩ := pl.isList
  exact call_list_seq p (.inl rfl) ho hc hd (fun h' c' kp e => fin its r' hz h' c' kp e) (by simp only [List.size_toArray] <;> omega)
 ·obtain ⟨its, r', pl, hz⟩ := I.tuple hq
  have hlen := r'.length
  obtain ⟨o, ho, hc, n, hd⟩ := pl
  exact call_list_seq p (.inr rfl) ho hc hd (fun h' c' kp e => fin its r' hz h' c' kp e) (by simp only [List.size_toArray] <;> omega)
theorem call_tuple_of : CallR X (.type "tuple") (fun xs H Q => ∃ p ys, xs = [.ref p] ∧ ((SqL X.K H p ys ∧ ∀ l, H l = none → Q (.ref l) (upd H l (.tup ys))) ∨ (SqT X.K H p ys ∧ Q (.ref p) H))) := by
 intro pins s σ H xs us Q I r h
 obtain ⟨p, ys, rfl, h⟩ := h
 obtain ⟨u, rfl, rx⟩ := vals1 r
 cases rx
 rcases h with ⟨hq, q⟩ | ⟨hq, q⟩
 ·obtain ⟨its, r', pl, hz⟩ := I.list hq
  have hlen := r'.length
  refine call_tuple_list pl.isList (fun h' kp => ?_) (by simp only [List.size_toArray] <;> omega)
  have I1 : Inv X pins σ H { s with heap := h' } := I.kept (t' := s.toks) kp
  have I2 : Inv X pins σ (upd H h'.objs.size (.tup ys)) { s with heap := h'.push { cls := .type "tuple", data := .seq its.toArray } } :=
   I1.laid (t' := s.toks) (fun b o e => Heap.get?_push_of_some _ e) (Nat.le_refl _) (show ObjOk X.prog X.w _ _ _ (.tup ys) from ⟨hz, its, r', IsTup.new _ _⟩)
  exact ⟨.ref h'.objs.size, _, I2, rfl, q _ (I1.hok.fresh (Nat.le_refl _))⟩
 ·obtain ⟨its, r', pl, hz⟩ := I.tuple hq
  exact call_tuple_same pl ⟨.ref p, H, I, rfl, q⟩
def tyV (K : PySem.W.Frag) (T : String) (x : V) (H : Hp) : Prop := match x with
 | .str _ => T = "str"
 | .int _ => T = "int"
 | .ref p => (T = "list" ∧ ∃ xs, SqL K H p xs) ∨ (T = "tuple" ∧ ∃ o, K.lookup p = some o ∧ o.cls = .type "tuple" ∧ o.dict = none) ∨
   (T = "dict" ∧ ((∃ kvs, H p = some (.dK kvs)) ∨ ∃ kvs, H p = some (.dT kvs))) ∨ (T = "set" ∧ ∃ S n, H p = some (.set S n))
 | _ => False
theorem tyV_is {pins : List (Addr × Obj)} {σ : St} {H : Hp} {s : Shared} {T : String} {x : V} {v : Value} (I : Inv X pins σ H s) (r : RelV x v) (ty : tyV X.K T x H) :
  s.TypeIs v T ∧ ∀ a, v = .ref a → ∃ ob, s.heap.get? a = some ob ∧ ob.dict = none := by
 cases x with
 | str z =>
  obtain ⟨t, rfl⟩ := r
  cases (show T = "str" from ty)
  exact ⟨typeIs_str s z t, fun _ e => nomatch e⟩
 | int i =>
  obtain ⟨t, rfl⟩ := r
  cases (show T = "int" from ty)
  exact ⟨typeIs_int s i t, fun _ e => nomatch e⟩
 | ref p =>
  cases r
  rcases ty with ⟨rfl, xs, hq⟩ | ⟨rfl, o, hk, hc, hd⟩ | ⟨rfl, hk⟩ | ⟨rfl, S, n, hk⟩
  ·obtain ⟨its, _, pl, _⟩ := I.list hq
   refine ⟨pl.isList.typeIs, fun a e => ?_⟩
   cases e
   obtain ⟨o, n, e, c, hd, _⟩ := pl
   exact ⟨o, e, hd⟩
  ·refine ⟨⟨o, I.kIn p o hk, hc⟩, fun a e => ?_⟩
   cases e
   exact ⟨o, I.kIn _ o hk, hd⟩
  ·have z : ∃ o, s.heap.get? p = some o ∧ o.ExactDict := by
    rcases hk with ⟨kvs, hk⟩ | ⟨kvs, hk⟩
    ·obtain ⟨_, _, _, _, o, _, _, e, ex, _⟩ := I.hok p _ hk
     exact ⟨o, e, ex⟩
    ·obtain ⟨_, _, _, _, o, _, _, e, ex, _⟩ := I.hok p _ hk
     exact ⟨o, e, ex⟩
   obtain ⟨o, e, ex⟩ := z
   refine ⟨⟨o, e, ex.1⟩, fun a e2 => ?_⟩
   cases e2
   exact ⟨o, e, ex.2.1⟩
  ·obtain ⟨o, _, _, _, e, ex, _⟩ := I.hok p _ hk
   refine ⟨⟨o, e, ex.1⟩, fun a e2 => ?_⟩
   cases e2
   exact ⟨o, e, ex.2.1⟩
 | _ => exact False.elim ty
def tBM (K : PySem.W.Frag) (T : String) (r : V → List V → Hp → VK → Prop) (to : TE) (t : TA) : TE := fun σ H Q => to σ H fun x H1 => tyV K T x H1 ∧ t σ H1 fun xs H2 => r x xs H2 Q
variable {o e : Expr} {es : List Expr} {to : TE} {t : TA} {name : Str} {apos cpos : Pos} {T id : String} {r : V → List V → Hp → VK → Prop}
theorem pe_bm (pa : PlainAttrs T) (slot : Slot T name id) (hty : typeOf (.builtin id) = pure (.type "method_descriptor")) (hm : MtR X id r) (ho : PE X o to) (ha : PA X (e :: es) t)
  (hbase : attributeBase o name X.env (eval o X.env) = eval o X.env := by rfl)
  (hfew : ((backTo cpos (starEach (e :: es) X.env)).all (fun x => !x.1) && (backToKw cpos (keywordEach [] X.env)).all (fun x => x.1.isSome)
   && decide ((e :: es).length + ([] : List Keyword).length + (if ([] : List Keyword).isEmpty then 0 else 1) < 30)) = true := by rfl)
  (hline : (apos.endLine == cpos.line) = true := by rfl) (hs : starEach (e :: es) X.env = (false, eval e X.env) :: starEach es X.env := by rfl) (hplain : (backTo cpos (starEach es X.env)).any (·.1) = false := by rfl) :
  PE X (.Call (.Attribute o name apos) (e :: es) [] cpos) (tBM X.K T r to t) := by
 intro pins s σ H Q I h
 refine wpAny_Call_method_late hbase hfew hline rfl (thn (ho pins s σ H _ I h) fun v s1 ⟨x, H1, I1, r1, ty, q1⟩ => ?_)
 obtain ⟨h1, h2⟩ := tyV_is I1 r1 ty
 refine ⟨T, id, pa, slot, hty, h1, h2, ?_⟩
 have hA := ha cpos pins s1 σ H1 _ I1 q1
 rw [hs] at hA ⊢
 refine Calls.callWith_builtin (by show (false || (backTo cpos (starEach es X.env)).any (·.1)) = false; rw [hplain] <;> rfl) (Calls.evalArgs_plain ?_)
 exact thn hA fun us s2 ⟨vs, H2, I2, r2, q2⟩ => hm pins s2 σ H2 x vs v us Q I2 r1 r2 q2
end
def MtM (X : Cx) (id : String) (r : V → List V → Hp → VK → Prop) : Prop :=
 ∀ (pins : List (Addr × Obj)) (s : Shared) (σ : St) (H : Hp) (x : V) (xs : List V) (v : Value) (us : List Value) (Q : VK), Inv X pins σ H s → RelV x v → Vals xs us → r x xs H Q →
  wpAny (model X.prog X.w) X.A (call (.builtin id) (v :: us)) (EP X pins σ Q) X.xe s
theorem Vals.one : ∀ {x : V} {us : List Value}, Vals [x] us → ∃ u, us = [u] ∧ RelV x u
 | _, _, .cons r .nil => ⟨_, rfl, r⟩
theorem Vals.eraseIdx : ∀ {xs : List V} {us : List Value} (i : Nat), Vals xs us → Vals (xs.eraseIdx i) (us.eraseIdx i)
 | _, _, _, .nil => .nil
 | _, _, 0, .cons _ t => t
 | _, _, i + 1, .cons r t => .cons r (Vals.eraseIdx i t)
theorem Vals.reverse {xs : List V} {us : List Value} (h : Vals xs us) : Vals xs.reverse us.reverse := by
 induction h with
 | nil => exact .nil
 | cons r t ih => rw [List.reverse_cons, List.reverse_cons]; exact Vals.append ih (.cons r .nil)
theorem len_erase {α : Type} : ∀ (l : List α) (i : Nat), (l.eraseIdx i).length ≤ l.length
 | [], _ => Nat.le_refl _
 | _ :: _, 0 => Nat.le_succ _
 | _ :: r, i + 1 => Nat.succ_le_succ (len_erase r i)
section
variable {X : Cx} {pins : List (Addr × Obj)} {σ : St} {H : Hp} {s : Shared} {l b : Addr} {xs ys zs : List V}
theorem Inv.lset {its its' : List Value} {n : Nat} {f : Array Value → Array Value} {t' : Nat} (I : Inv X pins σ H s) (hH : H l = some (.lst xs))
  (e : s.heap.get? l = some { cls := .type "list", data := .seq its.toArray n }) (hf : f its.toArray = its'.toArray) (hv : Vals ys its') (hz : ys.length ≤ sizeLine) :
  Inv X pins σ (upd H l (.lst ys)) { s with heap := s.heap.update l (Obj.mapSeq f), toks := t' } := by
 have q := PySem.IsL.update e f
 rw [hf] at q
 refine I.write (x := l) (e := l) (by rw [hH]; exact trivial) (.inl rfl) (fun b' u hb hu => (Heap.get?_update_other s.heap (Obj.mapSeq f) (Ne.symm hb)).trans hu) ⟨_, q⟩ ?_
 exact ⟨hz, its', _, hv, q⟩
theorem Inv.lnew {its : List Value} {t' : Nat} (I : Inv X pins σ H s) (hv : Vals ys its) (hz : ys.length ≤ sizeLine) :
  Inv X pins σ (upd H s.heap.objs.size (.lst ys)) { s with heap := s.heap.push { cls := .type "list", data := .seq its.toArray }, toks := t' } :=
 I.laid (fun _ _ q => Heap.get?_push_of_some _ q) (Nat.le_refl _) ⟨hz, its, 0, hv, Heap.get?_push_size _ rfl⟩
theorem Inv.fresh (I : Inv X pins σ H s) : H s.heap.objs.size = none := I.hok.fresh (Nat.le_refl _)
theorem Inv.lstM (I : Inv X pins σ H s) (hH : H l = some (.lst xs)) : xs.length ≤ sizeLine ∧ ∃ (its : List Value) (n : Nat), Vals xs its ∧ xs.length = its.length ∧ s.heap.get? l = some { cls := .type "list", data := .seq its.toArray n } := by
 obtain ⟨z, its, n, r, e⟩ := I.hok l _ hH
 exact ⟨z, its, n, r, r.length, e⟩
end
section
variable {X : Cx}
def rAppend : V → List V → Hp → VK → Prop := fun x vs H Q => ∃ l xs y, x = .ref l ∧ vs = [y] ∧ H l = some (.lst xs) ∧ xs.length < sizeLine ∧ Q .non (upd H l (.lst (xs ++ [y])))
theorem mt_append : MtM X "list.append" rAppend := by
 intro pins s σ H x vs v us Q I rx rv h
 obtain ⟨l, xs, y, rfl, rfl, hH, hz, q⟩ := h
 cases rx
 obtain ⟨u, rfl, ru⟩ := rv.one
 obtain ⟨z, its, n, r, hl, e⟩ := I.lstM hH
 refine call_meets F.slot_list_append ⟨_, e, rfl⟩ F.entry_list_append (F.args_list_append_2 _ _) (PySem.list_append l its.toArray n u (by rw [List.size_toArray]; omega)) ⟨e, ?_⟩
 refine ⟨.non, _, I.lset (its' := its ++ [u]) hH e (by simp) (r.append (.cons ru .nil)) ?_, rfl, q⟩
 rw [List.length_append, List.length_singleton]
 omega
def rPopAt : V → List V → Hp → VK → Prop := fun x vs H Q => ∃ l xs i k y, x = .ref l ∧ vs = [.int i] ∧ H l = some (.lst xs) ∧ -(2 ^ 63) ≤ i ∧ i < 2 ^ 63 ∧ seqIndex? i xs.length = some k ∧ xs[k]? = some y ∧ Q y (upd H l (.lst (xs.eraseIdx k)))
theorem mt_popAt : MtM X "list.pop" rPopAt := by
 intro pins s σ H x vs v us Q I rx rv h
 obtain ⟨l, xs, i, k, y, rfl, rfl, hH, h1, h2, hk, hy, q⟩ := h
 cases rx
 obtain ⟨u, rfl, ru⟩ := rv.one
 obtain ⟨t, rfl⟩ := ru
 obtain ⟨z, its, n, r, hl, e⟩ := I.lstM hH
 obtain ⟨w, hw, rw'⟩ := r.get hy
 refine call_meets F.slot_list_pop ⟨_, e, rfl⟩ F.entry_list_pop (F.args_list_pop_2 _ _)
  (MeetsSeq.list_pop_at l its.toArray n i t k w (fitsIndex_both h1 h2) (by rw [List.size_toArray, ← hl]; exact hk) (by rw [← Array.getElem?_toList]; exact hw) (by rw [List.size_toArray]; omega)) ⟨e, ?_⟩
 refine ⟨y, _, I.lset (its' := its.eraseIdx k) hH e ?_ (r.eraseIdx k) ?_, rw', q⟩
 ·show its.toArray.eraseIdxIfInBounds k = (its.eraseIdx k).toArray
  rw [List.eraseIdxIfInBounds_toArray]
 ·have := len_erase xs k
  omega
def rCat : R2 := fun x y H Q => ∃ l b xs zs, x = .ref l ∧ y = .ref b ∧ H l = some (.lst xs) ∧ H b = some (.lst zs) ∧ xs.length + zs.length ≤ sizeLine ∧ ∀ p, H p = none → Q (.ref p) (upd H p (.lst (xs ++ zs)))
theorem op_cat : OpR X (binaryOp .Add) rCat := by
 intro pins s σ H x y v u Q I rx ry h
 obtain ⟨l, b, xs, zs, rfl, rfl, hH, hB, hz, q⟩ := h
 cases rx
 cases ry
 obtain ⟨z, its, n, r, hl, e⟩ := I.lstM hH
 obtain ⟨z2, its2, n2, r2, hl2, e2⟩ := I.lstM hB
 refine PySem.P.add_list e e2 ?_ (by rw [List.size_toArray, List.size_toArray]; omega)
 have ea : its.toArray ++ its2.toArray = (its ++ its2).toArray := by simp
 rw [ea]
 exact ⟨.ref _, _, I.lnew (t' := s.toks) (r.append r2) (by rw [List.length_append]; omega), rfl, q _ I.fresh⟩
end
section
variable {prog : Program} {w : World} {A : Around} {E : Value → Shared → Prop} {s : Shared}
end
section
variable {X : Cx}
end
end L2
namespace Att
open PySem PySem.W PySem.Calls PyProof.Rows
theorem ints_of_wellAll {P : Params} {h : Heap} : ∀ (ns : List Int) (vs : List Value), WellAll P h vs (ns.map WData.int) → IntsAre vs ns := by
 intro ns
 induction ns with
 | nil =>
  intro vs w
  rw [List.map_nil] at w
  cases w
  exact .nil
 | cons n ns ih =>
  intro vs w
  rw [List.map_cons] at w
  cases w with
  | cons a b =>
   cases a
   exact .cons _ _ (ih _ b)
theorem script_of {l : OpenLaw} {n : Nat} (hn : l.most = some n) {P : Params} {h : Heap} {args : List WData} {vals : List Value}
  (hpre : l.row.toRowW.claim.pre args = true) (hwl : WellAll P h vals args) :
  ∃ a vs ns, vals = [Value.ref a] ∧ args = [WData.list (ns.map WData.int)] ∧ h.get? a = some { cls := .type "list", data := .seq vs.toArray } ∧ IntsAre vs ns ∧ ns.length ≤ n := by
 have hsh : WShape.hasAll [] args [.list .int] = true := (pre_splitW hpre).1
 have hc : l.pre.holds [] { args := args } = true := (pre_splitW hpre).2
 obtain ⟨d, r, rfl, h1, h2⟩ := hasAllW_cons hsh
 obtain rfl := hasAllW_nil h2
 obtain ⟨xs, rfl, h3⟩ := hasW_list h1
 obtain ⟨ns, rfl⟩ := items_int h3
 have hlen : ns.length ≤ n := by
  unfold OpenLaw.pre at hc
  have h4 : (WTm.not (.lt (.lit (.int (n : Int))) (.len (.arg 0)))).holds [] { args := [.list (ns.map .int)] } = true := by
   have h4 := (holds_andW hc).1
   rw [hn] at h4
   exact h4
  have h5 := condW_of h4 (w_not (w_lt w_lit (w_len_list (w_arg rfl))))
  rw [List.length_map] at h5
  refine Nat.le_of_not_lt fun q => ?_
  have q' : (n : Int) < ((ns.length : Nat) : Int) := by omega
  first
   | (rw [decide_eq_true q'] at h5; exact absurd h5 (by decide))
   | (simp at h5; omega)
 cases hwl with
 | cons w1 w2 =>
  cases w2
  cases w1 with
  | list ho hall => exact ⟨_, _, ns, rfl, rfl, ho, ints_of_wellAll ns _ hall, hlen⟩
theorem post_true (l : OpenLaw) (args : List WData) : l.row.toRowW.claim.post args (.bool true) args = true :=
 postW_of (r := l.row.toRowW) (X := (true == true))
  (show WShape.has [] (.bool true) .bool = true by first | rfl | decide | simp [WShape.has, WShape.arms, WShape.armsAll])
  (show (WTm.eq .res (.lit (.bool true))).value [] { args := args, res := some (.bool true), after := args } = some (.bool (true == true)) from w_eq_bool (w_res rfl) w_lit) rfl
theorem attach_call {l : OpenLaw} {n : Nat} {q : Program} {loose : List Str} {XP : (Str → Option Value) → Heap → Prop} {YP : World → Heap → Prop} {d : DefRec}
  (hn : l.most = some n) (hdf : d.params.defaults = [])
  (call : ∀ (w : World) (s₀ s₁ : Shared) (mg mb : Str → Option Value) (fa : Addr) (o : Obj) (pm cd doc : Value) (a : Addr) (vs : List Value) (ns : List Int),
   Ground q loose [] XP w s₀ mg mb s₁.heap → YP w s₁.heap →
   s₁.heap.get? fa = some o → o.data = .func (docDef d.name d.params d.body d.scope pm cd doc) → s₁.heap.CodeRec cd d.name → mg d.name = some (.ref fa) →
   s₁.heap.get? a = some { cls := .type "list", data := .seq vs.toArray } → IntsAre vs ns → ns.length ≤ n → s₁.gens = #[] →
   codeAny (model l.prog w) callerA (.call (.ref fa) ⟨[.ref a], []⟩) (fun r s' => r = .ok (.ret (.bool true)) ∧ OldK s₁.heap s'.heap ∧ s'.os = s₁.os ∧ AllBare s'.gens) s₁) :
  WalkO q loose XP YP l.row.toRowW d [] (fun f vs => PySem.call f vs) := by
 intro w s₀ s₁ mg mb G Y fa o pm cd doc dV kV ho hd hcd hD hmg hg args vals as hpre hlay hrd hwl hlo
 obtain rfl : dV = .none := Dflts.none hD hdf
 obtain rfl : kV = .none := Dflts.noKw hD
 obtain ⟨a, vs, ns, rfl, rfl, hobj, hints, hlen⟩ := script_of hn hpre hwl
 refine enter_call (codeAny_mono (call w s₀ s₁ mg mb fa o pm cd doc a vs ns G Y ho (fd_plain hd) hcd hmg hobj hints hlen hg) fun r s' hq => ?_)
 obtain ⟨rfl, h2, h3, h4⟩ := hq
 exact ⟨.inl ⟨.bool true, .bool true, [], rfl, fun _ => rfl, .bool true, post_true l _, fun _ => ⟨List.Pairwise.nil, fun _ hm => (nomatch hm)⟩⟩, h2, h3, h4⟩
section
variable {prog : Program} {w : World} {A : Around} {E : Value → Shared → Prop} {s : Shared} {K : Frag}
end
end Att
namespace L2
open PySem PySem.Spec PyProof.Rows
theorem vals_ints : ∀ {vs : List Value} {ns : List Int}, IntsAre vs ns → Vals (ns.map V.int) vs
 | _, _, .nil => .nil
 | _, _, .cons n t h => .cons ⟨t, rfl⟩ (vals_ints h)
def Only (H : Hp) : Prop := ∀ b, H b = none ∨ ∃ o xs, H b = some (.frz o (.lst xs))
theorem law_call {P : Program} {w : World} {K : PySem.W.Frag} {mg mb : Str → Option Value} {CX : CXT} {k : Nat} {fa a : Addr} {fd : FuncData} {x : Str} {sp : Sp} {s₁ : Shared} {vs : List Value} {ns : List Int}
  (KX : K.In s₁.heap) (hns : s₁.heap.Ns mainGlobals mg) (hb : s₁.heap.Ns builtinsNs mb) (hbb : ∀ x : Str, x ≠ "__name__" → mb x = bootBuiltins x) (hlim : s₁.heap.NoLimit) (hg : s₁.gens = #[])
  (ha : s₁.heap.get? a = some { cls := .type "list", data := .seq vs.toArray }) (hi : IntsAre vs ns) (hl : ns.length ≤ sizeLine) (hr : Room k callerA)
  (F : ∀ base : Heap, K.In base → base.Ns mainGlobals mg → FnOk P w K mg base CX k fa fd [x] sp) (hbind : ∀ (s : Shared) (u : Value), BindsTo s fd ⟨[u], []⟩ [(x, u)])
  (hsp : ∀ H : Hp, Only H → SqL K H a (ns.map V.int) → sp [.ref a] H (fun v _ => v = .bl true) fun _ _ _ => False)
  (hCX : ∀ H e s', CX [] H s₁ (fun _ _ _ => False) e s' → False) :
  codeAny (model P w) callerA (.call (.ref fa) ⟨[.ref a], []⟩) (fun r s' => r = .ok (.ret (.bool true)) ∧ OldK s₁.heap s'.heap ∧ s'.os = s₁.os ∧ AllBare s'.gens) s₁ := by
 have rv := vals_ints hi
 have lenV := hi.length
 have core : ∀ H : Hp, Only H → SqL K H a (ns.map V.int) → HOk P w H s₁.heap → (∀ b, H b ≠ none → b = a) → (H a ≠ none → K.lookup a = none) →
   codeAny (model P w) callerA (.call (.ref fa) ⟨[.ref a], []⟩) (fun r s' => r = .ok (.ret (.bool true)) ∧ OldK s₁.heap s'.heap ∧ s'.os = s₁.os ∧ AllBare s'.gens) s₁ := by
  intro H hO hS hok hA hK
  have base_of : ∀ {b : Addr} {o : Obj}, s₁.heap.get? b = some o → H b = none → (hidT s₁.heap H).get? b = some o := fun e n => hidT_get e n
  have noA : ∀ {b : Addr} {o : Obj} {es : Array DictEntry} {ep : Nat}, s₁.heap.get? b = some o → o.data = .dict es ep → H b = none := fun {b o es ep} e d => by
   cases q : H b with
   | none => rfl
   | some u =>
    have e' : b = a := hA b (by rw [q]; simp)
    subst e'
    rw [ha] at e; cases e
    have d' : Data.seq vs.toArray _ = Data.dict es ep := d
    cases d'
  have nsK : ∀ {b : Addr} {m : Str → Option Value}, s₁.heap.Ns b m → (hidT s₁.heap H).Ns b m := fun {b m} ⟨o, es, ep, e, d, r⟩ => ⟨o, es, ep, base_of e (noA e d), d, r⟩
  have hKb : K.In (hidT s₁.heap H) := fun b o e => base_of (KX b o e) (by
   cases q : H b with
   | none => rfl
   | some u =>
    have e' : b = a := hA b (by rw [q]; simp)
    subst e'
    rw [hK (by rw [q]; simp)] at e; cases e)
  have hM : Mod K mg (hidT s₁.heap H) := ⟨hKb, nsK hns, ⟨mb, nsK hb, hbb⟩, let ⟨mc, h1, h2⟩ := hlim; ⟨mc, nsK h1, h2⟩⟩
  have e0 : Env0 P w K mg (hidT s₁.heap H) callerA [] s₁ H := ⟨rfl, hM, fun b o e => of_hidT e, Nat.le_of_eq (hidT_size _ _), trivial, fun b hb => absurd (show b ∈ ([] : List Addr) from hb) (by simp), hok, .of_eq hg⟩
  refine codeAny_mono ((F _ hKb (nsK hns)).run callerA [] s₁ H ⟨[.ref a], []⟩ [.ref a] [.ref a] _ _ hr e0 (hbind s₁ (.ref a)) (.cons rfl .nil) (hsp H hO hS)) fun r s' h => ?_
  cases r with
  | error e => exact (hCX H e s' h).elim
  | ok fl =>
   cases fl with
   | next => exact False.elim h
   | brk => exact False.elim h
   | cont => exact False.elim h
   | ret u =>
    obtain ⟨v, H', os, bare, un, hok', r', q⟩ := h
    have q' : v = .bl true := q
    subst q'
    obtain rfl : u = Value.bool true := r'
    refine ⟨rfl, OldK.of_keep fun b o e => ?_, os, bare⟩
    cases q : H b with
    | none => exact un.keep b o e q (by intro z; exact absurd (show b ∈ ([] : List Addr) from z) (by simp)) (by simp)
    | some u =>
     rcases hO b with z | ⟨ob, xs, z⟩
     ·rw [q] at z; cases z
     ·have z2 := un.frzs b ob _ z
      obtain ⟨e1, _⟩ := hok b _ z
      obtain ⟨e2, _⟩ := hok' b _ z2
      rw [e] at e1; cases e1
      exact e2
 cases hk : K.lookup a with
 | some o =>
  have e := KX a o hk
  rw [ha] at e
  cases e
  refine core (fun _ => none) (fun _ => .inl rfl) (.inr ⟨_, vs.toArray, _, hk, rfl, rfl, rfl, by rw [List.size_toArray, lenV]; exact hl, by simpa using rv⟩) (fun b u z => by have z' : (none : Option HO) = some u := z; cases z') (fun b z => absurd rfl z) fun z => absurd rfl z
 | none =>
  refine core (fun b => if b = a then some (.frz { cls := .type "list", data := .seq vs.toArray } (.lst (ns.map V.int))) else none) (fun b => ?_) (.inl (.inr ⟨{ cls := .type "list", data := .seq vs.toArray }, if_pos rfl⟩)) (fun b u z => ?_) (fun b z => ?_) fun _ => hk
  ·by_cases hb : b = a
   ·exact .inr ⟨_, _, if_pos hb⟩
   ·exact .inl (if_neg hb)
  ·by_cases hb : b = a
   ·have z' := (if_pos hb).symm.trans z
    cases z'
    subst hb
    exact ⟨ha, by rw [List.length_map]; exact hl, vs, _, rv, ha⟩
   ·have z' := (if_neg hb).symm.trans z
    cases z'
  ·by_cases hb : b = a
   ·exact hb
   ·exact absurd (if_neg hb) z
theorem walk_of {l : PySem.W.OpenLaw} {n k : Nat} {q : Program} {loose : List Str} {XP : (Str → Option Value) → Heap → Prop} {YP : World → Heap → Prop} {d : DefRec} {K : Params → PySem.W.Frag} {CX : World → CXT} {sp : World → Sp} {x : Str}
  (hn : l.most = some n) (hn2 : n ≤ sizeLine) (hdf : d.params.defaults = []) (hr : Room k callerA)
  (hY : ∀ (w : World) (h : Heap), YP w h → (K w.params).In h)
  (F : ∀ (w : World) (mg : Str → Option Value) (fa : Addr) (h : Heap), (K w.params).In h → h.Ns mainGlobals mg → mg d.name = some (.ref fa) →
   ∃ fd : FuncData, (∀ (s : Shared) (u : Value), BindsTo s fd ⟨[u], []⟩ [(x, u)]) ∧
    ∀ base : Heap, (K w.params).In base → base.Ns mainGlobals mg → FnOk l.prog w (K w.params) mg base (CX w) k fa fd [x] (sp w))
  (hsp : ∀ (w : World) (H : Hp) (a : Addr) (ns : List Int), ns.length ≤ n → Only H → SqL (K w.params) H a (ns.map V.int) → sp w [.ref a] H (fun v _ => v = .bl true) fun _ _ _ => False)
  (hCX : ∀ (w : World) (H : Hp) (s : Shared) (e : Value) (s' : Shared), CX w [] H s (fun _ _ _ => False) e s' → False) :
  PySem.W.WalkO q loose XP YP l.row.toRowW d [] (fun f vs => PySem.call f vs) := by
 refine Att.attach_call hn hdf fun w s₀ s₁ mg mb fa o pm cd doc a vs ns G Y ho hd hcd hmg hobj hints hlen hg => ?_
 have KX := hY w _ Y
 obtain ⟨fd, hb, hF⟩ := F w mg fa _ KX G.T.g hmg
 exact law_call KX G.T.g G.T.b G.T.builtins G.T.nolimit hg hobj hints (Nat.le_trans hlen hn2) hr hF hb (fun H hO hS => hsp w H a ns hlen hO hS) fun H e s' => hCX w H s₁ e s'
def inClass (s : Stmt) (j : Nat) : Stmt := match s with
 | .ClassDef _ _ _ body _ _ _ _ _ _ _ => body.getD j (.Pass ⟨0, 0, 0, 0⟩)
 | _ => .Pass ⟨0, 0, 0, 0⟩
def defArgs (s : Stmt) : Arguments := match s with
 | .FunctionDef _ a _ _ _ _ _ _ _ _ => a
 | _ => { posonlyargs := [], args := [], vararg := none, kwonlyargs := [], kw_defaults := [], kwarg := none, defaults := [] }
def defBody (s : Stmt) : List Stmt := match s with
 | .FunctionDef _ _ b _ _ _ _ _ _ _ => b
 | _ => []
def defScope (s : Stmt) : Scope := match s with
 | .FunctionDef _ _ _ _ _ _ sc _ _ _ => sc
 | _ => { kind := .function, names := [], isGenerator := false, isCoroutine := false }
abbrev CX0 : CXT := fun _ _ _ _ _ _ => False
abbrev E0 : XK := fun _ _ _ => False
theorem pass0 {X : Cx} : Passes CX0 X E0 := fun _ _ _ _ _ _ _ h => h.elim
structure Fun (K : PySem.W.Frag) (x qual : Str) (st : Stmt) (f : Addr) (fd : FuncData) : Prop where
 ex : ∃ (oc : Value) (od : Option Addr) (kV doc pm : Value) (an : Option Addr) (cdv ct : Value) (osl : Array (Option Value)),
  fd = PySem.W.fnOf x qual (defArgs st) (defBody st) (defScope st) .none kV doc pm an cdv ct ∧ K.lookup f = some ⟨oc, od, .func fd, osl⟩ ∧ PySem.W.codeIn K cdv qual = true
 kp : PySem.W.keepIn K (.ref f) = true
section
variable {P : Program} {w : World} {K : PySem.W.Frag} {mg : Str → Option Value} {base : Heap}
theorem Fun.ok {x qual : Str} {st : Stmt} {f : Addr} {fd : FuncData} {N ps : List Str} {k : Nat} {sp : Sp} (F : Fun K x qual st f fd) (S : FnScope N ps (defScope st)) (len : ∀ vs H Q E, sp vs H Q E → vs.length = ps.length)
  (hbody : ∀ (cdv : Value) (A : Around) (outer : List Env) (s : Shared) (H : Hp) (vs : List V) (Q : VK) (E : XK), Room k (A.deeper (envOfC qual (defScope st) s.heap.objs.size f cdv)) → sp vs H Q E →
   ∃ t, PSs (cxOf CX0 P w K mg base N qual (defScope st) f cdv A outer s H E).nox (defBody st) t ∧ t { nx := fun _ H' => Q .non H', rt := Q } (start N vs) H) : FnOk P w K mg base CX0 (k + 1) f fd ps sp := by
 obtain ⟨oc, od, kV, doc, pm, an, cdv, ct, osl, rfl, lk, hcd⟩ := F.ex
 refine fn_of lk hcd S len fun A outer s H vs Q E hr hsp => ?_
 obtain ⟨t, h, q⟩ := hbody cdv A outer s H vs Q E hr hsp
 exact ⟨t, h.nox, q⟩
theorem Fun.binds {x qual : Str} {st : Stmt} {f : Addr} {fd : FuncData} {ps : List Str} (F : Fun K x qual st f fd)
  (h : ∀ (kV doc pm : Value) (an : Option Addr) (cdv ct : Value) (us : List Value), us.length = ps.length → bindArgs (PySem.W.fnOf x qual (defArgs st) (defBody st) (defScope st) .none kV doc pm an cdv ct) ⟨us, []⟩ = pure (ps.zip us)) : Binds K fd ps [] := by
 obtain ⟨oc, od, kV, doc, pm, an, cdv, ct, osl, rfl, lk, hcd⟩ := F.ex
 exact .all (h kV doc pm an cdv ct)
theorem fun_mk {x qual : Str} {st : Stmt} {f : Addr} {oc : Value} {od an : Option Addr} {osl : Array (Option Value)} {kV doc pm cdv ct : Value} (l : K.lookup f = some ⟨oc, od, .func (PySem.W.fnOf x qual (defArgs st) (defBody st) (defScope st) .none kV doc pm an cdv ct), osl⟩)
  (c : PySem.W.codeIn K cdv qual = true) (k : PySem.W.keepIn K (.ref f) = true) : Fun K x qual st f (PySem.W.fnOf x qual (defArgs st) (defBody st) (defScope st) .none kV doc pm an cdv ct) := ⟨⟨oc, od, kV, doc, pm, an, cdv, ct, osl, rfl, l, c⟩, k⟩
end
section
variable {X : Cx}
end
theorem iteT {A B : Prop} (h : A) : if true = true then A else B := by
 rw [if_pos rfl]
 exact h
theorem ite2 {c A B : Prop} [Decidable c] (h1 : c → A) (h2 : ¬ c → B) : if c then A else B := by
 by_cases h : c
 ·rw [if_pos h]
  exact h1 h
 ·rw [if_neg h]
  exact h2 h
def Same (H H' : Hp) : Prop := ∀ b o, H b = some o → H' b = some o
theorem Same.refl (H : Hp) : Same H H := fun _ _ h => h
theorem Same.trans {H H1 H2 : Hp} (a : Same H H1) (b : Same H1 H2) : Same H H2 := fun c o h => b c o (a c o h)
theorem Same.free {H H' : Hp} (e : Same H H') {l : Addr} (h : H' l = Option.none) : H l = Option.none := by
 cases q : H l with
 | none => rfl
 | some o =>
  rw [e l o q] at h
  cases h
theorem Same.seq {K : PySem.W.Frag} {H H' : Hp} {a : Addr} {xs : List V} (e : Same H H') (h : SqL K H a xs) : SqL K H' a xs := by
 rcases h with (h | ⟨o, h⟩) | h
 ·exact .inl (.inl (e _ _ h))
 ·exact .inl (.inr ⟨o, e _ _ h⟩)
 ·exact .inr h
section
variable {κ : Type} [DecidableEq κ]
end
section
variable {P : Program} {w : World} {H : Hp} {h : Heap} {a : Addr}
end
section
variable {X : Cx} {pins : List (Addr × Obj)} {σ : St} {H : Hp} {s : Shared} {a : Addr} {y v : V} {u r : Value} {o : Option V} {A : Around} {E : Value → Shared → Prop}
theorem Inv.big (I : Inv X pins σ H s) : sysModules < s.heap.objs.size := by
 have h : mainGlobals < s.heap.objs.size := (I.mod.glob.keeps I.bk).lt
 exact Nat.lt_trans (by decide) h
end
section
variable {X : Cx} {pins : List (Addr × Obj)} {σ : St} {H : Hp} {s : Shared} {a : Addr} {kvs : List (Key × V)} {k : Key} {u : Value} {A : Around} {E : Value → Shared → Prop}
end
section
variable {X : Cx} {o i e value : Expr} {pos pos' tpos : Pos} {td ty tv : TE}
end
theorem dk_empty {P : Program} {w : World} {H : Hp} (h : Heap) (hb : sysModules < h.objs.size) : ObjOk P w H (h.push { cls := .type "dict", data := .dict #[] }) h.objs.size (.dK []) :=
 ⟨Nat.zero_le _, beq_eq_false_iff_ne.mpr (Ne.symm (Nat.ne_of_lt hb)), [], .nil, Heap.DictOf.new h⟩
def tDNewK : TE := fun _ H Q => ∀ p, H p = none → Q (.ref p) (upd H p (.dK []))
section
variable {X : Cx} {pos : Pos}
theorem pe_dnewK : PE X (.Dict [] [] pos) tDNewK := fun pins s σ H Q I h =>
 wpAny_Dict_empty ⟨.ref s.heap.objs.size, _, I.laid (a := s.heap.objs.size) (o := .dK []) (t' := s.toks) (fun _ _ q => Heap.get?_push_of_some _ q) (Nat.le_refl _) (dk_empty s.heap I.big), rfl, h _ (I.hok.fresh (Nat.le_refl _))⟩
end
section
variable {X : Cx} {pins : List (Addr × Obj)} {σ : St} {H : Hp} {s : Shared} {a : Addr} {y d : V} {u r : Value} {o : Option V} {A : Around} {E : Value → Shared → Prop}
end
section
variable {X : Cx} {o e f : Expr} {apos cpos : Pos} {td ty tx : TE}
end
section
variable {X : Cx} {pins : List (Addr × Obj)} {σ : St} {H : Hp} {s : Shared} {a : Addr} {kvs : List (Key × V)} {A : Around} {E : Value → Shared → Prop}
end
section
variable {X : Cx} {pins : List (Addr × Obj)} {σ : St} {H : Hp} {s : Shared} {a : Addr} {y : V} {u : Value} {A : Around} {E : Value → Shared → Prop}
end
end L2
set_option maxHeartbeats 4000000
namespace L2
open PySem PySem.Spec PyProof.Rows
structure CompScope (N : List Str) (esc : Scope) (own : List Str) (caps : List Nat) (N' : List Str) (sc : Scope) : Prop where
 kind : sc.kind = .function
 ndn : (sc.names.map (·.1)).Nodup
 uniq : ∀ y ∈ sc.names, y.2 = .local → sc.names.lookup y.1 = some .local
 nd : N'.Nodup
 eqN : N' = own ++ caps.map fun j => N.getD j ""
 cap : ∀ j ∈ caps, j < N.length ∧ sc.names.lookup (N.getD j "") = some .free
 fr : ∀ y ∈ sc.names, y.2 = .free → esc.names.lookup y.1 = some .cell ∨ esc.names.lookup y.1 = some .free
def capS (own : List Str) (caps : List Nat) (σ : St) : St := List.replicate own.length none ++ caps.map fun j => (σ[j]?).join
theorem closure_go {env : Env} : ∀ (names : List (Str × NameKind)) (acc : List (Str × Addr)), (∀ y ∈ names, y.2 = .free → ∃ c, env.cells.lookup y.1 = some c) → (∀ y c, acc.lookup y = some c → env.cells.lookup y = some c) →
  ∃ cl, (forIn names acc (fun x r => if (x.2 == NameKind.free) = true then (do let c ← cellOf env x.1; pure (ForInStep.yield ((x.1, c) :: r))) else pure (ForInStep.yield r)) : Sem (List (Str × Addr))) = pure cl ∧
   (∀ y c, cl.lookup y = some c → env.cells.lookup y = some c) ∧ (∀ y, (∃ c, acc.lookup y = some c) → ∃ c, cl.lookup y = some c) ∧ ∀ y ∈ names, y.2 = .free → ∃ c, cl.lookup y.1 = some c
 | [], acc, _, ha => ⟨acc, rfl, ha, fun _ h => h, fun _ h => absurd h (by simp)⟩
 | (n, k) :: r, acc, hn, ha => by
  rw [List.forIn_cons]
  by_cases hk : k = .free
  ·subst hk
   obtain ⟨c, hc⟩ := hn (n, .free) List.mem_cons_self rfl
   have ha' : ∀ y d, ((n, c) :: acc).lookup y = some d → env.cells.lookup y = some d := fun y d e => by
    rw [List.lookup_cons] at e
    cases q : y == n with
    | true => rw [q] at e; cases e; rw [beq_iff_eq.mp q]; exact hc
    | false => rw [q] at e; exact ha y d e
   obtain ⟨cl, e, h1, h2, h3⟩ := closure_go r ((n, c) :: acc) (fun y hy => hn y (List.mem_cons_of_mem _ hy)) ha'
   have hh : ∀ y, (∃ d, acc.lookup y = some d) → ∃ d, ((n, c) :: acc).lookup y = some d := fun y ⟨d, hd⟩ => by
    rw [List.lookup_cons]
    cases q : y == n with
    | true => exact ⟨c, rfl⟩
    | false => exact ⟨d, hd⟩
   have hs : ∃ d, ((n, c) :: acc).lookup n = some d := ⟨c, by rw [List.lookup_cons, beq_self_eq_true]⟩
   refine ⟨cl, ?_, h1, fun y hy => h2 y (hh y hy), fun y hy hf => ?_⟩
   ·have hcell : cellOf env n = pure c := by simp only [cellOf, hc]
    simp only [beq_self_eq_true, if_true, hcell]
    simp only [pure_bind]
    exact e
   ·rcases List.mem_cons.mp hy with rfl | hy
    ·exact h2 _ hs
    ·exact h3 y hy hf
  ·obtain ⟨cl, e, h1, h2, h3⟩ := closure_go r acc (fun y hy => hn y (List.mem_cons_of_mem _ hy)) ha
   refine ⟨cl, ?_, h1, h2, fun y hy hf => ?_⟩
   ·have hb : (k == NameKind.free) = false := by simpa using hk
    simp only [hb, Bool.false_eq_true, if_false, pure_bind]
    exact e
   ·rcases List.mem_cons.mp hy with rfl | hy
    ·exact absurd hf hk
    ·exact h3 y hy hf
theorem closure_of {scope : Scope} {env : Env} (h : ∀ y ∈ scope.names, y.2 = .free → ∃ c, env.cells.lookup y.1 = some c) :
  ∃ cl, closureFor scope env = pure cl ∧ (∀ y c, cl.lookup y = some c → env.cells.lookup y = some c) ∧ ∀ y ∈ scope.names, y.2 = .free → ∃ c, cl.lookup y.1 = some c := by
 obtain ⟨cl, e, h1, _, h3⟩ := closure_go (env := env) scope.names [] h (fun y c e => by simp at e)
 refine ⟨cl, ?_, h1, h3⟩
 have q : closureFor scope env = ((forIn scope.names ([] : List (Str × Addr)) (fun x r => if (x.2 == NameKind.free) = true then (do let c ← cellOf env x.1; pure (ForInStep.yield ((x.1, c) :: r))) else pure (ForInStep.yield r)) : Sem (List (Str × Addr))) >>= fun cs => pure cs) := rfl
 rw [q, e]
 rfl
theorem mem_of_lookup' {names : List (Str × NameKind)} {x : Str} {k : NameKind} (h : names.lookup x = some k) : (x, k) ∈ names := PySem.mem_of_lookup h
theorem lookup_relabel {env : Env} {x : Str} : ∀ {names : List (Str × NameKind)} {k : NameKind},
  (names.map fun (n, k) => if (k == NameKind.free && env.scope.kind == .function && env.kindOf n == some .cell) then (n, NameKind.cell) else (n, k)).lookup x = some k →
  names.lookup x = some k ∨ (k = .cell ∧ names.lookup x = some .free)
 | [], _, h => by simp at h
 | (n, k0) :: r, k, h => by
  have ih := @lookup_relabel env x r k
  have h : List.lookup x ((if (k0 == NameKind.free && env.scope.kind == .function && env.kindOf n == some .cell) = true then (n, NameKind.cell) else (n, k0)) :: _) = some k := h
  rw [List.lookup_cons]
  by_cases hc : (k0 == NameKind.free && env.scope.kind == .function && env.kindOf n == some .cell) = true
  ·rw [if_pos hc, List.lookup_cons] at h
   have hk0 : k0 = .free := by
    simp only [Bool.and_eq_true, beq_iff_eq] at hc
    exact hc.1.1
   cases q : x == n with
   | true => rw [q] at h; cases h; right; exact ⟨rfl, by rw [hk0]⟩
   | false => rw [q] at h; exact ih h
  ·rw [if_neg hc, List.lookup_cons] at h
   cases q : x == n with
   | true => rw [q] at h; cases h; left; rfl
   | false => rw [q] at h; exact ih h
section
variable {X : Cx}
def cellB (scope : Scope) (x : Str) : Bool := scope.names.any fun y => y.1 == x && (match y.2 with | .cell => true | _ => false)
theorem cellB_mem {scope : Scope} {x : Str} (h : cellB scope x = true) : (x, NameKind.cell) ∈ scope.names := by
 unfold cellB at h
 obtain ⟨⟨n, k⟩, hm, hy⟩ := List.any_eq_true.mp h
 rw [Bool.and_eq_true] at hy
 obtain ⟨h1, h2⟩ := hy
 have e : n = x := by simpa using h1
 subst e
 cases k <;> first | exact hm | cases h2
theorem nd_lookup {x : Str} {k : NameKind} : ∀ {names : List (Str × NameKind)}, (names.map (·.1)).Nodup → (x, k) ∈ names → names.lookup x = some k
 | [], _, h => by cases h
 | (n, k0) :: r, nd, h => by
  rw [List.map_cons, List.nodup_cons] at nd
  rw [List.lookup_cons]
  rcases List.mem_cons.mp h with e | h
  ·cases e
   simp
  ·have : (x == n) = false := by
    refine Bool.eq_false_iff.mpr fun z => nd.1 ?_
    rw [← beq_iff_eq.mp z]
    exact List.mem_map.mpr ⟨_, h, rfl⟩
   rw [this]
   exact nd_lookup nd.2 h
theorem cells_app : ∀ (names : List (Str × NameKind)) (n : Nat) (acc : List (Str × Addr)), cellsFrom n names acc = cellsFrom n names [] ++ acc
 | [], n, acc => rfl
 | (x, k) :: r, n, acc => by
  unfold cellsFrom
  by_cases hk : (k == NameKind.cell) = true
  ·rw [if_pos hk, if_pos hk, cells_app r (n + 1) ((x, n) :: acc), cells_app r (n + 1) [(x, n)], List.append_assoc]
   rfl
  ·rw [if_neg hk, if_neg hk, cells_app r n acc]
theorem cells_mem {x : Str} {c : Addr} : ∀ (names : List (Str × NameKind)) (n : Nat) (acc : List (Str × Addr)), (x, c) ∈ cellsFrom n names acc → (x, NameKind.cell) ∈ names ∨ (x, c) ∈ acc
 | [], n, acc, h => .inr h
 | (y, k) :: r, n, acc, h => by
  unfold cellsFrom at h
  by_cases hk : (k == NameKind.cell) = true
  ·rw [if_pos hk] at h
   rcases cells_mem r (n + 1) _ h with z | z
   ·exact .inl (List.mem_cons_of_mem _ z)
   ·rcases List.mem_cons.mp z with e | z
    ·cases e
     have : k = .cell := by cases k <;> first | rfl | cases hk
     rw [this]
     exact .inl List.mem_cons_self
    ·exact .inr z
  ·rw [if_neg hk] at h
   rcases cells_mem r n _ h with z | z
   ·exact .inl (List.mem_cons_of_mem _ z)
   ·exact .inr z
theorem newEnvX {M : Model} {A : Around} {E : Value → Shared → Prop} {s : Shared} {scope : Scope} {globals : Addr} {cl : List (Str × Addr)} {qual : Str} {around : Env} {Q : Env → Shared → Prop}
  (hQ : Q (newEnv scope s.heap.objs.size globals (cellsFrom (s.heap.objs.size + 1) scope.names cl) qual none .none (some around) builtinsNs) { s with heap := pushCells (s.heap.push { cls := .type "dict", data := .dict #[] }) scope.names }) :
  wpAny M A (newFunctionEnv scope globals cl [] qual none .none (some around)) Q E s := by
 unfold newFunctionEnv
 refine wpAny_bind (wpAny_alloc ?_)
 refine wpAny_bind (wpAny_layCells _ (fun name kind cells => by cases hkc : kind == NameKind.cell <;> simp [hkc]) _ _ _ _ ?_)
 rw [show ({ s with heap := s.heap.push { cls := .type (if (some around).isSome = true then "dict" else "frame"), data := .dict #[] } } : Shared).heap.objs.size = s.heap.objs.size + 1 from Heap.size_push ..]
 exact wpAny_bind (by rw [List.forIn_nil]; exact wpAny_pure (wpAny_pure hQ))
def compCx (X : Cx) (scope : Scope) (cl : List (Str × Addr)) (N' : List Str) (C : Addr) (s : Shared) (H : Hp) (ex : List Addr) : Cx :=
 { X with N := N', s₀ := s, H₀ := H, env := compEnvC scope cl C X.env, outer := X.stack, ex := ex, fn := cellB scope, pn := [], xe := fun _ _ => False }
def CompK (own : List Str) (caps : List Nat) (g : TG) (tc : TT) (te : TE) (σ : St) (Q : VK) (J : It) (H1 : Hp) : Prop := ∀ D, H1 D = none →
 ∃ W : Nat → Nat → St → Hp → Prop, (∃ m, W 0 m (capS own caps σ) (upd H1 D (.lst []))) ∧ ∀ i m σ' H', W i m σ' H' →
  (J.stop i H' ∧ Q (.ref D) H') ∨ (J.go i H' ∧ ∃ N : St → Hp → Prop, (∀ σ2 H2, N σ2 H2 → ∃ m', m' < m ∧ W (i + 1) m' σ2 H2) ∧ ∀ x H2, J.yld i H' x H2 → g x σ' H2 fun σ3 H3 => tc σ3 H3 fun b H4 =>
   if b = true then te σ3 H4 fun v H5 => ∃ xs, H5 D = some (.lst xs) ∧ xs.length < sizeLine ∧ N σ3 (upd H5 D (.lst (xs ++ [v]))) else N σ3 H4)
def tComp (own : List Str) (caps : List Nat) (wi : TI) (g : TG) (tc : TT) (te : TE) : TE := fun σ H Q => wi σ H fun J H1 => CompK own caps g tc te σ Q J H1
def tTrue : TT := fun _ H Q => Q true H
def PIf (X : Cx) (ifs : List Expr) (t : TT) : Prop :=
 ∀ (pins : List (Addr × Obj)) (s : Shared) (σ : St) (H : Hp) (Q : Bool → Hp → Prop), Inv X pins σ H s → t σ H Q →
  wpAny (model X.prog X.w) X.A (forIn ifs true fun c r => if r = true then do let ok ← isTrue c X.env (eval c X.env); pure (ForInStep.yield ok) else pure (ForInStep.yield r)) (TP X pins σ Q) X.xe s
theorem pif_nil : PIf X [] tTrue := fun _ _ _ H _ I h => wpAny_tests_nil ⟨H, I, h⟩
theorem pif_one {c : Expr} {t : TT} (h : PT X c t) : PIf X [c] t := fun pins s σ H Q I q => wpAny_tests_one (h pins s σ H Q I q)
theorem codeAny_compLoop_gen {prog : Program} {w : World} {A : Around} {R : Result → Shared → Prop} {s : Shared} {elt target iter : Expr} {ifs : List Expr} {scope : Scope} {pos : Pos} {it acc : Value} {env : Env} (I : Nat → Shared → Prop)
  (turn : ∀ n s, I n s → wpAny (model prog w) A (pyNext it) (fun r s₁ => match r with
   | none => R (.ok .next) s₁
   | some v => wpAny (model prog w) A (letOwnedTupleGo target it v) (fun _ s₁' => wpAny (model prog w) A (assign target env v) (fun _ s₂ =>
     wpAny (model prog w) A (forIn ifs true fun c r => if r = true then do let ok ← isTrue c env (eval c env); pure (ForInStep.yield ok) else pure (ForInStep.yield r)) (fun ok s₃ =>
      if ok = true then wpAny (model prog w) A (eval elt env) (fun x s₄ =>
       wpAny (model prog w) A (call (.builtin "list.append") [acc, x]) (fun _ s₅ => ∃ m, m < n ∧ I m s₅) (fun _ _ => False) s₄) (fun _ _ => False) s₃
      else ∃ m, m < n ∧ I m s₃) (fun _ _ => False) s₂) (fun _ _ => False) s₁') (fun _ _ => False) s₁) (fun _ _ => False) s)
  (n : Nat) (h : I n s) :
  codeAny (model prog w) A (.compLoop (.ListComp elt [⟨target, iter, ifs, 0⟩] scope pos) 0 it acc env) R s := by
 refine codeAny_loop rfl I (fun n s hI => ?_) n h
 show wpAny _ A ((compTurn (.ListComp elt [⟨target, iter, ifs, 0⟩] scope pos) 0 it acc env).onRaise (fun x => do noteFrame x env; theTreesLotGoes x)) _ _ s
 refine wpAny_noted ?_
 rw [compTurn_list]
 refine wpAny_bind (wpAny_standAt (wpAny_bind (wpAny_mono (turn n s hI) (fun r s₁ h₁ => ?_) fun _ _ h' => h'.elim)))
 cases r with
 | none => exact wpAny_pure h₁
 | some v =>
  refine wpAny_bind (wpAny_mono h₁ (fun _ s₁' h₁' => ?_) fun _ _ h' => h'.elim)
  refine wpAny_bind (wpAny_mono h₁' (fun _ s₂ h₂ => wpAny_bind (wpAny_mono h₂ (fun ok s₃ h₃ => ?_) fun _ _ h' => h'.elim)) fun _ _ h' => h'.elim)
  cases ok with
  | false => exact wpAny_pure ⟨rfl, h₃⟩
  | true =>
   exact wpAny_bind (wpAny_bind (wpAny_mono h₃ (fun x s₄ h₄ => wpAny_bind (wpAny_mono h₄ (fun _ s₅ h₅ => wpAny_pure (wpAny_pure ⟨rfl, h₅⟩)) fun _ _ h' => h'.elim)) fun _ _ h' => h'.elim))
theorem comp_block {own : List Str} {caps : List Nat} {N' : List Str} {esc scope : Scope} {elt iter tg : Expr} {ifs : List Expr} {pos : Pos} {g : TG} {tc : TT} {te : TE} {cl : List (Str × Addr)}
  (hesc : X.env.scope = esc) (S : CompScope X.N esc own caps N' scope) (hc : X.calm = true)
  (hcl1 : ∀ y c, cl.lookup y = some c → X.env.cells.lookup y = some c) (hcl2 : ∀ y ∈ scope.names, y.2 = .free → ∃ c, cl.lookup y.1 = some c)
  (hg : ∀ cl C s H ex, PG (compCx X scope cl N' C s H ex) tg g) (ht : ∀ cl C s H ex, PIf (compCx X scope cl N' C s H ex) ifs tc) (he : ∀ cl C s H ex, PE (compCx X scope cl N' C s H ex) elt te)
  {pins : List (Addr × Obj)} {σ : St} {H2 : Hp} {s2 : Shared} {it : Addr} {fp : List Addr} {tn : Nat → Heap → Prop} {J : It} {Q : VK} {RR : Value → Addr → Result → Shared → Prop} {E : Value → Shared → Prop}
  (I2 : Inv X pins σ H2 s2) (T : Turn X.prog X.w X.K tg J fp it tn) (st2 : tn 0 s2.heap) (f2 : ∀ b ∈ fp, FpOk X pins H2 b)
  (h : CompK own caps g tc te σ Q J H2)
  (hRR : ∀ D C s' m H', s'.heap.Ns C m → C ≠ X.env.locals → (∀ x c, X.env.cells.lookup x = some c → c ≠ C) → X.s₀.heap.objs.size ≤ C → (∀ p ∈ X.pn ++ pins, p.1 ≠ C) → H' C = none → Q (.ref D) H' → (∀ h', Heap.SameBut C s'.heap h' → Inv X pins σ H' { s' with heap := h' }) → RR (.ref D) C (.ok .next) s') :
  wpAny (model X.prog X.w) X.A (newList []) (fun acc s₃ => wpAny (model X.prog X.w) X.A (newFunctionEnv scope X.env.globals cl [] X.env.qual none .none (some X.env)) (fun cenv s₄ =>
   codeAny (model X.prog X.w) X.A (.compStart (.ListComp elt [⟨tg, iter, ifs, 0⟩] scope pos) 0 (.ref it) acc { cenv with scope := relabel scope X.env }) (RR acc cenv.locals) s₄) E s₃) E s2 := by
 refine wpAny_newObj_type (newEnvX ?_)
 dsimp only
 have hD : H2 s2.heap.objs.size = none := I2.hok.fresh (Nat.le_refl _)
 obtain ⟨W, ⟨m0, w0⟩, turn⟩ := h _ hD
 generalize hH3 : s2.heap.push { cls := .type "list", dict := none, data := .seq ([] : List Value).toArray } = g3
 have hC : g3.objs.size = s2.heap.objs.size + 1 := by rw [← hH3, Heap.size_push]
 have old3 : ∀ b o, s2.heap.get? b = some o → g3.get? b = some o := fun b o e => hH3 ▸ Heap.get?_push_of_some _ e
 have I3 : Inv X pins σ (upd H2 s2.heap.objs.size (.lst [])) { s2 with heap := g3, toks := s2.toks } :=
  I2.laid (t' := s2.toks) old3 (Nat.le_refl _) ⟨Nat.zero_le _, [], 0, .nil, hH3 ▸ Heap.get?_push_size _ rfl⟩
 generalize hh1 : pushCells (g3.push { cls := .type "dict", data := .dict #[] }) scope.names = h₁
 have k1 : ∀ b o, g3.get? b = some o → h₁.get? b = some o := fun b o e => hh1 ▸ pushCells_keeps _ _ b o (Heap.get?_push_of_some _ e)
 have hns₁ : h₁.Ns g3.objs.size (fun _ => none) := hh1 ▸ (Heap.Ns.new g3 (.type "dict")).keeps (pushCells_keeps _ _)
 have okA : CellsOk h₁ (g3.objs.size + 1) (cellsFrom (g3.objs.size + 1) scope.names []) := by
  have q := cellsFrom_ok scope.names (g3.push { cls := .type "dict", data := .dict #[] }) (g3.objs.size + 1) [] ⟨fun _ _ hm => (nomatch hm), List.Pairwise.nil⟩ (by rw [Heap.size_push]; exact Nat.le_refl _)
  rw [Heap.size_push, hh1] at q
  exact q
 have hcl' : cellsFrom (g3.objs.size + 1) scope.names cl = cellsFrom (g3.objs.size + 1) scope.names [] ++ cl := cells_app _ _ _
 have hsomeA : ∀ y, scope.names.lookup y = some .cell → ∃ c, (cellsFrom (g3.objs.size + 1) scope.names []).lookup y = some c := fun y hy => Option.isSome_iff_exists.mp (PySem.W.cellsFrom_some scope.names (g3.objs.size + 1) [] (.inl hy))
 generalize hcA : cellsFrom (g3.objs.size + 1) scope.names [] = cA at okA hcl' hsomeA
 have memA : ∀ y c, cA.lookup y = some c → (y, NameKind.cell) ∈ scope.names := fun y c e => by
  have := PySem.mem_of_lookup e
  rw [← hcA] at this
  rcases cells_mem _ _ _ this with z | z
  ·exact z
  ·cases z
 generalize hcE : cellsFrom (g3.objs.size + 1) scope.names cl = cE at hcl'
 have lkE : ∀ y c, cE.lookup y = some c → cA.lookup y = some c ∨ (cA.lookup y = none ∧ cl.lookup y = some c) := fun y c e => by
  rw [hcl', List.lookup_append] at e
  cases q : cA.lookup y with
  | none => rw [q] at e; exact .inr ⟨rfl, by simpa using e⟩
  | some c' => rw [q] at e; exact .inl (by simpa using e)
 have lkF : ∀ y c, scope.names.lookup y = some .free → cl.lookup y = some c → cE.lookup y = some c := fun y c hy e => by
  rw [hcl', List.lookup_append]
  cases q : cA.lookup y with
  | none => simpa using e
  | some c' =>
   have := nd_lookup S.ndn (memA y c' q)
   rw [hy] at this
   cases this
 have fpn : ∀ b ∈ fp, upd H2 s2.heap.objs.size (.lst []) b = none := fun b hb => by
  obtain ⟨o, ho, _⟩ := T.obj _ _ st2 b hb
  rw [upd_ne (Nat.ne_of_lt (Heap.lt_size ho))]
  exact (f2 b hb).1
 have fplt : ∀ b ∈ fp, b < g3.objs.size := fun b hb => by
  obtain ⟨o, ho, _⟩ := T.obj _ _ st2 b hb
  rw [hC]; exact Nat.lt_succ_of_lt (Heap.lt_size ho)
 generalize hX' : compCx X scope cE N' g3.objs.size { s2 with heap := g3, toks := s2.toks } (upd H2 s2.heap.objs.size (.lst [])) fp = X'
 have hfs : X'.fs = frs X.stack := by rw [← hX']; rfl
 have kindL : ∀ y, X'.env.kindOf y = some .cell ∨ X'.env.kindOf y = some .free → ∃ c, cE.lookup y = some c := fun y hy => by
  have hy' : (relabel scope X.env).names.lookup y = some .cell ∨ (relabel scope X.env).names.lookup y = some .free := by rw [← hX'] at hy; exact hy
  have hf : scope.names.lookup y = some .free → ∃ c, cE.lookup y = some c := fun hf => by
   obtain ⟨c, hc'⟩ := hcl2 _ (mem_of_lookup' hf) rfl
   exact ⟨c, lkF y c hf hc'⟩
  have hcc : scope.names.lookup y = some .cell → ∃ c, cE.lookup y = some c := fun hf => by
   obtain ⟨c, hc'⟩ := hsomeA y hf
   exact ⟨c, by rw [hcl', List.lookup_append, hc']; rfl⟩
  rcases hy' with q | q
  ·rcases lookup_relabel q with z | z
   ·exact hcc z
   ·exact hf z.2
  ·rcases lookup_relabel q with z | z
   ·exact hf z
   ·exact absurd z.1 (by decide)
 have cellsX : X'.env.cells = cE := by rw [← hX']; rfl
 have locX : X'.env.locals = g3.objs.size := by rw [← hX']; rfl
 have cne : ∀ x c, cl.lookup x = some c → c ≠ g3.objs.size ∧ c < g3.objs.size := fun x c e => by
  obtain ⟨v, q⟩ := I3.cell x c (hcl1 x c e)
  exact ⟨Nat.ne_of_lt q.lt, q.lt⟩
 have aboveA : ∀ x c, cA.lookup x = some c → g3.objs.size + 1 ≤ c := fun x c e => (okA.empty x c (PySem.mem_of_lookup e)).2
 have injE : ∀ x y c, cE.lookup x = some c → cE.lookup y = some c → x = y := fun x y c a b => by
  rcases lkE x c a with a | ⟨_, a⟩ <;> rcases lkE y c b with b | ⟨_, b⟩
  ·exact name_of_addr okA.apart (PySem.mem_of_lookup a) (PySem.mem_of_lookup b)
  ·have h1 : g3.objs.size + 1 ≤ c := aboveA x c a
   exact absurd (Nat.lt_of_lt_of_le (cne y c b).2 (Nat.le_of_succ_le h1)) (Nat.lt_irrefl _)
  ·have h1 : g3.objs.size + 1 ≤ c := aboveA y c b
   exact absurd (Nat.lt_of_lt_of_le (cne x c a).2 (Nat.le_of_succ_le h1)) (Nat.lt_irrefl _)
  ·exact I3.ok.inj x y c (hcl1 x c a) (hcl1 y c b)
 have ok' : X'.Ok := by
  refine hX' ▸ ⟨I3.ok.mod, S.kind, I3.ok.glob, I3.ok.blt, Nat.le_refl _, injE, ?_, ?cab, I3.ok.hd, I3.ok.frames, .inl rfl, ?_, ?_, ?_, ?_, ?_, I3.stack, I3.stkFree⟩
  ·intro y hy
   exact kindL y (by rw [← hX']; exact hy)
  ·intro x c z e
   have hm := nd_lookup S.ndn (cellB_mem z)
   rcases lkE x c e with e | ⟨n, _⟩
   ·exact Nat.le_of_succ_le (aboveA x c e)
   ·obtain ⟨c', hc'⟩ := hsomeA x hm
    rw [n] at hc'
    cases hc'
  ·intro b hb
   refine ⟨Nat.ne_of_lt (fplt b hb), fun x c e => ?_⟩
   rcases lkE x c e with e | ⟨_, e⟩
   ·have h1 : g3.objs.size + 1 ≤ c := aboveA x c e
    exact fun z => absurd (Nat.lt_of_lt_of_le (fplt b hb) (Nat.le_of_succ_le h1)) (by rw [z]; exact Nat.lt_irrefl _)
   ·exact (f2 b hb).2.2.2.2.1 x c (hcl1 x c e)
  ·exact I3.bs
  ·exact Nat.le_trans I3.ok.bsz I3.sz
  ·intro b o e hb
   rcases (f2 b hb).2.2.2.1 with z | z
   ·exact I3.ok.noex b o e z
   ·exact absurd (Nat.lt_of_lt_of_le (Heap.lt_size e) (Nat.le_trans I3.ok.bsz z)) (Nat.lt_irrefl _)
  ·intro b hb z
   rcases List.mem_cons.mp (I3.stkSub b z) with e | e
   ·exact (f2 b hb).2.1 e
   ·exact (f2 b hb).2.2.1 e
 have I4 : Inv X' [] (capS own caps σ) (upd H2 s2.heap.objs.size (.lst [])) { s2 with heap := h₁, toks := s2.toks } := by
  refine ⟨ok', hX' ▸ rfl, I3.bare, ?_, ⟨_, by rw [locX]; exact hns₁, ?_⟩, ?_, ?_, ?_, ?_, ?_, ?_⟩
  ·rw [← hX']; exact Un.kept k1
  ·intro i x v hN hσ hV
   have hN' : N'[i]? = some x := by rw [← hX'] at hN; exact hN
   unfold capS at hσ
   by_cases hi : i < own.length
   ·rw [List.getElem?_append_left (by simpa using hi), List.getElem?_replicate] at hσ
    rw [if_pos hi] at hσ; cases hσ
   ·rw [List.getElem?_append_right (by simpa using hi), List.length_replicate, List.getElem?_map] at hσ
    rw [S.eqN, List.getElem?_append_right (by omega), List.getElem?_map] at hN'
    cases hj : caps[i - own.length]? with
    | none => rw [hj] at hσ; cases hσ
    | some j =>
     rw [hj] at hσ hN'
     have hx : X.N.getD j "" = x := Option.some.inj hN'
     obtain ⟨hjl, hjf⟩ := S.cap j (List.mem_of_getElem? hj)
     rw [hx] at hjf
     have hjN : X.N[j]? = some x := by
      rw [List.getElem?_eq_getElem hjl, ← hx, List.getD_eq_getElem?_getD, List.getElem?_eq_getElem hjl]; rfl
     have hv : σ[j]? = some (some v) := by
      have q : (σ[j]?).join = some v := Option.some.inj hσ
      cases q' : σ[j]? with
      | none => rw [q'] at q; cases q
      | some o => rw [q'] at q; rw [show o = some v from q]
     have hkX := S.fr (x, .free) (mem_of_lookup' hjf) rfl
     rw [← hesc] at hkX
     obtain ⟨m, hn, hl⟩ := I3.loc
     have visX : Vis X.env.scope x := hkX.elim (fun z => .inr (.inl z)) fun z => .inr (.inr z)
     obtain ⟨u, ru, look⟩ := hl j x v hjN hv visX
     refine ⟨u, ru, ?_⟩
     obtain ⟨c, hcc⟩ := hcl2 (x, .free) (mem_of_lookup' hjf) rfl
     rcases look with ⟨a, _⟩ | ⟨_, c', hc', hcell⟩
     ·rcases hkX with z | z
      ·rw [show X.env.kindOf x = X.env.scope.names.lookup x from rfl, z] at a; cases a
      ·rw [show X.env.kindOf x = X.env.scope.names.lookup x from rfl, z] at a; cases a
     ·have : c' = c := by rw [hcl1 _ _ hcc] at hc'; cases hc'; rfl
      subst this
      refine .inr ⟨?_, c', by rw [cellsX]; exact lkF _ _ hjf hcc, hcell.keeps k1⟩
      rcases hV with q | q | q
      ·have q' : (relabel scope X.env).names.lookup x = some .local := by rw [← hX'] at q; exact q
       rcases lookup_relabel q' with z | z
       ·rw [hjf] at z; cases z
       ·exact absurd z.1 (by decide)
      ·exact .inl q
      ·exact .inr q
  ·intro x c e
   rw [cellsX] at e
   rcases lkE x c e with e | ⟨_, e⟩
   ·exact ⟨_, (okA.empty x c (PySem.mem_of_lookup e)).1⟩
   ·obtain ⟨v, q⟩ := I3.cell x c (hcl1 x c e)
    exact ⟨v, q.keeps k1⟩
  ·rw [locX]; exact I3.hok.fresh (Nat.le_refl _)
  ·intro x c e
   rw [cellsX] at e
   rcases lkE x c e with e | ⟨_, e⟩
   ·exact I3.hok.fresh (Nat.le_of_succ_le (aboveA x c e))
   ·exact I3.freeC x c (hcl1 x c e)
  ·intro p hp
   have : p ∈ ([] : List (Addr × Obj)) := by rw [← hX'] at hp; exact hp
   cases this
  ·rw [← hX']; exact I3.hok.kept k1
  ·rw [← hX']
   show (capS own caps σ).length = N'.length
   unfold capS
   rw [S.eqN, List.length_append, List.length_append, List.length_replicate, List.length_map, List.length_map]
 have pX : X'.prog = X.prog := by rw [← hX']; rfl
 have wX : X'.w = X.w := by rw [← hX']; rfl
 have KX : X'.K = X.K := by rw [← hX']; rfl
 have AX : X'.A = X.A := by rw [← hX']; rfl
 have cX : X'.calm = true := by rw [← hX']; exact hc
 have xX : X'.xe = fun _ _ => False := by rw [← hX']; rfl
 have envX : X'.env = compEnvC scope cE g3.objs.size X.env := by rw [← hX']; rfl
 have exX : X'.ex = fp := by rw [← hX']; rfl
 have hg' : PG X' tg g := hX' ▸ hg _ _ _ _ _
 have ht' : PIf X' ifs tc := hX' ▸ ht _ _ _ _ _
 have he' : PE X' elt te := hX' ▸ he _ _ _ _ _
 have fpk : ∀ {H' : Hp}, (∀ b ∈ fp, H' b = none) → ∀ b ∈ fp, FpOk X' [] H' b := fun {H'} hn b hb => by
  refine ⟨hn b hb, ?_, ?_, ?_, ?_, ?_⟩
  ·rw [locX]; exact Nat.ne_of_lt (fplt b hb)
  ·rw [hfs]; intro z
   rcases List.mem_cons.mp (I3.stkSub b z) with e | e
   ·exact (f2 b hb).2.1 e
   ·exact (f2 b hb).2.2.1 e
  ·rw [exX]; exact .inl hb
  ·intro x c e
   rw [cellsX] at e
   rcases lkE x c e with e | ⟨_, e⟩
   ·have h1 : g3.objs.size + 1 ≤ c := aboveA x c e
    exact fun z => absurd (Nat.lt_of_lt_of_le (fplt b hb) (Nat.le_of_succ_le h1)) (by rw [z]; exact Nat.lt_irrefl _)
   ·exact (f2 b hb).2.2.2.2.1 x c (hcl1 x c e)
  ·intro p hp
   have : p ∈ ([] : List (Addr × Obj)) := by rw [← hX'] at hp; exact hp
   cases this
 have st1 : tn 0 h₁ := T.keep _ _ _ st2 fun b hb o e => k1 b o (old3 b o e)
 have back : ∀ {σ' : St} {H' : Hp} {s' : Shared} {pp : List (Addr × Obj)} {h' : Heap}, Inv X' pp σ' H' s' → Heap.SameBut g3.objs.size s'.heap h' → Inv X pins σ H' { s' with heap := h' } := fun {σ' H' s' pp h'} I' sb => by
  have u := I'.base
  rw [hfs, exX] at u
  have hs0 : X'.s₀.heap = g3 := by rw [← hX']; rfl
  have hH0 : X'.H₀ = upd H2 s2.heap.objs.size (.lst []) := by rw [← hX']; rfl
  rw [hs0, hH0] at u
  have ne : ∀ b o, g3.get? b = some o → b ≠ g3.objs.size := fun b o e => Nat.ne_of_lt (Heap.lt_size e)
  have hCn : H' g3.objs.size = none := by have := I'.free; rw [locX] at this; exact this
  refine I3.call' (s' := { s' with heap := h' }) (ch := fp) ?_ ⟨?_, ?_, ?_, ?_, ?_, ?_, ?_⟩ ?_ I'.bare ?_
  ·have := I'.os; rw [← hX'] at this; exact this
  ·intro b o e n hb hx; exact sb.extBut b o (ne b o e) (u.keep b o e n hb hx)
  ·intro b o e n hb hx
   obtain ⟨sl, q⟩ := u.slot b o e n hb hx
   exact ⟨sl, sb.extBut b _ (ne b o e) q⟩
  ·exact u.free
  ·intro b o e hx
   obtain ⟨o', q⟩ := u.there b o e hx
   exact ⟨o', sb.extBut b _ (ne b o e) q⟩
  ·exact u.tups
  ·exact u.frzs
  ·exact u.tbls
  ·have hok := I'.hok
   rw [pX, wX] at hok
   intro a o e
   refine (hok a o e).stay (fun b v hb r => sb.extBut b v ?_ r) (fun b r => r) fun b xs r => r
   rcases hb with rfl | hb
   ·intro z; rw [z, hCn] at e; cases e
   ·intro z; rw [z, hCn] at hb; cases hb
  ·intro b hb
   refine ⟨(f2 b hb).2.2.2.1, (f2 b hb).2.1, (f2 b hb).2.2.2.2.1, (f2 b hb).2.2.2.2.2⟩
 have loop : ∀ s3 : Shared, s3 = { s2 with heap := h₁, toks := s2.toks } →
   codeAny (model X.prog X.w) X.A (.compLoop (.ListComp elt [⟨tg, iter, ifs, 0⟩] scope pos) 0 (.ref it) (.ref s2.heap.objs.size) (compEnvC scope cE g3.objs.size X.env)) (RR (.ref s2.heap.objs.size) g3.objs.size) s3 := by
  rintro s3 rfl
  refine codeAny_compLoop_gen (fun n s' => ∃ i σ' H', Inv X' [] σ' H' s' ∧ tn i s'.heap ∧ (∀ b ∈ fp, H' b = none) ∧ W i n σ' H') ?_ m0 ⟨0, _, _, I4, st1, fpn, w0⟩
  rintro n s5 ⟨i, σ5, H5, I5, st5, fr5, w5⟩
  rcases turn i n σ5 H5 w5 with ⟨stop, qn⟩ | ⟨go, N, hN, step⟩
  ·have q := T.done X' pX wX KX cX i [] s5 σ5 H5 (fun _ _ => False) I5 (fpk fr5) st5 stop
   rw [AX] at q
   refine thn q fun r s6 ⟨hr, I6⟩ => ?_
   subst hr
   obtain ⟨m, hn, _⟩ := I6.loc
   rw [locX] at hn
   refine hRR _ _ s6 m H5 hn ?_ ?_ I3.sz ?_ ?_ qn fun h' sb => back I6 sb
   ·exact Nat.ne_of_gt I3.lt
   ·intro x c e
    obtain ⟨v, q⟩ := I3.cell x c e
    exact Nat.ne_of_lt q.lt
   ·intro pp hpp
    exact Nat.ne_of_lt (Heap.lt_size (I3.pin pp hpp).1)
   ·have := I6.free; rw [locX] at this; exact this
  ·have q := T.item X' pX wX KX cX i [] s5 σ5 H5 (fun _ _ => False) I5 (fpk fr5) st5 go
   rw [AX] at q
   refine thn q fun r s6 ⟨u, hr, h6⟩ => ?_
   subst hr
   refine thn h6 fun _ s7 ⟨x, H7, I7, r7, y7, st7, fr7⟩ => ?_
   have I7' := I7.pinned (fpk fr7) (T.obj _ _ st7)
   have q8 := hg' _ s7 σ5 H7 x u _ I7' r7 (step x H7 y7)
   rw [pX, wX, AX, envX, xX] at q8
   refine thn q8 fun _ s8 ⟨σ8, H8, I8, q8⟩ => ?_
   have q9 := ht' _ s8 σ8 H8 _ I8 q8
   rw [pX, wX, AX, envX, xX] at q9
   have again : ∀ {σ' : St} {H' : Hp} {s' : Shared}, Inv X' ([] ++ pinsAt fp s7.heap) σ' H' s' → N σ' H' → ∃ m, m < n ∧ ∃ i σ' H', Inv X' [] σ' H' s' ∧ tn i s'.heap ∧ (∀ b ∈ fp, H' b = none) ∧ W i m σ' H' := fun {σ' H' s'} I' n' => by
    obtain ⟨m', hm, w'⟩ := hN σ' H' n'
    refine ⟨m', hm, i + 1, σ', H', I'.unpinned, T.keep _ _ _ st7 fun b hb o e => (I'.pin (b, o) (List.mem_append_right _ (List.mem_append_right _ (mem_pinsAt hb e)))).1, fun b hb => ?_, w'⟩
    obtain ⟨o, e, d⟩ := T.obj _ _ st7 b hb
    exact (I'.pin (b, o) (List.mem_append_right _ (List.mem_append_right _ (mem_pinsAt hb e)))).2.1
   refine thn q9 fun ok s9 ⟨H9, I9, q9⟩ => ?_
   cases ok with
   | false =>
    simp only [Bool.false_eq_true, if_false] at q9 ⊢
    exact again I9 q9
   | true =>
    simp only [if_true] at q9 ⊢
    have q10 := he' _ s9 σ8 H9 _ I9 q9
    rw [pX, wX, AX, envX, xX] at q10
    refine thn q10 fun y s10 ⟨v, H10, I10, rv, xs, hxs, hz, q10⟩ => ?_
    have q11 := mt_append (X := X') _ s10 σ8 H10 (.ref s2.heap.objs.size) [v] (.ref s2.heap.objs.size) [y] (fun _ H' => N σ8 H') I10 rfl (.cons rv .nil) ⟨_, xs, v, rfl, rfl, hxs, hz, q10⟩
    rw [pX, wX, AX, xX] at q11
    exact thn q11 fun _ s11 ⟨_, H11, I11, _, q11⟩ => again I11 q11
 exact codeAny_compStart_list (loop _ rfl) (T.self _ 0 _ _ _ st1 (loop _ rfl))
theorem pe_comp {own : List Str} {caps : List Nat} {N' : List Str} {esc scope : Scope} {elt iter tg : Expr} {ifs : List Expr} {pos : Pos} {wi : TI} {g : TG} {tc : TT} {te : TE}
  (hesc : X.env.scope = esc) (S : CompScope X.N esc own caps N' scope) (hc : X.calm = true) (hi : PI X tg iter wi)
  (hg : ∀ cl C s H ex, PG (compCx X scope cl N' C s H ex) tg g) (ht : ∀ cl C s H ex, PIf (compCx X scope cl N' C s H ex) ifs tc) (he : ∀ cl C s H ex, PE (compCx X scope cl N' C s H ex) elt te)
  (hs : ∀ x, foldedSetIterable iter X.env x = pure x := by intro _; rfl) :
  PE X (.ListComp elt [⟨tg, iter, ifs, 0⟩] scope pos) (tComp own caps wi g tc te) := by
 intro pins s σ H Q I h
 obtain ⟨cl, hcl, hcl1, hcl2⟩ := closure_of (scope := scope) (env := X.env) fun y hy hf => by
  have := S.fr y hy hf
  rw [← hesc] at this
  exact I.ok.has y.1 this
 rw [eval_ListComp]
 refine wpAny_comprehension_free (use := none) rfl hs hcl S.kind S.uniq (thn (hi pins s σ H _ I h) fun v s1 h1 => thn h1 fun itv s2 h2 => ?_)
 obtain ⟨it, fp, tn, J, H2, e, I2, T, st2, f2, q⟩ := h2
 subst e
 refine comp_block (RR := fun acc C => compPost (model X.prog X.w) X.A X.xe none (EP X pins σ Q) acc C) hesc S hc hcl1 hcl2 hg ht he I2 T st2 f2 q ?_
 intro D C s' m H' hn _ _ _ _ _ q' hb
 exact ⟨m, hn, fun h' sb => ⟨.ref D, H', hb h' sb, rfl, q'⟩⟩
end
mutual
inductive RdD (K : PySem.W.Frag) (H : Hp) : V → PyData → Prop where
 | non : RdD K H .non .none
 | bl (b : Bool) : RdD K H (.bl b) (.bool b)
 | int (i : Int) : RdD K H (.int i) (.int i)
 | str (x : Str) : RdD K H (.str x) (.str x)
 | lst {a : Addr} {xs : List V} {ds : List PyData} (h : SqL K H a xs) (r : RdDs K H xs ds) : RdD K H (.ref a) (.list ds)
 | tup {a : Addr} {xs : List V} {ds : List PyData} (h : SqT K H a xs) (r : RdDs K H xs ds) : RdD K H (.ref a) (.tuple ds)
inductive RdDs (K : PySem.W.Frag) (H : Hp) : List V → List PyData → Prop where
 | nil : RdDs K H [] []
 | cons {x : V} {xs : List V} {d : PyData} {ds : List PyData} (h : RdD K H x d) (r : RdDs K H xs ds) : RdDs K H (x :: xs) (d :: ds)
end
section
variable {K : PySem.W.Frag} {H H' : Hp}
theorem Same.tup {a : Addr} {xs : List V} (e : Same H H') (h : SqT K H a xs) : SqT K H' a xs := by
 rcases h with (h | ⟨o, h⟩) | h
 ·exact .inl (.inl (e _ _ h))
 ·exact .inl (.inr ⟨o, e _ _ h⟩)
 ·exact .inr h
theorem Same.upd {p : Addr} {o : HO} (h : H p = none) : Same H (upd H p o) := fun b u e => by rw [upd_ne (ne_of_none e h)]; exact e
theorem Same.updr {p : Addr} {o : HO} (s : Same H H') (h : H p = none) : Same H (L2.upd H' p o) := fun b u e => by rw [upd_ne (ne_of_none e h)]; exact s b u e
mutual
theorem RdD.mono (s : Same H H') : ∀ {v : V} {d : PyData}, RdD K H v d → RdD K H' v d
 | _, _, .non => .non
 | _, _, .bl b => .bl b
 | _, _, .int i => .int i
 | _, _, .str x => .str x
 | _, _, .lst h r => .lst (s.seq h) (RdDs.mono s r)
 | _, _, .tup h r => .tup (s.tup h) (RdDs.mono s r)
theorem RdDs.mono (s : Same H H') : ∀ {v : List V} {d : List PyData}, RdDs K H v d → RdDs K H' v d
 | _, _, .nil => .nil
 | _, _, .cons h r => .cons (RdD.mono s h) (RdDs.mono s r)
end
theorem RdDs.ints : ∀ ns : List Int, RdDs K H (ns.map V.int) (ns.map PyData.int)
 | [] => .nil
 | n :: r => .cons (.int n) (RdDs.ints r)
end
section
variable {X : Cx} {pins : List (Addr × Obj)} {σ : St} {H : Hp} {s : Shared}
mutual
theorem Inv.reads (I : Inv X pins σ H s) : ∀ {v : V} {d : PyData} {u : Value}, RdD X.K H v d → RelV v u → ∃ as, Reads s.heap u d as
 | _, _, _, .non, r => by cases (show _ = Value.none from r); exact ⟨_, .none⟩
 | _, _, _, .bl b, r => by cases (show _ = Value.bool b from r); exact ⟨_, .bool b⟩
 | _, _, _, .int i, r => by obtain ⟨t, rfl⟩ := r; exact ⟨_, .int i t⟩
 | _, _, _, .str x, r => by obtain ⟨t, rfl⟩ := r; exact ⟨_, .str x t⟩
 | _, _, _, .lst (a := a) h q, r => by
  cases (show _ = Value.ref a from r)
  obtain ⟨its, rv, ⟨o, n, e, c, _, d⟩, _⟩ := I.list h
  obtain ⟨as, ra⟩ := Inv.readsAll I q rv
  exact ⟨_, .list e c d (by simpa using ra)⟩
 | _, _, _, .tup (a := a) h q, r => by
  cases (show _ = Value.ref a from r)
  obtain ⟨its, rv, ⟨o, e, c, n, d⟩, _⟩ := I.tuple h
  obtain ⟨as, ra⟩ := Inv.readsAll I q rv
  exact ⟨_, .tuple e c d (by simpa using ra)⟩
theorem Inv.readsAll (I : Inv X pins σ H s) : ∀ {v : List V} {d : List PyData} {u : List Value}, RdDs X.K H v d → Vals v u → ∃ as, ReadsAll s.heap u d as
 | _, _, _, .nil, r => by cases r; exact ⟨_, .nil⟩
 | _, _, _, .cons h q, r => by
  cases r with
  | cons r rr =>
   obtain ⟨a1, h1⟩ := Inv.reads I h r
   obtain ⟨a2, h2⟩ := Inv.readsAll I q rr
   exact ⟨_, .cons h1 h2⟩
end
end
structure FitD (d : PyData) : Prop where
 sh : d.showable = true
 nd : d.hasDict = false
 dp : d.depth ≤ 60
 sz : d.shown.length ≤ sizeLine
section
variable {X : Cx}
theorem op_eqD (hu : X.A.units + 64 < cLine) : OpR X (compareOp .Eq) (fun x y H Q => ∃ dx dy, RdD X.K H x dx ∧ RdD X.K H y dy ∧ SeqAt.shaped dx = true ∧ SeqAt.shaped dy = true ∧ Q (.bl (PyData.eqv dx dy)) H) := by
 intro pins s σ H x y v u Q I rx ry ⟨dx, dy, h1, h2, s1, s2, q⟩
 obtain ⟨as, r1⟩ := I.reads h1 rx
 obtain ⟨bs, r2⟩ := I.reads h2 ry
 exact SeqAt.compareEq_shaped r1 r2 s1 s2 hu ⟨.bl _, H, I, rfl, q⟩
theorem op_neD (hu : X.A.units + 64 < cLine) : OpR X (compareOp .NotEq) (fun x y H Q => ∃ dx dy, RdD X.K H x dx ∧ RdD X.K H y dy ∧ SeqAt.shaped dx = true ∧ SeqAt.shaped dy = true ∧ Q (.bl (!PyData.eqv dx dy)) H) := by
 intro pins s σ H x y v u Q I rx ry ⟨dx, dy, h1, h2, s1, s2, q⟩
 obtain ⟨as, r1⟩ := I.reads h1 rx
 obtain ⟨bs, r2⟩ := I.reads h2 ry
 exact SeqAt.compareNe_shaped r1 r2 s1 s2 hu ⟨.bl _, H, I, rfl, q⟩
theorem call_repr {k : Nat} (hr : Room k X.A) : CallR X (.builtin "repr") (fun xs H Q => ∃ x d, xs = [x] ∧ RdD X.K H x d ∧ FitD d ∧ Q (.str d.shown) H) := by
 intro pins s σ H xs us Q I r h
 obtain ⟨x, d, rfl, hd, F, q⟩ := h
 obtain ⟨u, rfl, ru⟩ := vals1 r
 obtain ⟨as, rd⟩ := I.reads hd ru
 have hun : X.A.units + 61 < cLine := by have := hr.units; omega
 have fin : ∀ (h' : Heap) (u : Tok) (tk : Nat), (∀ b o, s.heap.get? b = some o → h'.get? b = some o) → EP X pins σ Q (.str d.shown u) { s with heap := h', toks := tk } := fun h' u tk k => ⟨.str d.shown, H, I.kept k, ⟨u, rfl⟩, q⟩
 cases rd with
 | none => exact P.repr_of_none (fin s.heap _ _ fun _ _ e => e)
 | bool b => exact P.repr_of_bool (by have := fin s.heap s.toks (s.toks + 1) fun _ _ e => e; simpa only [PyData.shown] using this)
 | int i t => exact P.repr_of_int (by simpa only [PyData.showable, decide_eq_true_eq] using F.sh) (by have := fin s.heap s.toks (s.toks + 1) fun _ _ e => e; simpa only [PyData.shown] using this)
 | str y t => exact P.repr_of_str (by have := fin s.heap s.toks (s.toks + 1) fun _ _ e => e; simpa only [PyData.shown] using this) (by simpa only [PyData.shown] using F.sz)
 | list h1 h2 h3 h4 => exact repr_of_reads' (.list h1 h2 h3 h4) F.sh (fun z => by rw [F.nd] at z; cases z) hr.gd (by have := F.dp; omega) (fun _ _ e => e) (fun h' u tk k => fin h' u tk k) F.sz
 | tuple h1 h2 h3 h4 => exact repr_of_reads' (.tuple h1 h2 h3 h4) F.sh (fun z => by rw [F.nd] at z; cases z) hr.gd (by have := F.dp; omega) (fun _ _ e => e) (fun h' u tk k => fin h' u tk k) F.sz
 | dict h1 h2 h3 h4 h5 => cases hd
theorem call_isi : CallR X (.builtin "isinstance") (fun xs H Q => ∃ x c t b, xs = [x, c] ∧ TyOf X.K H x t ∧ (∀ cv, RelV c cv → PySem.W.kitOne X.K t cv = some b) ∧ Q (.bl b) H) := by
 intro pins s σ H xs us Q I r h
 obtain ⟨x, c, t, b, rfl, ty, e, q⟩ := h
 cases r with
 | cons r1 r =>
  cases r with
  | cons r2 r =>
   cases r
   exact isinst_ok I r1 ty (e _ r2) fun tk => ⟨.bl b, H, I.tok _, rfl, q⟩
theorem op_fdivB : OpR X (binaryOp .FloorDiv) (rI (fun _ j => 0 < j ∧ j.natAbs.log2 < 9000) fun i j => .int (i / j)) := opI fun i j _ _ _ _ _ hc q => by
 have h1 : (0 : Int) < j := hc.1
 exact floordiv_int (by omega) (by rw [Int.fdiv_eq_ediv_of_nonneg i (by omega)]; exact q) (.inl (PyProof.noPylong_of_log2 hc.2))
theorem truthB {prog : Program} {w : World} {A : Around} {its : List Value} {bs : List Bool} (r : Vals (bs.map V.bl) its) : TruthOf prog w A (fun i v => its.toArray[i]? = some v) (fun i => bs.getD i false) := by
 intro i v s Q E hv hq
 rw [List.getElem?_toArray] at hv
 have hi : i < its.length := (List.getElem?_eq_some_iff.mp hv).1
 have hl := r.length
 rw [List.length_map] at hl
 have hb : (bs.map V.bl)[i]? = some (.bl (bs.getD i false)) := by
  rw [List.getElem?_map, List.getD_eq_getElem?_getD, List.getElem?_eq_getElem (by omega)]; rfl
 obtain ⟨u, hu, ru⟩ := r.get hb
 rw [hv] at hu
 cases hu
 cases (show v = Value.bool _ from ru)
 exact wpAny_truthy_bool hq
theorem range_all {bs : List Bool} : ((List.range bs.length).all fun i => bs.getD i false) = bs.all id := by
 have : (List.range bs.length).map (fun i => bs.getD i false) = bs := by
  apply List.ext_getElem
  ·simp
  ·intro i h1 h2; simp at h1; simp [h1]
 conv => rhs; rw [← this, List.all_map]
 rfl
theorem range_any {bs : List Bool} : ((List.range bs.length).any fun i => bs.getD i false) = bs.any id := by
 have : (List.range bs.length).map (fun i => bs.getD i false) = bs := by
  apply List.ext_getElem
  ·simp
  ·intro i h1 h2; simp at h1; simp [h1]
 conv => rhs; rw [← this, List.any_map]
 rfl
theorem call_all (hc : X.calm = true) : CallR X (.builtin "all") (fun xs H Q => ∃ (a : Addr) (bs : List Bool), xs = [.ref a] ∧ SqL X.K H a (bs.map V.bl) ∧ Q (.bl (bs.all id)) H) := by
 intro pins s σ H xs us Q I r h
 obtain ⟨a, bs, rfl, hq, q⟩ := h
 obtain ⟨u, rfl, ru⟩ := vals1 r
 cases ru
 obtain ⟨its, rv, p, hz⟩ := I.list hq
 have hl := rv.length
 rw [List.length_map] at hl
 refine call_all_walk (wpAny_pyIter_list p.isList ?_)
 have hne : a ≠ s.heap.objs.size := by obtain ⟨o, n, e, _⟩ := p; exact Nat.ne_of_lt (Heap.lt_size e)
 refine ⟨s.heap.objs.size, _, _, _, _, _, (fun i => bs.getD i false), rfl, Walks.list (A := X.A.in1) (I.ok.hd hc) _ a hne its.toArray, ⟨⟨_, Heap.get?_push_size _ rfl, rfl, rfl⟩, p.isList.push _⟩, truthB rv, fun h' tk k => ?_⟩
 rw [List.size_toArray, ← hl, range_all]
 refine ⟨.bl _, H, I.kept (t' := tk) fun b o e => k b o ?_ (Heap.get?_push_of_some _ e), rfl, q⟩
 simpa using Nat.ne_of_lt (Heap.lt_size e)
theorem call_any (hc : X.calm = true) : CallR X (.builtin "any") (fun xs H Q => ∃ (a : Addr) (bs : List Bool), xs = [.ref a] ∧ SqL X.K H a (bs.map V.bl) ∧ Q (.bl (bs.any id)) H) := by
 intro pins s σ H xs us Q I r h
 obtain ⟨a, bs, rfl, hq, q⟩ := h
 obtain ⟨u, rfl, ru⟩ := vals1 r
 cases ru
 obtain ⟨its, rv, p, hz⟩ := I.list hq
 have hl := rv.length
 rw [List.length_map] at hl
 refine call_any_walk (wpAny_pyIter_list p.isList ?_)
 have hne : a ≠ s.heap.objs.size := by obtain ⟨o, n, e, _⟩ := p; exact Nat.ne_of_lt (Heap.lt_size e)
 refine ⟨s.heap.objs.size, _, _, _, _, _, (fun i => bs.getD i false), rfl, Walks.list (A := X.A.in1) (I.ok.hd hc) _ a hne its.toArray, ⟨⟨_, Heap.get?_push_size _ rfl, rfl, rfl⟩, p.isList.push _⟩, truthB rv, fun h' tk k => ?_⟩
 rw [List.size_toArray, ← hl, range_any]
 refine ⟨.bl _, H, I.kept (t' := tk) fun b o e => k b o ?_ (Heap.get?_push_of_some _ e), rfl, q⟩
 simpa using Nat.ne_of_lt (Heap.lt_size e)
end
section
variable {prog : Program} {w : World} {A : Around} {E : Value → Shared → Prop} {s : Shared}
end
section
variable {X : Cx}
theorem call_range1 : CallR X (.type "range") (fun xs H Q => ∃ j : Int, xs = [.int j] ∧ ∀ p, H p = none → Q (.ref p) (upd H p (.rng 0 j))) := by
 intro pins s σ H xs us Q I r h
 obtain ⟨j, rfl, q⟩ := h
 obtain ⟨u, rfl, ru⟩ := vals1 r
 obtain ⟨t, rfl⟩ := ru
 exact call_range_1 ⟨.ref s.heap.objs.size, _, I.laid (a := s.heap.objs.size) (o := .rng 0 j) (fun b o e => Heap.get?_push_of_some _ e) (Nat.le_refl _) ⟨_, _, _, Heap.get?_push_size _ rfl⟩, rfl, q _ (I.hok.fresh (Nat.le_refl _))⟩
theorem call_range2 : CallR X (.type "range") (fun xs H Q => ∃ i j : Int, xs = [.int i, .int j] ∧ ∀ p, H p = none → Q (.ref p) (upd H p (.rng i j))) := by
 intro pins s σ H xs us Q I r h
 obtain ⟨i, j, rfl, q⟩ := h
 cases r with
 | cons r1 r =>
  obtain ⟨u, rfl, ru⟩ := vals1 r
  obtain ⟨t, rfl⟩ := r1
  obtain ⟨t', rfl⟩ := ru
  exact call_range_2 ⟨.ref s.heap.objs.size, _, I.laid (a := s.heap.objs.size) (o := .rng i j) (fun b o e => Heap.get?_push_of_some _ e) (Nat.le_refl _) ⟨_, _, _, Heap.get?_push_size _ rfl⟩, rfl, q _ (I.hok.fresh (Nat.le_refl _))⟩
def rngI (lo : Int) (n : Nat) : List Int := (List.range n).map fun i : Nat => lo + (i : Int)
theorem rngI_get {lo : Int} {n i : Nat} (h : i < n) : (rngI lo n)[i]? = some (lo + i) := by unfold rngI; rw [List.getElem?_map, List.getElem?_range h]; rfl
theorem rngI_len {lo : Int} {n : Nat} : (rngI lo n).length = n := by unfold rngI; rw [List.length_map, List.length_range]
theorem vals_rngI {lo : Int} {n : Nat} {acc : Array Value} (h : ItemsOf (fun i v => ∃ t, v = .int (lo + i * 1) t) acc n) : Vals ((rngI lo n).map V.int) acc.toList := by
 have go : ∀ (l : List Value) (k : Nat), (∀ (j : Nat) v, l[j]? = some v → ∃ t, v = .int (lo + ((k + j : Nat) : Int)) t) → Vals (((List.range' k l.length).map fun i : Nat => lo + (i : Int)).map V.int) l := by
  intro l
  induction l with
  | nil => intro k _; exact .nil
  | cons x r ih =>
   intro k hk
   rw [List.length_cons, List.range'_succ]
   refine .cons ?_ (ih (k + 1) fun j v hv => ?_)
   ·obtain ⟨t, e⟩ := hk 0 x rfl
    exact ⟨t, e⟩
   ·obtain ⟨t, e⟩ := hk (j + 1) v hv
    exact ⟨t, by rw [e]; congr 2; omega⟩
 have e := go acc.toList 0 fun j v hv => by
  rw [Array.getElem?_toList] at hv
  obtain ⟨t, e⟩ := h.2 j v hv
  exact ⟨t, by rw [e]; congr 1 <;> omega⟩
 rw [Array.length_toList, h.1] at e
 unfold rngI
 rw [List.range_eq_range']
 exact e
theorem call_list_rng (hc : X.calm = true) : CallR X (.type "list") (fun xs H Q => ∃ (a : Addr) (lo hi : Int), xs = [.ref a] ∧ H a = some (.rng lo hi) ∧ (-(2 ^ 62) ≤ lo ∧ lo < 2 ^ 62 ∧ -(2 ^ 62) ≤ hi ∧ hi < 2 ^ 62) ∧ (hi - lo).toNat ≤ sizeLine ∧
  ∀ l, H l = none → Q (.ref l) (upd H l (.lst ((rngI lo (hi - lo).toNat).map V.int)))) := by
 intro pins s σ H xs us Q I r h
 obtain ⟨a, lo, hi, rfl, ha, ⟨b1, b2, b3, b4⟩, hz, q⟩ := h
 obtain ⟨u, rfl, ru⟩ := vals1 r
 cases ru
 obtain ⟨t, u, v, e⟩ := (show ∃ t u v, s.heap.get? a = some { cls := .type "range", data := .fields #[.int lo t, .int hi u, .int 1 v] } from I.hok a _ ha)
 refine call_list_range (n := (hi - lo).toNat) (I.ok.hd hc) e (small_one b1 b2 b3 b4) (by rw [rangeSize_one]; split <;> omega) hz fun h' tk acc c' hk hl hit => ?_
 exact ⟨.ref _, _, I.laid (a := s.heap.objs.size) (o := .lst ((rngI lo (hi - lo).toNat).map V.int)) (t' := tk) hk (Nat.le_refl _) ⟨by rw [List.length_map, rngI_len]; exact hz, acc.toList, c', vals_rngI hit, by simpa using hl⟩, rfl, q _ (I.hok.fresh (Nat.le_refl _))⟩
end
def nodupS : List Str → Bool
 | [] => true
 | x :: r => !(r.contains x) && nodupS r
theorem nodupS_ok : ∀ {l : List Str}, nodupS l = true → l.Nodup
 | [], _ => List.nodup_nil
 | x :: r, h => by
  unfold nodupS at h
  simp only [Bool.and_eq_true, Bool.not_eq_true'] at h
  refine List.nodup_cons.mpr ⟨fun z => ?_, nodupS_ok h.2⟩
  have := List.contains_iff_mem.mpr z
  rw [h.1] at this; cases this
def isLoc (sc : Scope) (x : Str) : Bool := match sc.names.lookup x with
 | some .local => true
 | some .cell => true
 | _ => false
theorem isLoc_ok {sc : Scope} {x : Str} (h : isLoc sc x = true) : Loc sc x := by
 unfold isLoc at h
 split at h
 ·rename_i e; exact .inl e
 ·rename_i e; exact .inr e
 ·cases h
def isPlainLoc (sc : Scope) (x : Str) : Bool := match sc.names.lookup x with
 | some .local => true
 | _ => false
theorem isPlainLoc_ok {sc : Scope} {x : Str} (h : isPlainLoc sc x = true) : sc.names.lookup x = some .local := by
 unfold isPlainLoc at h
 split at h
 ·rename_i e; exact e
 ·cases h
def isVis (sc : Scope) (x : Str) : Bool := match sc.names.lookup x with
 | some .local => true
 | some .cell => true
 | some .free => true
 | _ => false
theorem isVis_ok {sc : Scope} {x : Str} (h : isVis sc x = true) : Vis sc x := by
 unfold isVis at h
 split at h
 ·rename_i e; exact .inl e
 ·rename_i e; exact .inr (.inl e)
 ·rename_i e; exact .inr (.inr e)
 ·cases h
def isGlob (sc : Scope) (x : Str) : Bool := match sc.names.lookup x with
 | some .globalImplicit => true
 | _ => false
def noStar : Expr → Bool
 | .Starred _ _ => false
 | _ => true
theorem star_cons {e : Expr} {es : List Expr} {env : Env} (h : noStar e = true) : starEach (e :: es) env = (false, eval e env) :: starEach es env := by cases e <;> first | rfl | cases h
def noStars : List Expr → Bool
 | [] => true
 | e :: r => noStar e && noStars r
theorem noStars_any {env : Env} {pos : Pos} : ∀ {es : List Expr}, noStars es = true → (backTo pos (starEach es env)).any (·.1) = false
 | [], _ => rfl
 | e :: r, h => by
  unfold noStars at h
  rw [Bool.and_eq_true] at h
  rw [star_cons h.1]
  exact noStars_any h.2
section
variable {X : Cx}
theorem pc {e : Expr} {es : List Expr} {te : TE} {t : TA} (ha : PE X e te) (hr : PA X es t) (hs : noStar e = true := by rfl) : PA X (e :: es) (tCons te t) := pa_cons ha hr (star_cons hs)
theorem gl_of {x : Str} (h : isGlob X.env.scope x = true) : Gl X x := by
 unfold isGlob at h
 split at h
 ·rename_i e; exact e
 ·cases h
theorem vn (i : Nat) {x : Str} {pos : Pos} (hN : X.N[i]? = some x := by rfl) (hv : isVis X.env.scope x = true := by kernel_rfl) (hd : (x == ("__debug__" : Str)) = false := by kernel_rfl) (hcd : (x == ("__classdict__" : Str)) = false := by kernel_rfl) :
  PE X (.Name x pos) (tVar i) := pe_var hN (isVis_ok hv) hd hcd
theorem gn (i : Nat) {x : Str} {pos : Pos} (hi : X.N[i]? = some x := by rfl) (hN : nodupS X.N = true := by kernel_rfl) (hx : isPlainLoc X.env.scope x = true := by kernel_rfl) : PG X (.Name x pos) (gName i) :=
 pg_name (nodupS_ok hN) hi (.inl (isPlainLoc_ok hx)) (.inr (isPlainLoc_ok hx))
theorem gnf (i : Nat) {x : Str} {pos : Pos} (hf : X.fn x = true) (hi : X.N[i]? = some x := by rfl) (hN : nodupS X.N = true := by kernel_rfl) (hx : isLoc X.env.scope x = true := by kernel_rfl) : PG X (.Name x pos) (gName i) :=
 pg_name (nodupS_ok hN) hi (isLoc_ok hx) (.inl hf)
theorem sset (i : Nat) {x : Str} {e : Expr} {te : TE} {pos pos' : Pos} (hf : X.fn x = true) (he : PE X e te) (hi : X.N[i]? = some x := by rfl) (hN : nodupS X.N = true := by kernel_rfl) (hx : isLoc X.env.scope x = true := by kernel_rfl)
  (hs : swapsWith e (some (.Name x pos')) pos.line X.env = pure false := by rfl) : PS X (.Assign [.Name x pos'] e pos) (tAsg te (gName i)) :=
 ps_set (nodupS_ok hN) hi (isLoc_ok hx) he hs (.inl hf)
theorem cb {x : Str} {id : String} {r : List V → Hp → VK → Prop} {e : Expr} {es : List Expr} {t : TA} {p pos : Pos} (hc : CallR X (.builtin id) r) (hm : X.mg x = none) (ha : PA X (e :: es) t) (hg : isGlob X.env.scope x = true := by kernel_rfl) (hv : bootBuiltins x = some (.builtin id) := by kernel_rfl)
  (hn : x ≠ "__name__" := by decide) (hd : (x == ("__debug__" : Str)) = false := by kernel_rfl) (he : noStar e = true := by rfl) (hpl : noStars es = true := by rfl) :
  PE X (.Call (.Name x p) (e :: es) [] pos) (tCB r t) := pe_callB hc (gl_of hg) hm hv ha hn hd (star_cons he) (noStars_any hpl)
theorem ct {x : Str} {T : String} {r : List V → Hp → VK → Prop} {e : Expr} {es : List Expr} {t : TA} {p pos : Pos} (hc : CallR X (.type T) r) (hm : X.mg x = none) (ha : PA X (e :: es) t) (hg : isGlob X.env.scope x = true := by kernel_rfl) (hv : bootBuiltins x = some (.type T) := by kernel_rfl)
  (hn : x ≠ "__name__" := by decide) (hd : (x == ("__debug__" : Str)) = false := by kernel_rfl) (he : noStar e = true := by rfl) (hpl : noStars es = true := by rfl) :
  PE X (.Call (.Name x p) (e :: es) [] pos) (tCB r t) := pe_callTy hc (gl_of hg) hm hv ha hn hd (star_cons he) (noStars_any hpl)
theorem tyv (T : String) {x : Str} {pos : Pos} (hm : X.mg x = none) (hg : isGlob X.env.scope x = true := by kernel_rfl) (hv : bootBuiltins x = some (.type T) := by kernel_rfl) (hn : x ≠ "__name__" := by decide) (hd : (x == ("__debug__" : Str)) = false := by kernel_rfl) :
  PE X (.Name x pos) (tC (.ty T)) := pe_bltn (gl_of hg) hm hv rfl hn hd
theorem gint {x : Str} {i : Int} {t : Tok} {pos : Pos} (hm : X.mg x = some (.int i t)) (hg : isGlob X.env.scope x = true := by kernel_rfl) (hd : (x == ("__debug__" : Str)) = false := by kernel_rfl) : PE X (.Name x pos) (tC (.int i)) := pe_glob (gl_of hg) hm ⟨t, rfl⟩ hd
theorem rng1 {tg a : Expr} {ta : TA} {p pos : Pos} (hm : X.mg "range" = none) (ha : PA X [a] ta) (hg : isGlob X.env.scope "range" = true := by kernel_rfl) (hs : starEach [a] X.env = [(false, eval a X.env)] := by rfl) : PI X tg (.Call (.Name "range" p) [a] [] pos) (iRng1 ta) := pi_range1 (gl_of hg) hm ha hs
end
def Fn (P : Program) (w : World) (K : PySem.W.Frag) (mg : Str → Option Value) (base : Heap) (CX : CXT) (k : Nat) (x : Str) (ps : List Str) (sp : Sp) : Prop :=
 ∃ f fd, FnOk P w K mg base CX k f fd ps sp ∧ mg x = some (.ref f) ∧ PySem.W.keepIn K (.ref f) = true ∧ Binds K fd ps []
section
variable {X : Cx}
theorem fnc {CX : CXT} {k j : Nat} {x : Str} {ps : List Str} {sp : Sp} {E : XK} {e : Expr} {es : List Expr} {t : TA} {p pos : Pos} (G : Fn X.prog X.w X.K X.mg X.base CX k x ps sp) (hr : Room j X.A) (hx : Passes CX X E) (ha : PA X (e :: es) t) (hk : k ≤ j := by decide)
  (hg : isGlob X.env.scope x = true := by kernel_rfl) (hd : (x == ("__debug__" : Str)) = false := by kernel_rfl) (he : noStar e = true := by rfl) (hpl : noStars es = true := by rfl) :
  PE X (.Call (.Name x p) (e :: es) [] pos) (tCall sp [] E t) := by
 obtain ⟨f, fd, F, hm, kp, b⟩ := G
 exact pe_call F (hr.mono hk) (gl_of hg) hm kp b .nil hx ha hd (star_cons he) (noStars_any hpl)
end
theorem Fn.mk {P : Program} {w : World} {K : PySem.W.Frag} {mg : Str → Option Value} {base h : Heap} {CX : CXT} {k : Nat} {x : Str} {ps : List Str} {sp : Sp} {st : Stmt} {f : Addr} {oc : Value} {od an : Option Addr} {osl : Array (Option Value)} {kV doc pm cdv ct : Value} (X : K.In h) (G : h.Ns mainGlobals mg)
  (a : PySem.W.nsIn K mainGlobals x = some (some (.ref f))) (l : K.lookup f = some ⟨oc, od, .func (PySem.W.fnOf x x (defArgs st) (defBody st) (defScope st) .none kV doc pm an cdv ct), osl⟩) (c : PySem.W.codeIn K cdv x = true) (kp : PySem.W.keepIn K (.ref f) = true)
  (hok : ∀ fd, Fun K x x st f fd → FnOk P w K mg base CX k f fd ps sp)
  (hb : ∀ (kV doc pm : Value) (an : Option Addr) (cdv ct : Value) (us : List Value), us.length = ps.length → bindArgs (PySem.W.fnOf x x (defArgs st) (defBody st) (defScope st) .none kV doc pm an cdv ct) ⟨us, []⟩ = pure (ps.zip us)) :
  Fn P w K mg base CX k x ps sp :=
 ⟨f, _, hok _ (fun_mk l c kp), PySem.W.mg_of X G a, kp, (fun_mk l c kp).binds hb⟩
def isaB (n T : String) : Bool := n == T || (n == "bool" && T == "int")
def kinds7 : List String := ["NoneType", "bool", "int", "str", "list", "tuple", "dict"]
theorem kit7 {K : PySem.W.Frag} {n T : String} (hn : n ∈ kinds7) (hT : T ∈ ["int", "bool", "tuple", "list", "str"]) : PySem.W.kitOne K (.type n) (.type T) = some (isaB n T) := by
 simp only [kinds7, List.mem_cons, List.mem_singleton, List.not_mem_nil, or_false] at hn hT
 rcases hn with rfl | rfl | rfl | rfl | rfl | rfl | rfl <;> rcases hT with rfl | rfl | rfl | rfl | rfl <;> kernel_rfl
def Kd (K : PySem.W.Frag) (H : Hp) (x : V) (n : String) : Prop := TyOf K H x (.type n) ∧ n ∈ kinds7
theorem Kd.mono {K : PySem.W.Frag} {H H' : Hp} {x : V} {n : String} (s : Same H H') (h : Kd K H x n) : Kd K H' x n := by
 refine ⟨?_, h.2⟩
 obtain ⟨h, _⟩ := h
 generalize ht : Value.type n = t at h
 cases h with
 | non => exact .non
 | bl x => exact .bl x
 | int i => exact .int i
 | str x => exact .str x
 | flt x => exact .flt x
 | lst e => exact .lst (s _ _ e)
 | frz e => exact .frz (s _ _ e)
 | tup e => exact .tup (s _ _ e)
 | dK e => exact .dK (s _ _ e)
 | dT e => exact .dT (s _ _ e)
 | ins e a b c d f => exact .ins (s _ _ e) a b c d f
def rIsa (K : PySem.W.Frag) (T : String) : List V → Hp → VK → Prop := fun xs H Q => ∃ x n, xs = [x, .ty T] ∧ Kd K H x n ∧ Q (.bl (isaB n T)) H
theorem call_isa {X : Cx} {T : String} (hT : T ∈ ["int", "bool", "tuple", "list", "str"]) : CallR X (.builtin "isinstance") (rIsa X.K T) := by
 intro pins s σ H xs us Q I r h
 obtain ⟨x, n, rfl, ⟨ty, hn⟩, q⟩ := h
 refine call_isi pins s σ H _ us Q I r ⟨x, .ty T, .type n, isaB n T, rfl, ty, fun cv rc => ?_, q⟩
 cases (show cv = Value.type T from rc)
 exact kit7 hn hT
section
variable {X : Cx}
theorem ixT (K : PySem.W.Frag) (hK : X.K = K := by rfl) : IxR X (rIxT K) := hK ▸ ix_tup
theorem ixL (K : PySem.W.Frag) (hK : X.K = K := by rfl) : IxR X (rIxL K) := hK ▸ ix_list
theorem isaK (K : PySem.W.Frag) (T : String) (hT : T ∈ ["int", "bool", "tuple", "list", "str"] := by decide) (hK : X.K = K := by rfl) : CallR X (.builtin "isinstance") (rIsa K T) := hK ▸ call_isa hT
def rLen (K : PySem.W.Frag) : List V → Hp → VK → Prop := fun xs H Q => ∃ p ys, xs = [.ref p] ∧ (SqL K H p ys ∨ SqT K H p ys) ∧ Q (.int ys.length) H
theorem lenK (K : PySem.W.Frag) (hK : X.K = K := by rfl) : CallR X (.builtin "len") (rLen K) := hK ▸ call_len_seq
theorem itT (K : PySem.W.Frag) {tg l : Expr} {tl : TE} (hl : PE X l tl) (hK : X.K = K := by rfl) : PI X tg l (iTup K tl) := hK ▸ pi_tup hl
theorem itL (K : PySem.W.Frag) {tg l : Expr} {tl : TE} (hl : PE X l tl) (hK : X.K = K := by rfl) : PI X tg l (iList K tl) := hK ▸ pi_list hl
end
def compOk (N : List Str) (esc : Scope) (own : List Str) (caps : List Nat) (N' : List Str) (sc : Scope) : Bool :=
 (sc.kind == .function) && nodupS (sc.names.map (·.1)) && sc.names.all (fun y => y.2 != .local || isPlainLoc sc y.1) && nodupS N' && decide (N' = own ++ caps.map fun j => N.getD j "") &&
  caps.all (fun j => decide (j < N.length) && (match sc.names.lookup (N.getD j "") with | some .free => true | _ => false)) &&
  sc.names.all (fun y => y.2 != .free || (match esc.names.lookup y.1 with | some .cell => true | some .free => true | _ => false))
theorem CompScope.of {N : List Str} {esc : Scope} {own : List Str} {caps : List Nat} {N' : List Str} {sc : Scope} (h : compOk N esc own caps N' sc = true) : CompScope N esc own caps N' sc := by
 unfold compOk at h
 simp only [Bool.and_eq_true, List.all_eq_true, decide_eq_true_eq, beq_iff_eq, bne_iff_ne, ne_eq, Bool.or_eq_true] at h
 obtain ⟨⟨⟨⟨⟨⟨h1, h2⟩, h3⟩, h4⟩, h5⟩, h6⟩, h7⟩ := h
 refine ⟨h1, nodupS_ok h2, fun y hy e => ?_, nodupS_ok h4, h5, fun j hj => ⟨(h6 j hj).1, ?_⟩, fun y hy e => ?_⟩
 ·rcases h3 y hy with z | z
  ·exact absurd e z
  ·exact isPlainLoc_ok z
 ·have := (h6 j hj).2
  split at this
  ·rename_i z; exact z
  ·cases this
 ·rcases h7 y hy with z | z
  ·exact absurd e z
  ·split at z
   ·rename_i q; exact .inl q
   ·rename_i q; exact .inr q
   ·cases z
theorem cmp {X : Cx} (own : List Str) (caps : List Nat) (N' : List Str) {scope : Scope} {elt iter tg : Expr} {ifs : List Expr} {pos : Pos} {wi : TI} {g : TG} {tc : TT} {te : TE} (hc : X.calm = true) (hi : PI X tg iter wi)
  (hg : ∀ cl C s H ex, PG (compCx X scope cl N' C s H ex) tg g) (ht : ∀ cl C s H ex, PIf (compCx X scope cl N' C s H ex) ifs tc) (he : ∀ cl C s H ex, PE (compCx X scope cl N' C s H ex) elt te)
  (hS : compOk X.N X.env.scope own caps N' scope = true := by kernel_rfl) (hs : ∀ x, foldedSetIterable iter X.env x = pure x := by intro _; rfl) :
  PE X (.ListComp elt [⟨tg, iter, ifs, 0⟩] scope pos) (tComp own caps wi g tc te) := pe_comp rfl (.of hS) hc hi hg ht he hs
section
variable {X : Cx}
def rCatU : R2 := fun x y H Q => ∃ (a b : Addr) (xs ys : List V), x = .ref a ∧ y = .ref b ∧ H a = some (.tup xs) ∧ H b = some (.tup ys) ∧ xs.length + ys.length ≤ sizeLine ∧ ∀ p H', Same H H' → H' p = some (.tup (xs ++ ys)) → Q (.ref p) H'
theorem op_catU : OpR X (binaryOp .Add) rCatU := by
 intro pins s σ H x y v u Q I rx ry h
 obtain ⟨a, b, xs, ys, rfl, rfl, ha, hb, hz, q⟩ := h
 by_cases hx : xs = []
 ·subst hx
  cases rx; cases ry
  obtain ⟨its, r1, p1, _⟩ := I.tuple (SqT.of ha)
  obtain ⟨its2, r2, p2, _⟩ := I.tuple (SqT.of hb)
  cases r1
  obtain ⟨⟨cls, dd, data, sl⟩, ho, hc, n, hd⟩ := id p1
  obtain ⟨⟨cls2, dd2, data2, sl2⟩, ho2, hc2, n2, hd2⟩ := id p2
  simp only at hc hd hc2 hd2
  subst hc hd hc2 hd2
  exact concat_meets ⟨_, ho, rfl⟩ ⟨_, ho2, rfl⟩ noFill_tuple_add seq_tuple_add PySem.F.slot_tuple_add PySem.F.entry_tuple_add (PySem.F.args_tuple_add_2 _ _) (tuple_addW0 a b _ _ n n2 dd dd2 sl sl2 rfl) ⟨ho, ho2, ⟨.ref b, H, I, rfl, q b H (Same.refl H) hb⟩⟩
 ·refine op_catT pins s σ H _ _ v u Q I rx ry ⟨a, b, xs, ys, rfl, rfl, .of ha, .of hb, hx, hz, fun e => ?_, fun e p hp => q p _ (Same.upd hp) upd_same⟩
  subst e
  exact q a H (Same.refl H) (by rw [List.append_nil]; exact ha)
end
theorem tw_intro {c : TT} {tb : TS} {D : Ends} {σ : St} {H : Hp} (Pv : Nat → St → Hp → Prop) (Ex : St → Hp → Prop) (hend : ∀ σ H, Ex σ H → D.nx σ H) (h0 : ∃ m, Pv m σ H)
  (turn : (∀ σ H, Ex σ H → D.nx σ H) → ∀ m σ H, Pv m σ H → c σ H fun b H1 => if b = true then ∃ N : St → Hp → Prop, (∀ σ' H', N σ' H' → ∃ m', m' < m ∧ Pv m' σ' H') ∧ tb { D with nx := N, ct := N, bk := D.nx } σ H1 else D.nx σ H1) :
  tWhile c tb D σ H := ⟨Pv, h0, turn hend⟩
structure SeqIt (J : It) (H : Hp) (xs : List V) : Prop where
 go : ∀ (i : Nat) H', Same H H' → i < xs.length → J.go i H'
 yld : ∀ (i : Nat) H' x H2, Same H H' → i < xs.length → J.yld i H' x H2 → H2 = H' ∧ xs[i]? = some x
 stop : ∀ H', Same H H' → J.stop xs.length H'
theorem SeqIt.mono {J : It} {H H' : Hp} {xs : List V} (s : Same H H') (S : SeqIt J H xs) : SeqIt J H' xs :=
 ⟨fun i H2 e => S.go i H2 (s.trans e), fun i H2 x H3 e => S.yld i H2 x H3 (s.trans e), fun H2 e => S.stop H2 (s.trans e)⟩
theorem seq_tup {K : PySem.W.Frag} {H : Hp} {a : Addr} {xs : List V} (h : SqT K H a xs) : SeqIt (Itt K a) H xs :=
 ⟨fun i H' s hi => ⟨xs, _, s.tup h, List.getElem?_eq_getElem hi⟩, fun i H' x H2 s _ y => ⟨y.1, y.2 xs (s.tup h)⟩, fun H' s => ⟨xs, s.tup h, Nat.le_refl _⟩⟩
theorem seq_lst {K : PySem.W.Frag} {H : Hp} {a : Addr} {xs : List V} (h : SqL K H a xs) : SeqIt (Itl K a) H xs :=
 ⟨fun i H' s hi => ⟨xs, _, s.seq h, List.getElem?_eq_getElem hi⟩, fun i H' x H2 s _ y => ⟨y.1, y.2 xs (s.seq h)⟩, fun H' s => ⟨xs, s.seq h, Nat.le_refl _⟩⟩
theorem seq_rng {H : Hp} (lo : Int) (n : Nat) : SeqIt (Itr lo n) H ((rngI lo n).map V.int) := by
 have hl : ((rngI lo n).map V.int).length = n := by rw [List.length_map, rngI_len]
 refine ⟨fun i H' s hi => by rw [hl] at hi; exact hi, fun i H' x H2 s hi y => ?_, fun H' s => by show n ≤ _; rw [hl]; exact Nat.le_refl _⟩
 rw [hl] at hi
 exact ⟨y.1, by rw [y.2, List.getElem?_map, rngI_get hi]; rfl⟩
theorem comp_seq {J : It} {own : List Str} {caps : List Nat} {g : TG} {tc : TT} {te : TE} {σ : St} {H : Hp} {Q : VK} {xs : List V} (S : SeqIt J H xs) (cs : St) (hcs : capS own caps σ = none :: cs) (f : V → Option V) (hz : xs.length ≤ 1000000)
  (hs : ∀ (i : Nat) x v0 H', xs[i]? = some x → Same H H' → ∀ (R : St → V → Hp → Prop) (R' : St → Hp → Prop), (∀ v H5, f x = some v → Same H' H5 → R (some x :: cs) v H5) → (∀ H4, f x = none → Same H' H4 → R' (some x :: cs) H4) →
   g x (v0 :: cs) H' fun σ3 H3 => tc σ3 H3 fun b H4 => if b = true then te σ3 H4 (R σ3) else R' σ3 H4)
  (hd : ∀ D H', H D = none → Same H H' → H' D = some (.lst (xs.filterMap f)) → Q (.ref D) H') :
  CompK own caps g tc te σ Q J H := by
 intro D hD
 refine ⟨fun i m σ' H' => m = xs.length - i ∧ i ≤ xs.length ∧ (∃ v0, σ' = v0 :: cs) ∧ Same H H' ∧ H' D = some (.lst ((xs.take i).filterMap f)), ⟨_, rfl, Nat.zero_le _, ⟨none, hcs⟩, Same.upd hD, by rw [upd_same, List.take_zero]; rfl⟩, ?_⟩
 rintro i m σ' H' ⟨rfl, hi, ⟨v0, rfl⟩, s, hl⟩
 by_cases hlt : i < xs.length
 ·refine .inr ⟨S.go i H' s hlt, _, fun σ2 H2 z => z, fun x H2 y => ?_⟩
  obtain ⟨rfl, hx⟩ := S.yld i H' x H2 s hlt y
  have ht : xs.take (i + 1) = xs.take i ++ [x] := by rw [List.take_add_one, hx]; rfl
  have hlen : ((xs.take i).filterMap f).length ≤ i := Nat.le_trans (List.length_filterMap_le _ _) (by rw [List.length_take]; omega)
  refine hs i x v0 H2 hx s _ _ (fun v H5 e s5 => ?_) (fun H4 e s4 => ?_)
  ·refine ⟨_, s5 _ _ hl, ?_, xs.length - (i + 1), by omega, rfl, hlt, ⟨_, rfl⟩, (s.trans s5).updr hD, ?_⟩
   ·have : (16777216 : Nat) = sizeLine := by decide
    omega
   ·rw [upd_same, ht, List.filterMap_append, List.filterMap_cons, e]; rfl
  ·refine ⟨xs.length - (i + 1), by omega, rfl, hlt, ⟨_, rfl⟩, s.trans s4, ?_⟩
   rw [s4 _ _ hl, ht, List.filterMap_append, List.filterMap_cons, e]
   simp
 ·have e : i = xs.length := by omega
  subst e
  refine .inl ⟨S.stop H' s, hd D H' hD s ?_⟩
  rw [hl, List.take_length]
theorem for_seq {J : It} {g : TG} {tb : TS} {D : Ends} {σ : St} {H0 H : Hp} {xs : List V} (S : SeqIt J H0 xs) (Pv : Nat → St → Hp → Prop) (h0 : Pv 0 σ H) (hS : ∀ i σ H, Pv i σ H → Same H0 H)
  (hs : ∀ (i : Nat) x σ H, xs[i]? = some x → Pv i σ H → g x σ H fun σ2 H2 => tb { D with nx := Pv (i + 1), ct := Pv (i + 1), bk := D.nx } σ2 H2) (hd : ∀ σ H, Pv xs.length σ H → D.nx σ H) :
  ∃ W : Nat → Nat → St → Hp → Prop, (∃ m, W 0 m σ H) ∧ ∀ i m σ H, W i m σ H →
   (J.stop i H ∧ D.nx σ H) ∨ (J.go i H ∧ ∃ N : St → Hp → Prop, (∀ σ' H', N σ' H' → ∃ m', m' < m ∧ W (i + 1) m' σ' H') ∧ ∀ x H', J.yld i H x H' → g x σ H' fun σ2 H2 => tb { D with nx := N, ct := N, bk := D.nx } σ2 H2) := by
 refine ⟨fun i m σ H => m = xs.length - i ∧ i ≤ xs.length ∧ Pv i σ H, ⟨_, rfl, Nat.zero_le _, h0⟩, ?_⟩
 rintro i m σ H ⟨rfl, hi, p⟩
 have s := hS i σ H p
 by_cases hlt : i < xs.length
 ·refine .inr ⟨S.go i H s hlt, Pv (i + 1), fun σ' H' p' => ⟨xs.length - (i + 1), by omega, rfl, hlt, p'⟩, fun x H' y => ?_⟩
  obtain ⟨rfl, hx⟩ := S.yld i H x H' s hlt y
  exact hs i x σ _ hx p
 ·have e : i = xs.length := by omega
  subst e
  exact .inl ⟨S.stop H s, hd σ H p⟩
theorem tT {A B : Hp → Prop} {σ : St} {H : Hp} (h : A H) : tTrue σ H fun b H4 => if b = true then A H4 else B H4 := by
 show if true = true then A H else B H
 rw [if_pos rfl]; exact h
theorem fm_some {α β : Type} (g : α → β) : ∀ xs : List α, xs.filterMap (fun y => some (g y)) = xs.map g
 | [] => rfl
 | x :: r => by rw [List.filterMap_cons, List.map_cons, fm_some g r]
theorem fm_if {α β : Type} (p : α → Bool) (g : α → β) : ∀ xs : List α, xs.filterMap (fun y => if p y = true then some (g y) else none) = (xs.filter p).map g
 | [] => rfl
 | x :: r => by
  rw [List.filterMap_cons, List.filter_cons, fm_if p g r]
  by_cases h : p x = true
  ·rw [if_pos h, if_pos h]; rfl
  ·rw [if_neg h, if_neg h]
theorem iteP {c A B : Prop} [Decidable c] (hc : c) (h : A) : if c then A else B := by rw [if_pos hc]; exact h
theorem iteN {c A B : Prop} [Decidable c] (hc : ¬ c) (h : B) : if c then A else B := by rw [if_neg hc]; exact h
theorem comp_map {J : It} {own : List Str} {caps : List Nat} {te : TE} {σ : St} {H : Hp} {Q : VK} {xs : List V} (S : SeqIt J H xs) (cs : St) (hcs : capS own caps σ = none :: cs) (f : V → V) (hz : xs.length ≤ 1000000)
  (hs : ∀ (i : Nat) x H', xs[i]? = some x → Same H H' → ∀ R : VK, (∀ H5, Same H' H5 → R (f x) H5) → te (some x :: cs) H' R)
  (hd : ∀ D H', H D = none → Same H H' → H' D = some (.lst (xs.map f)) → Q (.ref D) H') : CompK own caps (gName 0) tTrue te σ Q J H := by
 refine comp_seq S cs hcs (fun x => some (f x)) hz (fun i x v0 H' hx s R R' h1 h2 => ?_) fun D H' hD s hl => hd D H' hD s (by rw [hl, fm_some])
 show tTrue (some x :: cs) H' fun b H4 => if b = true then te (some x :: cs) H4 (R (some x :: cs)) else R' (some x :: cs) H4
 exact tT (A := fun H4 => te (some x :: cs) H4 (R (some x :: cs))) (hs i x H' hx s _ fun H5 s5 => h1 _ H5 rfl s5)
theorem comp_filt {J : It} {own : List Str} {caps : List Nat} {tc : TT} {te : TE} {σ : St} {H : Hp} {Q : VK} {xs : List V} (S : SeqIt J H xs) (cs : St) (hcs : capS own caps σ = none :: cs) (p : V → Bool) (f : V → V) (hz : xs.length ≤ 1000000)
  (hs : ∀ (i : Nat) x H', xs[i]? = some x → Same H H' → ∀ (R : VK) (R' : Hp → Prop), (p x = true → ∀ H5, Same H' H5 → R (f x) H5) → (p x = false → ∀ H4, Same H' H4 → R' H4) → tc (some x :: cs) H' fun b H4 => if b = true then te (some x :: cs) H4 R else R' H4)
  (hd : ∀ D H', H D = none → Same H H' → H' D = some (.lst ((xs.filter p).map f)) → Q (.ref D) H') : CompK own caps (gName 0) tc te σ Q J H := by
 refine comp_seq S cs hcs (fun x => if p x = true then some (f x) else none) hz (fun i x v0 H' hx s R R' h1 h2 => ?_) fun D H' hD s hl => hd D H' hD s (by rw [hl, fm_if])
 exact hs i x H' hx s (R (some x :: cs)) (R' (some x :: cs)) (fun e H5 s5 => h1 _ H5 (by rw [if_pos e]) s5) fun e H4 s4 => h2 H4 (by rw [if_neg (by rw [e]; decide)]) s4
theorem showAll_ints : ∀ {ns : List Int}, (∀ n ∈ ns, n.natAbs < 2 ^ 200) → PyData.showableAll (ns.map PyData.int) = true ∧ PyData.hasDictAll (ns.map PyData.int) = false ∧ PyData.depthAll (ns.map PyData.int) = 0 ∧ PyData.leavesShortAll 300 (ns.map PyData.int) = true ∧ PyData.bulkAll (ns.map PyData.int) = ns.length ∧ PyData.canLayAll0 (ns.map PyData.int) = true
 | [], _ => ⟨rfl, rfl, rfl, rfl, rfl, rfl⟩
 | n :: r, h => by
  obtain ⟨h1, h2, h3, h4, h5, h6⟩ := showAll_ints (ns := r) fun m hm => h m (List.mem_cons_of_mem _ hm)
  have hn := h n List.mem_cons_self
  have hlog : n.natAbs.log2 < 1920 := by
   by_cases h0 : n.natAbs = 0
   ·rw [h0]; decide +kernel
   ·have := (Nat.log2_lt h0).mpr hn
    omega
  have hlen : (PyData.shown (.int n)).length ≤ 300 := by
   have h2 : n.natAbs.log2 < 200 := by
    by_cases h0 : n.natAbs = 0
    ·rw [h0]; decide +kernel
    ·exact (Nat.log2_lt h0).mpr hn
   have := int_text_length_le (k := 200) (by decide) h2
   simp only [PyData.shown]
   rw [PySem.ofString_length]; omega
  refine ⟨?_, ?_, ?_, ?_, ?_, ?_⟩
  ·simp only [List.map_cons, PyData.showableAll, PyData.showable, h1, Bool.and_true, decide_eq_true_eq]; exact hlog
  ·simp only [List.map_cons, PyData.hasDictAll, PyData.hasDict, h2, Bool.or_false]
  ·simp only [List.map_cons, PyData.depthAll, PyData.depth, h3]; rfl
  ·simp only [List.map_cons, PyData.leavesShortAll, PyData.leavesShort, h4, Bool.and_true, decide_eq_true_eq]; exact hlen
  ·simp only [List.map_cons, PyData.bulkAll, PyData.bulk, h5, List.length_cons]; omega
  ·simp only [List.map_cons, PyData.canLayAll0, PyData.canLay0, h6, Bool.and_true]
def DefIn (K : PySem.W.Frag) (x : Str) (st : Stmt) : Prop :=
 ∃ (f : Addr) (oc : Value) (od an : Option Addr) (osl : Array (Option Value)) (kV doc pm cdv ct : Value), PySem.W.nsIn K mainGlobals x = some (some (.ref f)) ∧
  K.lookup f = some ⟨oc, od, .func (PySem.W.fnOf x x (defArgs st) (defBody st) (defScope st) .none kV doc pm an cdv ct), osl⟩ ∧ PySem.W.codeIn K cdv x = true ∧ PySem.W.keepIn K (.ref f) = true
theorem DefIn.mk {K : PySem.W.Frag} {x : Str} {st : Stmt} {f : Addr} {oc : Value} {od an : Option Addr} {osl : Array (Option Value)} {kV doc pm cdv ct : Value} (a : PySem.W.nsIn K mainGlobals x = some (some (.ref f)))
  (l : K.lookup f = some ⟨oc, od, .func (PySem.W.fnOf x x (defArgs st) (defBody st) (defScope st) .none kV doc pm an cdv ct), osl⟩) (c : PySem.W.codeIn K cdv x = true) (k : PySem.W.keepIn K (.ref f) = true) : DefIn K x st :=
 ⟨f, oc, od, an, osl, kV, doc, pm, cdv, ct, a, l, c, k⟩
theorem DefIn.fn {P : Program} {w : World} {K : PySem.W.Frag} {mg : Str → Option Value} {base h : Heap} {CX : CXT} {k : Nat} {x : Str} {ps : List Str} {sp : Sp} {st : Stmt} (D : DefIn K x st) (X : K.In h) (G : h.Ns mainGlobals mg)
  (hok : ∀ f fd, Fun K x x st f fd → FnOk P w K mg base CX k f fd ps sp)
  (hb : ∀ (kV doc pm : Value) (an : Option Addr) (cdv ct : Value) (us : List Value), us.length = ps.length → bindArgs (PySem.W.fnOf x x (defArgs st) (defBody st) (defScope st) .none kV doc pm an cdv ct) ⟨us, []⟩ = pure (ps.zip us)) :
  Fn P w K mg base CX k x ps sp := by
 obtain ⟨f, oc, od, an, osl, kV, doc, pm, cdv, ct, a, l, c, kp⟩ := D
 exact Fn.mk X G a l c kp (fun fd F => hok f fd F) hb
theorem DefIn.law {P : Program} {w : World} {K : PySem.W.Frag} {mg : Str → Option Value} {h : Heap} {CX : CXT} {k : Nat} {x : Str} {p : Str} {sp : Sp} {st : Stmt} {fa : Addr} (D : DefIn K x st) (X : K.In h) (G : h.Ns mainGlobals mg) (hfa : mg x = some (.ref fa))
  (hok : ∀ (base : Heap) f fd, base.Ns mainGlobals mg → K.In base → Fun K x x st f fd → FnOk P w K mg base CX k f fd [p] sp)
  (hb : ∀ (kV doc pm : Value) (an : Option Addr) (cdv ct : Value) (s : Shared) (u : Value), BindsTo s (PySem.W.fnOf x x (defArgs st) (defBody st) (defScope st) .none kV doc pm an cdv ct) ⟨[u], []⟩ [(p, u)]) :
  ∃ fd : FuncData, (∀ (s : Shared) (u : Value), BindsTo s fd ⟨[u], []⟩ [(p, u)]) ∧ ∀ base : Heap, K.In base → base.Ns mainGlobals mg → FnOk P w K mg base CX k fa fd [p] sp := by
 obtain ⟨f, oc, od, an, osl, kV, doc, pm, cdv, ct, a, l, c, kp⟩ := D
 have e := hfa.symm.trans (PySem.W.mg_of X G a)
 cases e
 exact ⟨_, fun s u => hb kV doc pm an cdv ct s u, fun base kb nb => hok base _ _ nb kb (fun_mk l c kp)⟩
section
variable {X : Cx}
end
theorem gT {te : TE} {N : St → Hp → Prop} {Kt : St → V → Hp → Prop} {x : V} {v0 : Option V} {cs : St} {H : Hp} (h : te (some x :: cs) H (Kt (some x :: cs))) : gName 0 x (v0 :: cs) H fun σ3 H3 => tTrue σ3 H3 fun b H4 => if b = true then te σ3 H4 (Kt σ3) else N σ3 H4 := by
 show if true = true then te (some x :: cs) H (Kt (some x :: cs)) else N (some x :: cs) H
 rw [if_pos rfl]; exact h
theorem comp_gen {J : It} {own : List Str} {caps : List Nat} {te : TE} {σ : St} {H : Hp} {Q : VK} {xs : List V} (G : Addr → Nat → List V → Hp → Prop) (cs : St) (hcs : capS own caps σ = none :: cs) (hz : xs.length ≤ 1000000)
  (S : ∀ D i ys H', H D = none → H' D = some (.lst ys) → G D i ys H' → (i < xs.length → J.go i H' ∧ ∀ x H2, J.yld i H' x H2 → H2 = H' ∧ xs[i]? = some x) ∧ (i = xs.length → J.stop i H'))
  (h0 : ∀ D, H D = none → G D 0 [] (upd H D (.lst [])))
  (hs : ∀ D (i : Nat) x ys H', H D = none → H' D = some (.lst ys) → xs[i]? = some x → G D i ys H' → ∀ R : VK, (∀ v H5, H5 D = some (.lst ys) → G D (i + 1) (ys ++ [v]) (upd H5 D (.lst (ys ++ [v]))) → R v H5) → te (some x :: cs) H' R)
  (hd : ∀ D ys H', H D = none → H' D = some (.lst ys) → ys.length = xs.length → G D xs.length ys H' → Q (.ref D) H') : CompK own caps (gName 0) tTrue te σ Q J H := by
 intro D hD
 refine ⟨fun i m σ' H' => m = xs.length - i ∧ i ≤ xs.length ∧ (∃ v0, σ' = v0 :: cs) ∧ ∃ ys, H' D = some (.lst ys) ∧ ys.length = i ∧ G D i ys H', ⟨_, rfl, Nat.zero_le _, ⟨none, hcs⟩, [], upd_same, rfl, h0 D hD⟩, ?_⟩
 rintro i m σ' H' ⟨rfl, hi, ⟨v0, rfl⟩, ys, hl, hy, g⟩
 obtain ⟨S1, S2⟩ := S D i ys H' hD hl g
 by_cases hlt : i < xs.length
 ·refine .inr ⟨(S1 hlt).1, _, fun σ2 H2 z => z, fun x H2 y => ?_⟩
  obtain ⟨rfl, hx⟩ := (S1 hlt).2 x H2 y
  refine gT ?_
  refine hs D i x ys H2 hD hl hx g _ fun v H5 h5 g5 => ⟨ys, h5, ?_, xs.length - (i + 1), by omega, rfl, hlt, ⟨_, rfl⟩, ys ++ [v], upd_same, by rw [List.length_append]; simp [hy], g5⟩
  have : (16777216 : Nat) = sizeLine := by decide
  omega
 ·have e : i = xs.length := by omega
  exact .inl ⟨S2 e, hd D ys H' hD hl (by omega) (e ▸ g)⟩
section
variable {X : Cx}
def rInD (K : PySem.W.Frag) (neg : Bool) : R2 := fun x y H Q => ∃ p xs ds dx, y = .ref p ∧ (SqL K H p xs ∨ SqT K H p xs) ∧ RdDs K H xs ds ∧ RdD K H x dx ∧ PyData.canLayAll0 ds = true ∧ dx.canLay0 = true ∧ dx.depth ≤ 60 ∧ Q (.bl (if neg then !(ds.any fun y => y.eqv dx) else ds.any fun y => y.eqv dx)) H
theorem op_notInD (hu : X.A.units + 64 < cLine) : OpR X (compareOp .NotIn) (rInD X.K true) := by
 intro pins s σ H x y v u Q I rx ry h
 obtain ⟨p, xs, ds, dx, rfl, hq, hs, hd, c1, c2, dp, q⟩ := h
 cases ry
 obtain ⟨bs, r1⟩ := I.reads hd rx
 rcases hq with hq | hq
 ·obtain ⟨its, r, pl, hz⟩ := I.list hq
  obtain ⟨as, ra⟩ := I.readsAll hs r
  refine SeqAt.notIn_listAt _ pl.isList (SeqAt.items_eqAt (by simpa using ra) r1 c1 c2 (by omega)) ⟨.bl _, H, I, rfl, ?_⟩
  rw [SeqAt.any_by_data (by simpa using ra) c1]
  exact q
 ·obtain ⟨its, r, pl, hz⟩ := I.tuple hq
  obtain ⟨as, ra⟩ := I.readsAll hs r
  refine SeqAt.notIn_tupleAt _ pl (SeqAt.items_eqAt (by simpa using ra) r1 c1 c2 (by omega)) ⟨.bl _, H, I, rfl, ?_⟩
  rw [SeqAt.any_by_data (by simpa using ra) c1]
  exact q
theorem ninDK (K : PySem.W.Frag) (hu : X.A.units + 64 < cLine) (hK : X.K = K := by rfl) : OpR X (compareOp .NotIn) (rInD K true) := hK ▸ op_notInD hu
end
theorem canLay_ints : ∀ ns : List Int, PyData.canLayAll0 (ns.map PyData.int) = true
 | [] => rfl
 | n :: ns => by
  show (PyData.canLay0 (.int n) && PyData.canLayAll0 (ns.map PyData.int)) = true
  rw [canLay_ints ns]
  rfl
theorem canLay_tup (ns : List Int) : PyData.canLay0 (.tuple (ns.map PyData.int)) = true := canLay_ints ns
theorem canLay_tups : ∀ yss : List (List Int), PyData.canLayAll0 (yss.map fun ns => PyData.tuple (ns.map PyData.int)) = true
 | [] => rfl
 | y :: yss => by
  show (PyData.canLay0 (.tuple (y.map PyData.int)) && PyData.canLayAll0 (yss.map fun ns => PyData.tuple (ns.map PyData.int))) = true
  rw [canLay_tups yss, canLay_tup]
  rfl
theorem depth_ints : ∀ ns : List Int, PyData.depthAll (ns.map PyData.int) ≤ 1
 | [] => by decide
 | n :: ns => by
  have := depth_ints ns
  show max (PyData.depth (.int n)) (PyData.depthAll (ns.map PyData.int)) ≤ 1
  have e : PyData.depth (.int n) ≤ 1 := by simp [PyData.depth]
  omega
end L2
namespace L2
open PySem
theorem depth_tup (ns : List Int) : PyData.depth (.tuple (ns.map PyData.int)) ≤ 60 := by
 have := depth_ints ns
 show PyData.depthAll (ns.map PyData.int) + 1 ≤ 60
 omega
end L2
namespace L2
open PySem PySem.Spec PyProof.Rows
section
variable {X : Cx} {pos : Pos}
theorem par2 (i j : Nat) {x y : Str} {a b : Expr} {ta : TA} {px py pt : Pos} {kt k2 pt2} (hc : X.calm = true) (ha : PA X [a, b] ta) (hN : nodupS X.N = true := by kernel_rfl) (hi : X.N[i]? = some x := by rfl) (hj : X.N[j]? = some y := by rfl) (hij : i ≠ j := by decide)
  (hx : X.env.scope.names.lookup x = some .local := by rfl) (hy : X.env.scope.names.lookup y = some .local := by rfl)
  (hw : swappedStores [.Tuple [.Name x px, .Name y py] kt pt] (.Tuple [a, b] k2 pt2) X.env = pure (some [x, y]) := by rfl)
  (hs : swapsWithSole [.Tuple [.Name x px, .Name y py] kt pt] (.Tuple [a, b] k2 pt2) pos.line X.env = pure false := by rfl) :
  PS X (.Assign [.Tuple [.Name x px, .Name y py] kt pt] (.Tuple [a, b] k2 pt2) pos) (tPar i j ta) := ps_par hc (nodupS_ok hN) hi hj hij hx hy ha hw hs
end
end L2
namespace PyZ
open PySem
end PyZ
namespace L2
open PySem PySem.Spec PyProof.Rows
section
variable {X : Cx}
def rLIdx (K : PySem.W.Frag) : V → List V → Hp → VK → Prop := fun x vs H Q => ∃ p xs ds dy y, ∃ j : Nat, x = .ref p ∧ vs = [y] ∧ H p = some (.lst xs) ∧ RdDs K H xs ds ∧ RdD K H y dy ∧ PyData.canLayAll0 ds = true ∧ dy.canLay0 = true ∧ dy.depth ≤ 60 ∧ j < ds.length ∧ (∀ d, ds[j]? = some d → d.eqv dy = true) ∧ (∀ m d, m < j → ds[m]? = some d → d.eqv dy = false) ∧ Q (.int j) H
theorem mt_lindex (hu : X.A.units + 64 < cLine) : MtR X "list.index" (rLIdx X.K) := by
 intro pins s σ H x vs v us Q I rx rv h
 obtain ⟨p, xs, ds, dy, y, j, rfl, rfl, hp, hs, hd, c1, c2, dp, hj, h1, h2, q⟩ := h
 cases rx
 obtain ⟨u, rfl, ru⟩ := rv.one
 obtain ⟨z, its, n, r, hl, e⟩ := I.lstM hp
 obtain ⟨bs, r1⟩ := I.reads hd ru
 obtain ⟨as, ra⟩ := I.readsAll hs r
 have hm := SeqAt.readsAll_map ds its as c1 ra
 have hlen : its.length = ds.length := by rw [← hm, List.length_map]
 have at' : ∀ (m : Nat) (hh : m < its.toArray.size), ds[m]? = some (SeqAt.readOf s.heap its.toArray[m]) := fun m hh => by
  have hh' : m < its.length := by simpa using hh
  rw [← hm, List.getElem?_map, List.getElem?_eq_getElem hh']
  simp
 have hjs : j < its.toArray.size := by rw [List.size_toArray, hlen]; exact hj
 have sz := line63
 refine call_meets F.slot_list_index ⟨_, e, rfl⟩ F.entry_list_index (F.args_list_index_2 _ _) (SeqAt.list_indexAt p its.toArray n none #[] u (fun y => (SeqAt.readOf s.heap y).eqv dy) j hjs (by omega) (h1 _ (at' j hjs)) fun m hh hmj => h2 m _ hmj (at' m hh)) ⟨e, SeqAt.items_eqAt (by simpa using ra) r1 c1 c2 (by omega), ?_⟩
 exact ⟨.int j, H, I.kept (t' := s.toks + 1) fun b o e => e, ⟨_, rfl⟩, q⟩
theorem lixK (K : PySem.W.Frag) (hu : X.A.units + 64 < cLine) (hK : X.K = K := by rfl) : MtR X "list.index" (rLIdx K) := hK ▸ mt_lindex hu
end
end L2
namespace PyZ
open PySem PyProof PyProof.Rows
def runB (n : Nat) (cmp : Nat → Nat → Bool) {α : Type} : W.KasT α → Option α
 | .ret a => some a
 | .ask i j k => if i < n ∧ j < n then runB n cmp (k (cmp i j)) else none
theorem kasWp_run {α : Type} {n : Nat} {cmp : Nat → Nat → Bool} {ask : Nat → Nat → (Bool → Shared → Prop) → Shared → Prop} {s : Shared} (h : ∀ i j C, i < n → j < n → C (cmp i j) s → ask i j C s) : ∀ (t : W.KasT α) (a : α) (Q : α → Shared → Prop), runB n cmp t = some a → Q a s → W.KasT.kasWp ask t Q s
 | .ret b, a, Q, e, q => by
  cases (Option.some.inj e)
  exact q
 | .ask i j k, a, Q, e, q => by
  rw [runB] at e
  by_cases hh : i < n ∧ j < n
  ·rw [if_pos hh] at e
   exact h i j _ hh.1 hh.2 (kasWp_run h (k (cmp i j)) a Q e q)
  ·rw [if_neg hh] at e
   cases e
def lexB (fin : Bool) : List Int → List Int → Bool
 | [], _ => fin
 | _ :: _, [] => fin
 | x :: xs, y :: ys => if x = y then lexB fin xs ys else decide (x < y)
def ltB (xs ys : List Int) : Bool := lexB (decide (xs.length < ys.length)) xs ys
section
variable {prog : Program} {w : World} {A : Around} {E : Value → Shared → Prop} {s : Shared}
theorem katLex {fin : Bool} {Q : Bool → Shared → Prop} : ∀ (us vs : List Value) (xs ys : List Int) (i : Nat), IntsAre us xs → IntsAre vs ys → Q (lexB fin xs ys) s → W.KatLex prog w A true fin Q (us.zip vs) i s
 | [], vs, xs, ys, i, h1, h2, q => by
  cases h1
  exact W.kat_nil q
 | _ :: _, [], xs, ys, i, h1, h2, q => by
  cases h2
  cases xs with
  | nil => exact W.kat_nil q
  | cons x xs => exact W.kat_nil q
 | u :: us, v :: vs, xs, ys, i, h1, h2, q => by
  cases h1 with
  | cons x t1 r1 =>
   cases h2 with
   | cons y t2 r2 =>
    rename_i xs ys
    rw [List.zip_cons_cons]
    refine W.kat_cons ?_
    refine SeqAt.EqAt.int_int _ _ _ _ prog w _ _ ?_
    rw [lexB] at q
    by_cases e : x = y
    ·rw [if_pos e] at q
     rw [show (x == y) = true from beq_iff_eq.mpr e]
     exact W.kat_yes (katLex us vs xs ys (i + 1) r1 r2 q)
    ·rw [if_neg e] at q
     rw [show (x == y) = false from beq_eq_false_iff_ne.mpr e]
     refine W.kat_no ?_
     by_cases hi : i = 0
     ·subst hi
      exact oneLt_int q
     ·have : (true && i == 0) = false := by simp [hi]
      rw [this]
      exact W.kat_one _ _ (lt_int q)
def cutH (h : Heap) (L : Addr) : Heap := { h with objs := h.objs.extract 0 L }
theorem cutH_get {h : Heap} {L b : Addr} (hb : b < L) : (cutH h L).get? b = h.get? b := by
 unfold cutH Heap.get?
 have : (h.objs.extract 0 L)[b]? = h.objs[b]? := by
  rw [Array.getElem?_extract]
  by_cases h1 : b < h.objs.size
  ·simp only [Nat.sub_zero, Nat.zero_add]
   rw [if_pos (show b < min L h.objs.size from Nat.lt_min.mpr ⟨hb, h1⟩)]
  ·rw [Array.getElem?_eq_none (Nat.le_of_not_lt h1)]
   split <;> simp_all
 simp only [this]
theorem cutH_none {h : Heap} {L b : Addr} (hb : L ≤ b) : (cutH h L).get? b = none := by
 unfold cutH Heap.get?
 have : (h.objs.extract 0 L)[b]? = none := by
  apply Array.getElem?_eq_none
  rw [Array.size_extract]
  exact Nat.le_trans (by rw [Nat.sub_zero]; exact Nat.min_le_left ..) hb
 simp only [this]
def behind (h : Heap) (L : Addr) : List (Addr × Obj) := (List.range h.objs.size).filterMap fun a => if L < a then (h.get? a).map fun o => (a, o) else none
theorem mem_behind {h : Heap} {L : Addr} {p : Addr × Obj} : p ∈ behind h L ↔ L < p.1 ∧ h.get? p.1 = some p.2 := by
 unfold behind
 rw [List.mem_filterMap]
 constructor
 ·rintro ⟨a, ha, e⟩
  by_cases hl : L < a
  ·rw [if_pos hl] at e
   cases q : h.get? a with
   | none => rw [q] at e; cases e
   | some o =>
    rw [q] at e
    cases (Option.some.inj e)
    exact ⟨hl, q⟩
  ·rw [if_neg hl] at e
   cases e
 ·rintro ⟨hl, e⟩
  refine ⟨p.1, List.mem_range.mpr (Heap.lt_size e), ?_⟩
  rw [if_pos hl, e]
  rfl
theorem katTups {h : Heap} : ∀ (as : List Addr) (yss : List (List Int)), as.length = yss.length → (∀ (i : Nat) a, as[i]? = some a → ∃ (us : List Value) (ys : List Int), yss[i]? = some ys ∧ h.IsTuple a us.toArray ∧ IntsAre us ys ∧ ys ≠ []) →
  ∃ fs : List Value, W.KatTups h (as.map Value.ref) fs ∧ fs.length = as.length ∧ ∀ v ∈ fs, ∃ n t, v = Value.int n t
 | [], [], _, _ => ⟨[], W.KatTups.nil, rfl, fun v hv => by cases hv⟩
 | [], _ :: _, h, _ => by cases h
 | _ :: _, [], h, _ => by cases h
 | a :: as, ys :: yss, hl, g => by
  obtain ⟨us, ys', e, ⟨o, e1, c, n, d⟩, ia, ne⟩ := g 0 a rfl
  cases e
  obtain ⟨fs, k, l, f⟩ := katTups as yss (Nat.succ.inj hl) fun i a' hi => g (i + 1) a' hi
  cases ia with
  | nil => exact absurd rfl ne
  | cons z t r =>
   refine ⟨Value.int z t :: fs, W.KatTups.cons e1 c d (by simp) k, by rw [List.length_cons, List.length_cons, l], fun v hv => ?_⟩
   rcases List.mem_cons.mp hv with rfl | hv
   ·exact ⟨_, _, rfl⟩
   ·exact f v hv
theorem sorted_tups {l L : Addr} {m : Str → Option Value} {as : List Addr} {yss : List (List Int)} {p : Array Nat} {Q : Value → Shared → Prop} (hNs : s.heap.Ns L m) (hl : s.heap.IsList l (as.map Value.ref).toArray) (n2 : 2 ≤ as.length) (n64 : as.length < 64) (hy : as.length = yss.length)
  (ht : ∀ (i : Nat) a, as[i]? = some a → a ≠ L ∧ ∃ (us : List Value) (ys : List Int), yss[i]? = some ys ∧ s.heap.IsTuple a us.toArray ∧ IntsAre us ys ∧ ys ≠ [])
  (hp : runB as.length (fun i j => ltB (yss.getD i []) (yss.getD j [])) (W.kas_sort as.length) = some p)
  (q : ∀ D c h', s.heap.get? D = none → D ≠ L → (∀ b o, b ≠ L → s.heap.get? b = some o → h'.get? b = some o) → h'.Ns L m → h'.get? D = some (W.listOf (p.toList.map fun i => (as.map Value.ref).getD i Value.none).toArray c) → Q (.ref D) { s with heap := h' }) :
  wpAny (model prog w) A (call (.builtin "sorted") [.ref l]) Q E s := by
 have fr : Fr (cutH s.heap L) L s.heap m := by
  refine ⟨hNs, fun b o e => ?_, ?_⟩
  ·by_cases hb : b < L
   ·rw [cutH_get hb] at e; exact e
   ·rw [cutH_none (Nat.le_of_not_lt hb)] at e
    cases e
  ·show (s.heap.objs.extract 0 L).size ≤ L
   rw [Array.size_extract, Nat.sub_zero]
   exact Nat.min_le_left ..
 have nw : News (cutH s.heap L) L s.heap (behind s.heap L) := fun x hx => by
  obtain ⟨h1, h2⟩ := mem_behind.mp hx
  exact ⟨h2, Nat.ne_of_gt h1, cutH_none (Nat.le_of_lt h1)⟩
 have lv : (as.map Value.ref).length = as.length := List.length_map ..
 refine W.kat_sorted fr nw hl (by rw [lv]; exact n2) (by rw [lv]; exact n64) fun D e1 h' fr' nw' big => ?_
 have kept : ∀ b o, b ≠ L → s.heap.get? b = some o → h'.get? b = some o := fun b o hb e => by
  rcases Nat.lt_or_ge b L with h1 | h1
  ·exact fr'.keep b o (by rw [cutH_get h1]; exact e)
  ·exact (nw' (b, o) (List.mem_cons_of_mem _ (mem_behind.mpr ⟨Nat.lt_of_le_of_ne h1 (Ne.symm hb), e⟩))).1
 have dn : s.heap.get? D = none := by
  cases e : s.heap.get? D with
  | none => rfl
  | some o =>
   obtain ⟨_, dL, dc⟩ := nw' _ (List.mem_cons_self ..)
   rcases Nat.lt_or_ge D L with h1 | h1
   ·rw [cutH_get h1] at dc
    rw [dc] at e
    cases e
   ·exact absurd (big (D, o) (mem_behind.mpr ⟨Nat.lt_of_le_of_ne h1 (Ne.symm dL), e⟩)) (Nat.lt_irrefl _)
 have dL : D ≠ L := (nw' _ (List.mem_cons_self ..)).2.1
 have ht' : ∀ (i : Nat) a, as[i]? = some a → ∃ (us : List Value) (ys : List Int), yss[i]? = some ys ∧ h'.IsTuple a us.toArray ∧ IntsAre us ys ∧ ys ≠ [] := fun i a hi => by
  obtain ⟨aL, us, ys, e, ⟨o, g1, g2⟩, ia, ne⟩ := ht i a hi
  exact ⟨us, ys, e, ⟨o, kept a o aL g1, g2⟩, ia, ne⟩
 obtain ⟨fs, kt, fl, fi⟩ := katTups as yss hy ht'
 refine W.kat_kind (T := Value.type "int") kt (by omega) (fun v hv => ?_) (by decide +kernel) ?_
 ·obtain ⟨n, t, rfl⟩ := fi v hv
  intro A Q E s' _ q
  exact wpAny_pure q
 ·rw [lv]
  have kb : (Value.type "int" != Value.type "tuple") = true := by decide +kernel
  rw [kb]
  refine kasWp_run (cmp := fun i j => ltB (yss.getD i []) (yss.getD j [])) (fun i j C hi hj c => ?_) _ p _ hp ?_
  ·unfold W.kas_ask
   obtain ⟨us, ys, e, ⟨o, g1, g2, n1, g3⟩, ia, _⟩ := ht' i as[i] (List.getElem?_eq_getElem hi)
   obtain ⟨us2, ys2, e2, ⟨o2, k1, k2, n2', k3⟩, ia2, _⟩ := ht' j as[j] (List.getElem?_eq_getElem hj)
   have v1 : (as.map Value.ref).getD i Value.none = .ref as[i] := by
    rw [List.getD_eq_getElem?_getD, List.getElem?_map, List.getElem?_eq_getElem hi]
    rfl
   have v2 : (as.map Value.ref).getD j Value.none = .ref as[j] := by
    rw [List.getD_eq_getElem?_getD, List.getElem?_map, List.getElem?_eq_getElem hj]
    rfl
   have w1 : yss.getD i [] = ys := by rw [List.getD_eq_getElem?_getD, e]; rfl
   have w2 : yss.getD j [] = ys2 := by rw [List.getD_eq_getElem?_getD, e2]; rfl
   rw [v1, v2]
   refine W.kat_lt g1 g3 k1 k3 ?_
   have il : ∀ {us : List Value} {ys : List Int}, IntsAre us ys → us.length = ys.length := fun {us ys} h => by
    induction h with
    | nil => rfl
    | cons _ _ _ ih => rw [List.length_cons, List.length_cons, ih]
   refine katLex us us2 ys ys2 0 ia ia2 ?_
   rw [w1, w2] at c
   unfold ltB at c
   rw [List.size_toArray, List.size_toArray, il ia, il ia2]
   exact c
  ·refine ⟨_, _, fr', nw', W.UpdF.head (fun x hx => Nat.ne_of_lt (big x hx)), fun h'' c fr'' nw'' => ?_⟩
   refine q D c h'' dn dL (fun b o hb e => ?_) fr''.ns (nw'' _ (List.mem_cons_self ..)).1
   rcases Nat.lt_or_ge b L with h1 | h1
   ·exact fr''.keep b o (by rw [cutH_get h1]; exact e)
   ·exact (nw'' (b, o) (List.mem_cons_of_mem _ (mem_behind.mpr ⟨Nat.lt_of_le_of_ne h1 (Ne.symm hb), e⟩))).1
end
end PyZ
namespace L2
open PySem PySem.Spec PyProof.Rows
theorem ObjOk.there {P : Program} {w : World} {H : Hp} {h : Heap} {a : Addr} {o : HO} (x : ObjOk P w H h a o) : ∃ ob, h.get? a = some ob := by
 cases o with
 | lst xs => obtain ⟨_, _, _, _, e⟩ := x; exact ⟨_, e⟩
 | tup xs => obtain ⟨_, _, _, ob, e, _⟩ := x; exact ⟨_, e⟩
 | dK kvs => obtain ⟨_, _, _, _, o, _, _, e, _⟩ := x; exact ⟨_, e⟩
 | dT kvs => obtain ⟨_, _, _, _, o, _, _, e, _⟩ := x; exact ⟨_, e⟩
 | set S n => obtain ⟨o, _, _, _, e, _⟩ := x; exact ⟨_, e⟩
 | ins C dx fs => obtain ⟨_, _, _, e, _⟩ := x; exact ⟨_, e⟩
 | own y => obtain ⟨_, e⟩ := x; exact ⟨_, e⟩
 | xd fs => obtain ⟨_, ⟨_, _, _, e, _⟩, _⟩ := x; exact ⟨_, e⟩
 | rng lo hi => obtain ⟨_, _, _, e⟩ := x; exact ⟨_, e⟩
 | frz ob u => obtain ⟨e, _⟩ := x; exact ⟨_, e⟩
 | tbl ps => exact ⟨_, (show h.get? a = some _ from x)⟩
 | met f y => exact ⟨_, (show h.get? a = some _ from x)⟩
 | ext φ => obtain ⟨_, ⟨_, e⟩, _⟩ := x; exact ⟨_, e⟩
section
variable {X : Cx} {pins : List (Addr × Obj)} {σ : St} {H : Hp} {s : Shared}
theorem Inv.newL {D : Addr} {c : Nat} {h' : Heap} {m : Str → Option Value} {ys : List V} {its : List Value} (I : Inv X pins σ H s) (hm : s.heap.Ns X.env.locals m)
  (hl : ∀ (i : Nat) (x : Str) (v : V), X.N[i]? = some x → σ[i]? = some (some v) → Vis X.env.scope x → ∃ u, RelV v u ∧ Look X.env s.heap m x u)
  (dn : s.heap.get? D = none) (dL : D ≠ X.env.locals) (kept : ∀ b o, b ≠ X.env.locals → s.heap.get? b = some o → h'.get? b = some o) (hn' : h'.Ns X.env.locals m) (hz : ys.length ≤ sizeLine) (hv : Vals ys its) (hD : h'.get? D = some { cls := .type "list", data := .seq its.toArray c }) :
  Inv X pins σ (upd H D (.lst ys)) { s with heap := h' } ∧ H D = none := by
 have hHD : H D = none := by
  cases e : H D with
  | none => rfl
  | some o =>
   obtain ⟨ob, e2⟩ := (I.hok D o e).there
   rw [dn] at e2
   cases e2
 have neD : ∀ {b : Addr} {o : Obj}, s.heap.get? b = some o → b ≠ D := fun {b o} e z => by rw [z, dn] at e; cases e
 have neH : ∀ {b : Addr} {o : HO}, H b = some o → b ≠ D := fun {b o} e z => by rw [z, hHD] at e; cases e
 have neL : ∀ {b : Addr} {o : HO}, H b = some o → b ≠ X.env.locals := fun {b o} e z => by rw [z, I.free] at e; cases e
 have bL : ∀ {b : Addr} {o : Obj}, X.s₀.heap.get? b = some o → b ≠ X.env.locals := fun {b o} e => Nat.ne_of_lt (Nat.lt_of_lt_of_le (Heap.lt_size e) I.ok.above)
 refine ⟨⟨I.ok, I.os, I.bare, ⟨fun b o e n hb hx => ?_, fun b o e n hb hx => ?_, fun b o e n hx => ?_, fun b o e hx => ?_, fun b xs e => ?_, fun b o u e => ?_, fun b ps e => ?_⟩, ⟨m, hn', fun j y v e1 e2 e3 => ?_⟩, fun y c' e => ?_, ?_, fun y c' e => ?_, fun p hp => ?_, fun b ob e => ?_, I.len⟩, hHD⟩
 ·exact kept b o (bL e) (I.base.keep b o e n hb hx)
 ·obtain ⟨sl, e1⟩ := I.base.slot b o e n hb hx
  exact ⟨sl, kept b _ (bL e) e1⟩
 ·obtain ⟨o', e1⟩ := I.base.there b o e hx
  rw [upd_ne (neD e1)]
  exact I.base.free b o e n hx
 ·obtain ⟨o', e1⟩ := I.base.there b o e hx
  exact ⟨o', kept b _ (bL e) e1⟩
 ·have := I.base.tups b xs e
  rw [upd_ne (neH this)]
  exact this
 ·have := I.base.frzs b o u e
  rw [upd_ne (neH this)]
  exact this
 ·obtain ⟨more, this⟩ := I.base.tbls b ps e
  exact ⟨more, by rw [upd_ne (neH this)]; exact this⟩
 ·obtain ⟨u, r, q⟩ := hl j y v e1 e2 e3
  refine ⟨u, r, ?_⟩
  rcases q with ⟨k, e⟩ | ⟨k, c', e, z⟩
  ·exact .inl ⟨k, e⟩
  ·obtain ⟨o, g, rest⟩ := z
   exact .inr ⟨k, c', e, o, kept c' o (I.cne y c' e) g, rest⟩
 ·obtain ⟨w', o, g, rest⟩ := I.cell y c' e
  exact ⟨w', o, kept c' o (I.cne y c' e) g, rest⟩
 ·rw [upd_ne (Ne.symm dL)]
  exact I.free
 ·obtain ⟨w', o, g, rest⟩ := I.cell y c' e
  rw [upd_ne (neD g)]
  exact I.freeC y c' e
 ·obtain ⟨e, n, ne, nf, d⟩ := I.pin p hp
  exact ⟨kept p.1 _ ne e, by rw [upd_ne (neD e)]; exact n, ne, nf, d⟩
 ·by_cases hb : b = D
  ·subst hb
   rw [upd_same] at e
   cases (Option.some.inj e)
   exact ⟨hz, its, c, hv, hD⟩
  ·rw [upd_ne hb] at e
   refine (I.hok b ob e).stay (fun c' w' hc q => kept c' w' ?_ q) (fun c' q => ?_) fun c' xs q => ?_
   ·rcases hc with rfl | hc
    ·exact neL e
    ·exact neL hc
   ·rw [upd_ne (neH q)]
    exact q
   ·rw [upd_ne (neH q)]
    exact q
theorem vals_refs : ∀ {as : List Addr} {us : List Value}, Vals (as.map V.ref) us → us = as.map Value.ref
 | [], _, h => by cases h; rfl
 | a :: as, _, h => by
  cases h with
  | cons r t => rw [show _ = Value.ref a from r, vals_refs t]; rfl
theorem vals_intsA : ∀ {ns : List Int} {us : List Value}, Vals (ns.map V.int) us → IntsAre us ns
 | [], _, h => by cases h; exact .nil
 | n :: ns, _, h => by
  cases h with
  | cons r t =>
   obtain ⟨k, rfl⟩ := r
   exact .cons n k (vals_intsA t)
theorem refs_vals : ∀ as : List Addr, Vals (as.map V.ref) (as.map Value.ref)
 | [] => .nil
 | a :: as => .cons rfl (refs_vals as)
def rSortT : List V → Hp → VK → Prop := fun xs H Q => ∃ (l : Addr) (as : List Addr) (yss : List (List Int)) (p : Array Nat), xs = [.ref l] ∧ H l = some (.lst (as.map V.ref)) ∧ as.length = yss.length ∧ 2 ≤ as.length ∧ as.length < 64 ∧
 (∀ (i : Nat) a, as[i]? = some a → ∃ ys, yss[i]? = some ys ∧ ys ≠ [] ∧ H a = some (.tup (ys.map V.int))) ∧ PyZ.runB as.length (fun i j => PyZ.ltB (yss.getD i []) (yss.getD j [])) (W.kas_sort as.length) = some p ∧ p.size ≤ 64 ∧ (∀ i ∈ p.toList, i < as.length) ∧
 ∀ D, H D = none → Q (.ref D) (upd H D (.lst ((p.toList.map fun i => as.getD i 0).map V.ref)))
theorem call_sortT : CallR X (.builtin "sorted") rSortT := by
 intro pins s σ H xs us Q I r h
 obtain ⟨l, as, yss, p, rfl, hl, hy, n2, n64, ht, hp, hps, hpi, q⟩ := h
 obtain ⟨u, rfl, ru⟩ := r.one
 cases ru
 obtain ⟨m, hm, hlk⟩ := id I.loc
 obtain ⟨z, its, n, rv, hlen, e⟩ := I.lstM hl
 have ei := vals_refs rv
 subst ei
 have hil : s.heap.IsList l (as.map Value.ref).toArray := (I.list (.of hl)).elim fun its' hh => by
  obtain ⟨rv', pl, _⟩ := hh
  have := vals_refs rv'
  rw [this] at pl
  exact pl.isList
 refine PyZ.sorted_tups (yss := yss) (p := p) hm hil n2 n64 hy (fun i a hi => ?_) hp fun D c h' dn dL kept hn' hD => ?_
 ·obtain ⟨ys, e1, ne, ha⟩ := ht i a hi
  obtain ⟨us, rv', pt, _⟩ := I.tuple (.of ha)
  refine ⟨fun z => ?_, us, ys, e1, pt, vals_intsA rv', ne⟩
  rw [z, I.free] at ha
  cases ha
 ·have es : (p.toList.map fun i => (as.map Value.ref).getD i Value.none) = (p.toList.map fun i => as.getD i 0).map Value.ref := by
   rw [List.map_map]
   refine List.map_congr_left fun i hi => ?_
   have := hpi i hi
   show (as.map Value.ref).getD i Value.none = Value.ref (as.getD i 0)
   rw [List.getD_eq_getElem?_getD, List.getElem?_map, List.getElem?_eq_getElem this, List.getD_eq_getElem?_getD, List.getElem?_eq_getElem this]
   rfl
  rw [es] at hD
  have szl : (16777216 : Nat) = sizeLine := by decide
  obtain ⟨I', hH⟩ := I.newL (ys := (p.toList.map fun i => as.getD i 0).map V.ref) hm hlk dn dL kept hn' (by rw [List.length_map, List.length_map, Array.length_toList]; omega) (refs_vals _) hD
  exact ⟨.ref D, _, I', rfl, q D hH⟩
end
section
variable {X : Cx}
variable {o e : Expr} {es : List Expr} {to : TE} {t : TA} {name : Str} {apos cpos : Pos} {id : String} {r : V → List V → Hp → VK → Prop}
end
end L2
namespace PyZ
open PySem PySem.Spec PyProof.Rows
section
variable {prog : Program} {w : World} {A : Around} {E : Value → Shared → Prop} {s : Shared}
theorem collect_range {R : List Value → Shared → Prop} {r : Addr} {a b c : Int} {t u v : Tok} {n : Nat} (hh : A.handled = none) (hr : IsRange s.heap r a b c t u v) (hsmall : Builtin.Range.small a b c = true)
  (hn : Builtin.Range.rangeSize a b c = n) (hlen : n ≤ 2 ^ 24)
  (h : ∀ (h' : Heap) (tk : Nat) (acc : Array Value), (∀ b o, s.heap.get? b = some o → h'.get? b = some o) → ItemsOf (fun i v => ∃ t, v = .int (a + i * c) t) acc n → R acc.toList { s with heap := h', toks := tk }) :
  wpAny (model prog w) A (collect (.ref r)) R E s := by
 unfold collect
 refine wpAny_bind (wpAny_runValue (codeAny_builtin PySem.F.entry_proto_collect ?_))
 rw [Around.under_plainId PySem.F.plain_proto_collect _]
 show wpAny _ A.in1 (newList [] >>= fun l => again (.builtin "list.__iadd__" ⟨[l, .ref r], []⟩)) _ _ s
 refine wpAny_bind (wpAny_newObj_type ?_)
 refine wpAny_pure ⟨plainId_quiet PySem.F.plain_list_iadd _, codeAny_builtin PySem.F.entry_list_iadd ?_⟩
 rw [Around.under_plainId PySem.F.plain_list_iadd _]
 have hS₁ : (s.heap.push { cls := .type "list", data := .seq ([] : List Value).toArray }).get? s.heap.objs.size = some { cls := .type "list", data := .seq #[] } := Heap.get?_push_size _ rfl
 show wpAny _ A.in1 (Builtin.List.listExtendWith (.ref s.heap.objs.size) (.ref r) (.ref s.heap.objs.size)) _ _ _
 have key := wpAny_extend_range (prog := prog) (w := w) (A := A) (s := { s with heap := s.heap.push { cls := .type "list", data := .seq ([] : List Value).toArray } })
  (R := fun (q : Result) (s' : Shared) => ∃ (h' : Heap) (tk : Nat) (acc' : Array Value) (c' : Nat), q = .ok (.ret (.ref s.heap.objs.size)) ∧ s' = { s with heap := h', toks := tk } ∧
   (∀ b o, s.heap.get? b = some o → h'.get? b = some o) ∧ h'.get? s.heap.objs.size = some { cls := .type "list", dict := none, data := .seq acc' c', slots := #[] } ∧ ItemsOf (fun i v => ∃ t, v = .int (a + i * c) t) acc' n)
  hh (Heap.get?_push_of_some _ hr) hsmall hn hlen s.heap.objs.size (.ref s.heap.objs.size) 0 hS₁
  (fun h' tk acc' c' hk hS' hacc => ⟨h', tk, acc', c', rfl, rfl, fun b o e => hk b o (Nat.ne_of_lt (Heap.lt_size e)) (Heap.get?_push_of_some _ e), hS', hacc⟩)
 refine wpAny_mono key (fun fin s' x => ?_) fun e s' x => ?_
 ·cases fin with
  | done f =>
   obtain ⟨h', tk, acc', c', e, rfl, hk, hS', hacc⟩ := x
   cases e
   show wpAny _ A (load s.heap.objs.size >>= _) _ _ _
   refine wpAny_bind (wpAny_load hS' ?_)
   exact wpAny_pure (h h' tk acc' hk hacc)
  | again c₁ =>
   refine ⟨x.1, codeAny_mono x.2 fun q s₂ y => ?_⟩
   obtain ⟨h', tk, acc', c', rfl, rfl, hk, hS', hacc⟩ := y
   show wpAny _ A (load s.heap.objs.size >>= _) _ _ _
   refine wpAny_bind (wpAny_load hS' ?_)
   exact wpAny_pure (h h' tk acc' hk hacc)
 ·obtain ⟨_, _, _, _, e', _⟩ := x
  cases e'
theorem code_tuple_new_range {Q₁ : Value → Shared → Prop} {r : Addr} {a b c : Int} {t u v : Tok} {n : Nat} (hh : A.handled = none) (hr : IsRange s.heap r a b c t u v) (hsmall : Builtin.Range.small a b c = true)
  (hn : Builtin.Range.rangeSize a b c = n) (hlen : n ≤ 2 ^ 24)
  (h : ∀ (h' : Heap) (tk : Nat) (acc : Array Value), (∀ b o, s.heap.get? b = some o → h'.get? b = some o) → ItemsOf (fun i v => ∃ t, v = .int (a + i * c) t) acc n →
   Q₁ (.ref h'.objs.size) { s with heap := h'.push { cls := .type "tuple", data := .seq acc }, toks := tk }) :
  codeAny (model prog w) A (.call (.builtin "tuple.__new__") ⟨[.type "tuple", .ref r], []⟩) (wants Q₁ E) s := by
 refine codeAny_of_tree ?_
 show wpAny _ A.in1 (do checkBuiltinCall "tuple.__new__" ⟨[.type "tuple", .ref r], []⟩; again (.builtin "tuple.__new__" ⟨[.type "tuple", .ref r], []⟩)) _ _ s
 refine wpAny_bind (wpAny_of_eq (PySem.F.newCall_tuple_1 _) (wpAny_pure ⟨plainId_quiet (show plainId "tuple.__new__" = true by decide +kernel) _, codeAny_builtin PySem.F.entry_tuple_new ?_⟩))
 rw [Around.under_plainId (show plainId "tuple.__new__" = true by decide +kernel) _]
 have hsub := sub_tuple_self
 have hinit := init_tuple_lookup
 have hmh := madeHere_tuple
 have hTI : s.TypeIs (.ref r) "range" := ⟨_, hr, rfl⟩
 have hsz : n ≤ sizeLine := by
  have : (16777216 : Nat) = sizeLine := by decide
  omega
 wp_walk using wpAny_typeOf hTI, collect_range (A := A.in1) hh hr hsmall hn hlen
 intro h' tk acc hm hacc
 show wpAny _ _ (Builtin.Tuple.tupleExact acc.toList.toArray >>= fun v => ret v) _ _ _
 unfold Builtin.Tuple.tupleExact
 refine wpAny_bind (wpAny_newObj_type ?_ (by show acc.toList.toArray.size ≤ sizeLine; simp only [Array.toArray_toList]; rw [hacc.1]; exact hsz))
 refine wpAny_pure ?_
 have e : acc.toList.toArray = acc := by simp
 rw [e]
 exact h h' tk acc hm hacc
theorem call_tuple_range {Q : Value → Shared → Prop} {r : Addr} {a b c : Int} {t u v : Tok} {n : Nat} (hh : A.handled = none) (hr : IsRange s.heap r a b c t u v) (hsmall : Builtin.Range.small a b c = true)
  (hn : Builtin.Range.rangeSize a b c = n) (hlen : n ≤ 2 ^ 24)
  (h : ∀ (h' : Heap) (tk : Nat) (acc : Array Value), (∀ b o, s.heap.get? b = some o → h'.get? b = some o) → ItemsOf (fun i v => ∃ t, v = .int (a + i * c) t) acc n →
   Q (.ref h'.objs.size) { s with heap := h'.push { cls := .type "tuple", data := .seq acc }, toks := tk }) :
  wpAny (model prog w) A (call (.type "tuple") [.ref r]) Q E s := by
 refine callType_codes (Q₁ := fun obj s₁ => s₁.TypeIs obj "tuple" ∧ Q obj s₁) PySem.F.called_tuple (PySem.F.typeCall_tuple_1 _) PySem.F.entry_object_init
  (code_tuple_new_range (A := A.in1) hh hr hsmall hn hlen fun h' tk acc hk hacc => ⟨⟨_, Heap.get?_push_size _ rfl, rfl⟩, h h' tk acc hk hacc⟩) fun obj s₁ h₁ => ?_
 exact ⟨h₁.1, PySem.F.args_object_init_2 obj _, object_init_meets PySem.F.called_tuple.init.lookup PySem.F.called_tuple.made (by decide) prog w A.in1 _ s₁ ⟨h₁.1, rfl, h₁.2⟩⟩
end
end PyZ
namespace L2
open PySem PySem.Spec PyProof.Rows
section
variable {X : Cx}
theorem call_tuple_rng (hc : X.calm = true) : CallR X (.type "tuple") (fun xs H Q => ∃ (a : Addr) (lo hi : Int), xs = [.ref a] ∧ H a = some (.rng lo hi) ∧ (-(2 ^ 62) ≤ lo ∧ lo < 2 ^ 62 ∧ -(2 ^ 62) ≤ hi ∧ hi < 2 ^ 62) ∧ (hi - lo).toNat ≤ sizeLine ∧
  ∀ l, H l = none → Q (.ref l) (upd H l (.tup ((rngI lo (hi - lo).toNat).map V.int)))) := by
 intro pins s σ H xs us Q I r h
 obtain ⟨a, lo, hi, rfl, ha, ⟨b1, b2, b3, b4⟩, hz, q⟩ := h
 obtain ⟨u, rfl, ru⟩ := vals1 r
 cases ru
 obtain ⟨t, u, v, e⟩ := (show ∃ t u v, s.heap.get? a = some { cls := .type "range", data := .fields #[.int lo t, .int hi u, .int 1 v] } from I.hok a _ ha)
 refine PyZ.call_tuple_range (n := (hi - lo).toNat) (I.ok.hd hc) e (small_one b1 b2 b3 b4) (by rw [rangeSize_one]; split <;> omega) hz fun h' tk acc hk hit => ?_
 have I1 : Inv X pins σ H { s with heap := h', toks := tk } := I.kept (t' := tk) hk
 have I2 : Inv X pins σ (upd H h'.objs.size (.tup ((rngI lo (hi - lo).toNat).map V.int))) { s with heap := h'.push { cls := .type "tuple", data := .seq acc }, toks := tk } :=
  I1.laid (t' := tk) (fun b o e => Heap.get?_push_of_some _ e) (Nat.le_refl _) (show ObjOk X.prog X.w _ _ _ (.tup ((rngI lo (hi - lo).toNat).map V.int)) from ⟨by rw [List.length_map, rngI_len]; exact hz, acc.toList, vals_rngI hit, by simpa using IsTup.new _ _⟩)
 exact ⟨.ref h'.objs.size, _, I2, rfl, q _ (I1.hok.fresh (Nat.le_refl _))⟩
end
end L2
namespace HT
open PySem PyProof.Rows
section
variable {prog : Program} {w : World} {A : Around} {E : Value → Shared → Prop} {s : Shared}
theorem pick_rev (xs : Array Value) : ((List.range xs.size).filterMap fun (m : Nat) => xs[((xs.size : Int) - 1 + (m : Int) * -1).toNat]?).toArray = xs.toList.reverse.toArray := by
 congr 1
 have e : ∀ m ∈ List.range xs.size, xs[((xs.size : Int) - 1 + (m : Int) * -1).toNat]? = some (xs.toList.reverse.getD m default) := fun m hm => by
  have hm := List.mem_range.mp hm
  have e1 : ((xs.size : Int) - 1 + (m : Int) * -1).toNat = xs.size - 1 - m := by omega
  rw [e1, List.getD_eq_getElem?_getD, List.getElem?_reverse (by rw [Array.length_toList]; exact hm), Array.length_toList, Array.getElem?_toList, Array.getElem?_eq_getElem (by omega)]
  rfl
 have gen : ∀ (l : List Nat), (∀ m ∈ l, m ∈ List.range xs.size) → (l.filterMap fun (m : Nat) => xs[((xs.size : Int) - 1 + (m : Int) * -1).toNat]?) = l.map fun m => xs.toList.reverse.getD m default := fun l => by
  induction l with
  | nil => intro _; rfl
  | cons m l ih =>
   intro h
   rw [List.filterMap_cons, e m (h m List.mem_cons_self), List.map_cons, ih fun k hk => h k (List.mem_cons_of_mem _ hk)]
 rw [gen _ fun m hm => hm]
 refine List.ext_getElem? fun i => ?_
 by_cases hi : i < xs.size
 ·rw [List.getElem?_map, List.getElem?_range hi, Option.map_some, List.getD_eq_getElem?_getD, List.getElem?_eq_getElem (by rw [List.length_reverse, Array.length_toList]; exact hi)]
  rfl
 ·rw [List.getElem?_eq_none (by rw [List.length_map, List.length_range]; omega), List.getElem?_eq_none (by rw [List.length_reverse, Array.length_toList]; omega)]
theorem getItem_tuple_rev {t sl : Addr} {items : Array Value} {tk : Tok} {Q : Value → Shared → Prop} (ht : IsTup s.heap t items) (hs : s.heap.IsSliceOf sl .none .none (.int (-1) tk))
  (h : Q (.ref s.heap.objs.size) { s with heap := s.heap.push { cls := .type "tuple", data := .seq items.toList.reverse.toArray } })
  (hsz : items.size ≤ sizeLine) : wpAny (model prog w) A (getItem (.ref t) (.ref sl)) Q E s := by
 have htake : sizeOk (.seq items.toList.reverse.toArray) := by
  show items.toList.reverse.toArray.size ≤ sizeLine
  rw [List.size_toArray, List.length_reverse, Array.length_toList]
  exact hsz
 obtain ⟨os, hos, hcs, hds⟩ := id hs
 have hTs : s.TypeIs (.ref sl) "slice" := ⟨os, hos, hcs⟩
 unfold getItem
 try with_reducible refine wpAny_holding ?_
 first | refine wpAny_bind (wpAny_pure ?_) | skip
 refine wpAny_bind (wpAny_sequenceKey ht.typeIs (by decide) ?_)
 refine wpAny_bind (wpAny_callSpecial?_slot (name := Str.ofString "__getitem__") ht.typeIs PyProof.Rows.slot_tuple_getitem
  (wpAny_call_entry PyProof.Rows.slot_tuple_getitem ht.typeIs entry_tuple_getitem ?_ (args_tuple_getitem _ _)))
 show wpAny _ _ (Builtin.Tuple.tupleItemsOf (.ref t) >>= _) _ _ s
 refine wpAny_bind (tupleItemsOf_ ht ?_)
 refine wpAny_bind (wpAny_typeOf hTs ?_)
 rw [if_pos (by decide)]
 have ap : ∀ {A : Around} {R : Int × Int × Nat → Shared → Prop}, R ((items.size : Int) - 1, -1, items.size) s → wpAny (model prog w) A (Builtin.Slice.sliceApplied (.ref sl) (pure (items.size : Int))) R E s := fun {A R} hR => by
  unfold Builtin.Slice.sliceApplied Builtin.Slice.sliceFields
  refine wpAny_bind (wpAny_bind (wpAny_field hos hds (x := .none) rfl (wpAny_bind (wpAny_field hos hds (x := .none) rfl (wpAny_bind (wpAny_field hos hds (x := .int (-1) tk) rfl (wpAny_pure ?_)))))))
  refine wpAny_bind (slicePart_int ?_)
  show wpAny _ _ (if ((-1 : Int) == 0) = true then _ else _) _ _ s
  rw [if_neg (by decide)]
  refine wpAny_bind (slicePart_none (wpAny_bind (slicePart_none (wpAny_bind (wpAny_pure ?_)))))
  show wpAny _ _ (pure ((items.size : Int) - 1, (-1 : Int), Builtin.Slice.slicePlaces ((items.size : Int) - 1) (-1) (-1))) _ _ s
  have e : Builtin.Slice.slicePlaces ((items.size : Int) - 1) (-1) (-1) = items.size := by
   unfold Builtin.Slice.slicePlaces
   rw [if_neg (by decide)]
   have : (- -1 : Int) = 1 := by decide
   rw [this, Int.ediv_one]
   split <;> omega
  rw [e]
  exact wpAny_pure hR
 refine wpAny_bind (ap ?_)
 show wpAny _ _ (if (((items.size : Int) - 1) == 0 && (-1 : Int) == 1 && items.size == items.size) = true then _ else _) _ _ s
 have hno : ¬ ((((items.size : Int) - 1) == 0 && (-1 : Int) == 1 && items.size == items.size) = true) := by
  rw [show ((-1 : Int) == 1) = false by decide, Bool.and_false, Bool.false_and]
  decide
 rw [if_neg hno, pick_rev]
 first
  | exact wpAny_bind (m := Builtin.Tuple.tupleExact _) (wpAny_newObj_type (wpAny_pure ⟨_, rfl, wpAny_pure h⟩) htake)
  | exact wpAny_bind (m := Builtin.Tuple.tupleExact _) (wpAny_newObj_type (wpAny_bind (wpAny_pure (wpAny_pure ⟨_, rfl, wpAny_pure h⟩))) htake)
  | exact wpAny_bind (wpAny_bind (m := Builtin.Tuple.tupleExact _) (wpAny_newObj_type (wpAny_pure (wpAny_pure ⟨_, rfl, wpAny_pure h⟩)) htake))
  | exact wpAny_bind (wpAny_bind (m := Builtin.Tuple.tupleExact _) (wpAny_newObj_type (wpAny_pure ⟨_, rfl, wpAny_pure h⟩) htake))
end
end HT
namespace L2
open PySem PySem.Spec PyProof.Rows
section
variable {X : Cx} {e : Expr} {te ts : TE} {st : Expr} {pos p2 : Pos}
def tRev (K : PySem.W.Frag) (te ts : TE) : TE := fun σ H Q => te σ H fun x H1 => ts σ H1 fun i H2 => i = .int (-1) ∧ ∃ a xs, x = .ref a ∧ SqT K H2 a xs ∧ ∀ p, H2 p = none → Q (.ref p) (upd H2 p (.tup xs.reverse))
theorem pe_rev (K : PySem.W.Frag) (he : PE X e te) (hs : PE X st ts) (hK : X.K = K := by rfl) : PE X (.Subscript e (.Slice none none (some st) p2) pos) (tRev K te ts) := by
 subst hK
 intro pins s σ H Q I h
 refine Subscript_ (thn (he pins s σ H _ I h) fun v s1 ⟨x, H1, I1, r1, q1⟩ => ?_)
 refine wpAny_Slice ?_
 rw [evalPart_none]
 refine wpAny_pure ?_
 rw [evalPart_some]
 refine wpAny_pure ?_
 refine thn (hs pins s1 σ H1 _ I1 q1) fun u s3 ⟨i, H3, I3, r3, q3⟩ => ?_
 obtain ⟨rfl, a, xs, rfl, hx, q⟩ := q3
 obtain ⟨tk, rfl⟩ := r3
 cases r1
 have I4 : Inv X pins σ H3 { s3 with heap := s3.heap.push { cls := .type "slice", data := .fields #[.none, .none, .int (-1) tk] } } := I3.kept (t' := s3.toks) fun b ob q => Heap.get?_push_of_some _ q
 obtain ⟨its, r, ht, hz⟩ := I4.tuple hx
 show wpAny (model X.prog X.w) X.A (subscriptTail e (.Slice none none (some st) p2) (.ref a) (.ref s3.heap.objs.size)) (EP X pins σ Q) X.xe { s3 with heap := s3.heap.push { cls := .type "slice", data := .fields #[.none, .none, .int (-1) tk] } }
 refine tail_any (ops := [.ref a, .ref s3.heap.objs.size]) ht.typeIs PyProof.Rows.slot_tuple_getitem.lookup ?_ (by with_unfolding_all rfl)
 have hlen : its.toArray.size = xs.length := by rw [List.size_toArray]; exact r.length.symm
 refine HT.getItem_tuple_rev ht (Heap.IsSliceOf.new ..) ?_ (by rw [hlen]; exact hz)
 refine ⟨.ref _, _, I4.laid (t' := s3.toks) (o := .tup xs.reverse) (fun b ob q => Heap.get?_push_of_some _ q) (Nat.le_refl _) ?_, rfl, q _ (I4.hok.fresh (Nat.le_refl _))⟩
 exact ⟨by rw [List.length_reverse]; exact hz, _, r.reverse, IsTup.new _ _⟩
end
end L2
namespace HT
open PySem PyProof.Rows
section
variable {prog : Program} {w : World} {A : Around} {E : Value → Shared → Prop} {s : Shared}
theorem getItem_tuple_whole {t sl : Addr} {items : Array Value} {vl vu : Value} {lo hi : Option Int} {Q : Value → Shared → Prop} (ht : IsTup s.heap t items) (hs : s.heap.IsSliceOf sl vl vu .none) (pl : IsPart vl lo) (pu : IsPart vu hi)
  (hw : sIx items.size 0 lo = 0 ∧ sIx items.size items.size hi = items.size)
  (h : Q (.ref t) s) : wpAny (model prog w) A (getItem (.ref t) (.ref sl)) Q E s := by
 obtain ⟨os, hos, hcs, hds⟩ := id hs
 have hTs : s.TypeIs (.ref sl) "slice" := ⟨os, hos, hcs⟩
 unfold getItem
 try with_reducible refine wpAny_holding ?_
 first | refine wpAny_bind (wpAny_pure ?_) | skip
 refine wpAny_bind (wpAny_sequenceKey ht.typeIs (by decide) ?_)
 refine wpAny_bind (wpAny_callSpecial?_slot (name := Str.ofString "__getitem__") ht.typeIs PyProof.Rows.slot_tuple_getitem
  (wpAny_call_entry PyProof.Rows.slot_tuple_getitem ht.typeIs entry_tuple_getitem ?_ (args_tuple_getitem _ _)))
 show wpAny _ _ (Builtin.Tuple.tupleItemsOf (.ref t) >>= _) _ _ s
 refine wpAny_bind (tupleItemsOf_ ht ?_)
 refine wpAny_bind (wpAny_typeOf hTs ?_)
 rw [if_pos (by decide)]
 refine wpAny_bind (sliceApplied_gen hs pl pu ?_)
 have hyes : (((sIx items.size 0 lo : Nat) : Int) == 0 && (1 : Int) == 1 && (sIx items.size items.size hi - sIx items.size 0 lo) == items.size) = true := by
  rw [hw.1, hw.2]
  simp
 show wpAny _ _ (if (((sIx items.size 0 lo : Nat) : Int) == 0 && (1 : Int) == 1 && (sIx items.size items.size hi - sIx items.size 0 lo) == items.size) = true then _ else _) _ _ s
 rw [if_pos hyes]
 refine wpAny_bind ?_
 unfold Builtin.Tuple.tupleIsExact
 refine wpAny_bind (wpAny_typeOf ht.typeIs (wpAny_pure ?_))
 rw [if_pos (by decide)]
 refine wpAny_bind (wpAny_rule ?_)
 first
  | exact wpAny_pure ⟨_, rfl, wpAny_pure h⟩
  | exact wpAny_bind (wpAny_pure ⟨_, rfl, wpAny_pure h⟩)
end
end HT
namespace L2
open PySem PySem.Spec PyProof.Rows
section
variable {X : Cx}
def rSlW (K : PySem.W.Frag) : V → Option Int → Option Int → Hp → VK → Prop := fun x lo hi H Q => ∃ a xs, x = .ref a ∧ SqT K H a xs ∧ (HT.sIx xs.length 0 lo = 0 ∧ HT.sIx xs.length xs.length hi = xs.length) ∧ Q (.ref a) H
theorem sl_whole : SlR X (rSlW X.K) := by
 intro pins s σ H x v vl vu lo hi sl Q I rx hs pl pu h
 obtain ⟨a, xs, rfl, hx, hw, q⟩ := h
 cases rx
 obtain ⟨its, r, ht, hz⟩ := I.tuple hx
 have hlen : its.toArray.size = xs.length := by rw [List.size_toArray]; exact r.length.symm
 refine ⟨"tuple", _, PyProof.Rows.slot_tuple_getitem.lookup, ht.typeIs, ?_⟩
 exact HT.getItem_tuple_whole ht hs pl pu (by rw [hlen]; exact hw) ⟨.ref a, H, I, rfl, q⟩
def Shd (K : PySem.W.Frag) (H : Hp) (x : V) (t : Str) : Prop := (∃ d, RdD K H x d ∧ FitD d ∧ t = d.shown) ∨ (∃ a, x = .ref a ∧ H a = some (.dK []) ∧ t = PyData.shown (.dict []))
theorem Shd.mono {K : PySem.W.Frag} {H H' : Hp} {x : V} {t : Str} (s : Same H H') (h : Shd K H x t) : Shd K H' x t := by
 rcases h with ⟨d, h1, h2, h3⟩ | ⟨a, h1, h2, h3⟩
 ·exact .inl ⟨d, h1.mono s, h2, h3⟩
 ·exact .inr ⟨a, h1, s _ _ h2, h3⟩
theorem call_reprE {k : Nat} (hr : Room k X.A) : CallR X (.builtin "repr") (fun xs H Q => ∃ x t, xs = [x] ∧ Shd X.K H x t ∧ Q (.str t) H) := by
 intro pins s σ H xs us Q I r h
 obtain ⟨x, t, rfl, hd, q⟩ := h
 rcases hd with ⟨d, h1, h2, rfl⟩ | ⟨a, rfl, ha, rfl⟩
 ·exact call_repr hr pins s σ H [x] us Q I r ⟨x, d, rfl, h1, h2, q⟩
 ·obtain ⟨u, rfl, ru⟩ := vals1 r
  cases (show u = Value.ref a from ru)
  obtain ⟨_, hns, vs, kv, hdo⟩ := (show ObjOk X.prog X.w H s.heap a (.dK []) from I.hok a _ ha)
  cases kv
  have hun : X.A.units + 61 < cLine := by have := hr.units; omega
  obtain ⟨o, es, ep, n1, n2, n3, _, n4, _⟩ := hdo
  have he : es.toList = [] := by
   generalize es.toList = l at n4
   cases n4
   rfl
  have rd : Reads s.heap (.ref a) (.dict []) [a] := .dict (as := []) (bs := []) n1 n2.1 n3 (by rw [he]; exact .nil) (by rw [he]; exact .nil)
  refine repr_of_reads' rd (by decide) (fun _ z => ?_) hr.gd (by show X.A.units + (PyData.depth (.dict []) + 1) < cLine; simp only [PyData.depth, PyData.depthKv]; omega) (fun _ _ e => e) (fun h' u tk kp => ⟨.str _, H, I.kept kp, ⟨u, rfl⟩, q⟩) (by decide +kernel)
  rw [List.mem_singleton.mp z] at hns
  simp at hns
theorem reprE (K : PySem.W.Frag) {k : Nat} (hr : Room k X.A) (hK : X.K = K := by rfl) : CallR X (.builtin "repr") (fun xs H Q => ∃ x t, xs = [x] ∧ Shd K H x t ∧ Q (.str t) H) := hK ▸ call_reprE hr
end
def Tt (H : Hp) (a : Addr) (ys : List V) : Prop := H a = some (.tup ys)
theorem Tt.sq {K : PySem.W.Frag} {H : Hp} {a : Addr} {ys : List V} (h : Tt H a ys) : SqT K H a ys := .of h
theorem Tt.mono {H H' : Hp} {a : Addr} {ys : List V} (s : Same H H') (h : Tt H a ys) : Tt H' a ys := s _ _ h
theorem call_tupleW {X : Cx} : CallR X (.type "tuple") (fun xs H Q => ∃ p ys, xs = [.ref p] ∧ SqL X.K H p ys ∧ ∀ l H', H l = none → Same H H' → Tt H' l ys → Q (.ref l) H') := by
 intro pins s σ H xs us Q I r h
 obtain ⟨p, ys, rfl, hq, q⟩ := h
 exact call_tuple_of pins s σ H _ us Q I r ⟨p, ys, rfl, .inl ⟨hq, fun l hl => q l _ hl (Same.upd hl) upd_same⟩⟩
end L2
namespace C6
open PySem L2 PySem.Spec PyProof.Rows
def top (i : Nat) : Stmt := PySem.Challenge.pw_classtab_k06_groups_or_not.main.body.getD i (.Pass ⟨0, 0, 0, 0⟩)
abbrev sFeed : Stmt := top 24
abbrev sDraw : Stmt := top 25
structure FeedAt (H : Hp) (p q : Addr) (ns : List Int) (i j k : Int) : Prop where
 hp : H p = some (.lst [.ref q, .int i, .int j, .int k])
 hq : H q = some (.lst (ns.map V.int))
 hn : ns.length ≤ 63
 hi : 0 ≤ i
 hj : 0 ≤ j
 hk : 0 ≤ k
def Feed (H : Hp) (p : Addr) : Prop := ∃ q ns i j k, FeedAt H p q ns i j k
theorem FeedAt.ne {H : Hp} {p q : Addr} {ns : List Int} {i j k : Int} (F : FeedAt H p q ns i j k) : q ≠ p := fun e => by
 have h1 := F.hp
 have h2 := F.hq
 rw [e, h1] at h2
 cases ns with
 | nil => simp at h2
 | cons n r => simp at h2
theorem FeedAt.upd {H : Hp} {p q : Addr} {ns : List Int} {i j k i' j' k' : Int} (F : FeedAt H p q ns i j k) (h1 : 0 ≤ i') (h2 : 0 ≤ j') (h3 : 0 ≤ k') : FeedAt (upd H p (.lst [.ref q, .int i', .int j', .int k'])) p q ns i' j' k' :=
 ⟨upd_same, by rw [upd_ne F.ne]; exact F.hq, F.hn, h1, h2, h3⟩
theorem FeedAt.mono {H H' : Hp} {p q : Addr} {ns : List Int} {i j k : Int} (s : Same H H') (F : FeedAt H p q ns i j k) : FeedAt H' p q ns i j k := ⟨s _ _ F.hp, s _ _ F.hq, F.hn, F.hi, F.hj, F.hk⟩
theorem ints_inj : ∀ {ns ms : List Int}, ns.map V.int = ms.map V.int → ns = ms
 | [], [], _ => rfl
 | [], _ :: _, h => by cases h
 | _ :: _, [], h => by cases h
 | n :: r, m :: t, h => by
  simp only [List.map_cons, List.cons.injEq, V.int.injEq] at h
  rw [h.1, ints_inj h.2]
theorem FeedAt.uniq {H : Hp} {p q q' : Addr} {ns ns' : List Int} {i j k i' j' k' : Int} (F : FeedAt H p q ns i j k) (G : FeedAt H p q' ns' i' j' k') : q' = q ∧ ns' = ns := by
 have h1 := F.hp.symm.trans G.hp
 simp only [Option.some.injEq, HO.lst.injEq, List.cons.injEq, V.ref.injEq] at h1
 have e : q' = q := h1.1.symm
 subst e
 have h2 := F.hq.symm.trans G.hq
 simp only [Option.some.injEq, HO.lst.injEq] at h2
 exact ⟨rfl, (ints_inj h2).symm⟩
structure Dr (p : Addr) (H H' : Hp) : Prop where
 keep : ∀ b o, H b = some o → b ≠ p → H' b = some o
 at_ : ∀ q ns i j k, FeedAt H p q ns i j k → ∃ i' j' k', FeedAt H' p q ns i' j' k'
theorem Dr.feed {p : Addr} {H H' : Hp} (d : Dr p H H') (F : Feed H p) : Feed H' p := by
 obtain ⟨q, ns, i, j, k, F⟩ := F
 obtain ⟨i', j', k', F'⟩ := d.at_ q ns i j k F
 exact ⟨q, ns, i', j', k', F'⟩
structure Bl (mg : Str → Option Value) : Prop where
 list : mg "list" = none
 len : mg "len" = none
 abs : mg "abs" = none
 range : mg "range" = none
 tuple : mg "tuple" = none
 isi : mg "isinstance" = none
 all : mg "all" = none
 set : mg "set" = none
 repr : mg "repr" = none
 any : mg "any" = none
 int : mg "int" = none
 bool : mg "bool" = none
def spFeed (K : PySem.W.Frag) : Sp := fun vs H Q _ => ∃ (a : Addr) (ns : List Int), vs = [.ref a] ∧ SqL K H a (ns.map V.int) ∧ ∀ p H', Same H H' → H p = none → Feed H' p → Q (.ref p) H'
def spDraw : Sp := fun vs H Q _ => ∃ (p : Addr) (m : Int), vs = [.ref p, .int m] ∧ Feed H p ∧ 0 < m ∧ m.natAbs.log2 < 9000 ∧ ∀ r H', 0 ≤ r → r < m → Dr p H H' → Q (.int r) H'
section
variable {P : Program} {w : World} {K : PySem.W.Frag} {mg : Str → Option Value} {base : Heap}
theorem cut_ints (ns : List Int) (lo hi : Option Int) : ∃ ms : List Int, cutV (ns.map V.int) lo hi = ms.map V.int ∧ (∀ k : Nat, hi = some (k : Int) → ms.length ≤ k) := by
 refine ⟨(ns.drop (HT.sIx ns.length 0 lo)).take (HT.sIx ns.length ns.length hi - HT.sIx ns.length 0 lo), ?_, fun k e => ?_⟩
 ·unfold cutV; rw [List.length_map, List.map_take, List.map_drop]
 ·subst e
  rw [List.length_take, HT.sIx_nat]; omega
theorem scFeed : FnScope ["_law_script"] ["_law_script"] (defScope sFeed) := FS
theorem ok_feed {f : Addr} {fd : FuncData} (F : Fun K "_law_feed" "_law_feed" sFeed f fd) (T : Bl mg) : FnOk P w K mg base CX0 1 f fd ["_law_script"] (spFeed K) := by
 refine F.ok scFeed (fun vs H Q E h => ?_) (fun cdv A outer s H vs Q E hr h => ?_)
 ·obtain ⟨a, ns, rfl, _⟩ := h; rfl
 ·obtain ⟨a, ns, rfl, hS, k⟩ := h
  refine ⟨_, pss_one (ps_ret (pe_lst (pc (ct call_list_of T.list (pc (pe_slice sl_list (vn 0) po_none (po_some pe_int)) pa_nil)) (pc pe_int (pc pe_int (pc pe_int pa_nil)))))), ?_⟩
  refine ⟨_, rfl, _, rfl, a, _, rfl, hS, fun p1 h1 => ⟨p1, _, rfl, .inl (.of upd_same), fun q hq => ⟨by show 4 ≤ sizeLine; decide, fun p hp => ?_⟩⟩⟩
  obtain ⟨ms, e, hl⟩ := cut_ints ns none (some 63)
  rw [e] at hp ⊢
  have s1 : Same H (upd H p1 (.lst (ms.map V.int))) := Same.upd h1
  have s2 := s1.trans (Same.upd (o := .lst (ms.map V.int)) (e ▸ hq))
  have s3 := s2.trans (Same.upd (o := .lst [.ref q, .int 0, .int 0, .int 0]) hp)
  refine k p _ s3 (s2.free hp) ⟨q, ms, 0, 0, 0, upd_same, ?_, hl 63 rfl, by decide, by decide, by decide⟩
  have nq : q ≠ p := fun z => by rw [← z, upd_same] at hp; cases hp
  rw [upd_ne nq, upd_same]
theorem scDraw : FnScope ["_law_feed_here", "_law_many", "_law_found", "_law_cell", "_law_stirred"] ["_law_feed_here", "_law_many"] (defScope sDraw) := FS
theorem ok_draw {f : Addr} {fd : FuncData} (F : Fun K "_law_draw" "_law_draw" sDraw f fd) (T : Bl mg) : FnOk P w K mg base CX0 1 f fd ["_law_feed_here", "_law_many"] spDraw := by
 refine F.ok scDraw (fun vs H Q E h => ?_) (fun cdv A outer s H vs Q E hr h => ?_)
 ·obtain ⟨p, m, rfl, _⟩ := h; rfl
 ·obtain ⟨p, m, rfl, ⟨q, ns, i, j, k0, F⟩, hm, hml, k⟩ := h
  refine ⟨_, pss_cons (ps_asg (pe_op op_add (pe_ix ix_list (vn 0) pe_int (fun _ _ => rfl)) pe_int) (pg_sub (vn 0) pe_int set_list))
   (pss_cons (ps_while PassesOwn.never (pw_and (pt_cmpR op_eq (pe_ix ix_list (vn 0) pe_int (fun _ _ => rfl)) pe_int (nomark _)) (pw_and1 (pt_cmpR op_lt (pe_ix ix_list (vn 0) pe_int (fun _ _ => rfl)) (cb call_len_seq T.len (pc (pe_ix ix_list (vn 0) pe_int (fun _ _ => rfl)) pa_nil)) (nomark _)))).pt
    (pss_cons (ps_if (pt_cmpR op_ge (cb call_abs T.abs (pc (pe_ix ix_list (pe_ix ix_list (vn 0) pe_int (fun _ _ => rfl)) (pe_ix ix_list (vn 0) pe_int (fun _ _ => rfl)) (fun _ _ => rfl)) pa_nil)) (pe_op op_pow pe_int pe_int) (nomark _))
      (pss_one (ps_asg (cb call_abs T.abs (pc (pe_ix ix_list (pe_ix ix_list (vn 0) pe_int (fun _ _ => rfl)) (pe_ix ix_list (vn 0) pe_int (fun _ _ => rfl)) (fun _ _ => rfl)) pa_nil)) (pg_sub (vn 0) pe_int set_list))) pss_nil)
     (pss_one (ps_asg (pe_op op_add (pe_ix ix_list (vn 0) pe_int (fun _ _ => rfl)) pe_int) (pg_sub (vn 0) pe_int set_list)))))
   (pss_cons (ps_if (pt_cmpR op_gt (pe_ix ix_list (vn 0) pe_int (fun _ _ => rfl)) pe_int (nomark _))
     (pss_cons (sset 2 rfl (pe_op op_mod (pe_ix ix_list (vn 0) pe_int (fun _ _ => rfl)) (vn 1)))
      (pss_cons (ps_asg (pe_op op_fdivB (pe_ix ix_list (vn 0) pe_int (fun _ _ => rfl)) (vn 1)) (pg_sub (vn 0) pe_int set_list)) (pss_one (ps_ret (vn 2))))) pss_nil)
   (pss_cons (sset 3 rfl pe_int)
   (pss_cons (ps_if (pt_cmpR op_gt (cb call_len_seq T.len (pc (pe_ix ix_list (vn 0) pe_int (fun _ _ => rfl)) pa_nil)) pe_int (nomark _))
     (pss_one (sset 3 rfl (pe_ix ix_list (pe_ix ix_list (vn 0) pe_int (fun _ _ => rfl)) (pe_op op_mod (pe_ix ix_list (vn 0) pe_int (fun _ _ => rfl)) (cb call_len_seq T.len (pc (pe_ix ix_list (vn 0) pe_int (fun _ _ => rfl)) pa_nil))) (fun _ _ => rfl)))) pss_nil)
   (pss_cons (sset 4 rfl (pe_op op_mod (pe_op op_add (pe_op op_add (pe_op op_mul (pe_op op_mod (vn 3) pe_int) pe_int) (pe_op op_mul pe_int (pe_ix ix_list (vn 0) pe_int (fun _ _ => rfl)))) pe_int) pe_int))
   (pss_cons (sset 4 rfl (pe_op op_mod (pe_op op_mul (vn 4) (pe_op op_add (vn 4) pe_int)) pe_int))
   (pss_one (ps_ret (pe_op op_mod (pe_op op_mod (pe_op op_mul (vn 4) pe_int) pe_int) (vn 1)))))))))), ?_⟩
  refine ⟨_, rfl, p, _, _, _, rfl, rfl, .of F.hp, rfl, _, _, rfl, rfl, _, rfl, p, _, _, _, rfl, rfl, F.hp, rfl, ?_⟩
  have F1 : FeedAt (upd H p (.lst [.ref q, .int (i + 1), .int j, .int k0])) p q ns (i + 1) j k0 := F.upd (by have := F.hi; omega) F.hj F.hk
  refine tw_intro (fun n σ' H' => ∃ i' j' k', σ' = [some (.ref p), some (.int m), none, none, none] ∧ FeedAt H' p q ns i' j' k' ∧ (∀ b, b ≠ p → H' b = H b) ∧ n = (63 - k').toNat)
   (fun σ' H' => ∃ i' j' k', σ' = [some (.ref p), some (.int m), none, none, none] ∧ FeedAt H' p q ns i' j' k' ∧ (∀ b, b ≠ p → H' b = H b)) ?hend ⟨_, _, _, _, rfl, F1, fun b hb => upd_ne hb, rfl⟩ ?turn
  case turn =>
   rintro hend n σ' H' ⟨i', j', k', rfl, F', hb', rfl⟩
   refine ⟨_, rfl, p, _, _, _, rfl, rfl, .of F'.hp, rfl, rfl, _, rfl, ?_⟩
   refine ite2 (fun hj => ?_) (fun hj => ?_)
   ·obtain ⟨kn, rfl⟩ := Int.eq_ofNat_of_zero_le F'.hk
    refine ⟨_, rfl, p, _, _, _, rfl, rfl, .of F'.hp, rfl, _, rfl, p, _, _, _, rfl, rfl, .of F'.hp, rfl, q, _, rfl, .inl (.of F'.hq), _, _, rfl, rfl, _, rfl, ?_⟩
    refine ite2 (fun hl => ?_) (fun hl => hend _ _ ⟨i', j', _, rfl, F', hb'⟩)
    refine ⟨_, fun _ _ z => z, ?_⟩
    have hl' : kn < ns.length := by
     have := of_decide_eq_true hl
     rw [List.length_map] at this; omega
    obtain ⟨z, hz⟩ : ∃ z, ns[kn]? = some z := ⟨_, List.getElem?_eq_getElem hl'⟩
    have hz' : atI (ns.map V.int) (kn : Int) = some (.int z) := atI_nat (by rw [List.getElem?_map, hz]; rfl)
    refine ⟨_, rfl, p, _, _, _, rfl, rfl, .of F'.hp, rfl, _, rfl, p, _, _, _, rfl, rfl, .of F'.hp, rfl, q, _, _, _, rfl, rfl, .of F'.hq, hz', _, rfl, _, _, rfl, rfl, ⟨by decide, by decide, by decide⟩, _, _, rfl, rfl, _, rfl, ?_⟩
    have hn63 := F'.hn
    refine ite2 (fun hg => ?_) (fun hg => ?_)
    ·refine ⟨_, rfl, p, _, _, _, rfl, rfl, .of F'.hp, rfl, _, rfl, p, _, _, _, rfl, rfl, .of F'.hp, rfl, q, _, _, _, rfl, rfl, .of F'.hq, hz', _, rfl, _, rfl, p, _, _, _, rfl, rfl, F'.hp, rfl, ?_⟩
     have F2 : FeedAt (upd H' p (.lst [.ref q, .int i', .int (if z < 0 then -z else z), .int kn])) p q ns i' (if z < 0 then -z else z) kn := F'.upd F'.hi (by split <;> omega) F'.hk
     refine ⟨_, rfl, p, _, _, _, rfl, rfl, .of F2.hp, rfl, _, _, rfl, rfl, _, rfl, p, _, _, _, rfl, rfl, F2.hp, rfl, ?_⟩
     exact ⟨(63 - ((kn : Int) + 1)).toNat, by omega, i', _, (kn : Int) + 1, rfl, F2.upd F'.hi (by split <;> omega) (by omega), fun b hb => by rw [upd_ne hb, upd_ne hb]; exact hb' b hb, rfl⟩
    ·refine ⟨_, rfl, p, _, _, _, rfl, rfl, .of F'.hp, rfl, _, _, rfl, rfl, _, rfl, p, _, _, _, rfl, rfl, F'.hp, rfl, ?_⟩
     exact ⟨(63 - ((kn : Int) + 1)).toNat, by omega, i', j', (kn : Int) + 1, rfl, F'.upd F'.hi F'.hj (by omega), fun b hb => by rw [upd_ne hb]; exact hb' b hb, rfl⟩
   ·exact hend _ _ ⟨i', j', k', rfl, F', hb'⟩
  case hend =>
   rintro σ' H' ⟨i', j', k', rfl, F', hb'⟩
   have dr : ∀ {H2 : Hp} {i2 j2 k2 : Int}, FeedAt H2 p q ns i2 j2 k2 → (∀ b, b ≠ p → H2 b = H b) → Dr p H H2 := fun {H2 i2 j2 k2} F2 hb2 => ⟨fun b o e hb => by rw [hb2 b hb]; exact e, fun q' ns' _ _ _ G => by obtain ⟨rfl, rfl⟩ := F.uniq G; exact ⟨i2, j2, k2, F2⟩⟩
   refine ⟨_, rfl, p, _, _, _, rfl, rfl, .of F'.hp, rfl, _, _, rfl, rfl, _, rfl, ?_⟩
   refine ite2 (fun hg => ?_) (fun hg => ?_)
   ·refine ⟨_, rfl, p, _, _, _, rfl, rfl, .of F'.hp, rfl, _, rfl, _, _, rfl, rfl, hm, ?_⟩
    refine ⟨_, rfl, p, _, _, _, rfl, rfl, .of F'.hp, rfl, _, rfl, _, _, rfl, rfl, ⟨hm, hml⟩, _, rfl, p, _, _, _, rfl, rfl, F'.hp, rfl, _, rfl, ?_⟩
    have F2 := F'.upd (i' := i') (j' := j' / m) (k' := k') F'.hi (Int.ediv_nonneg F'.hj (by omega)) F'.hk
    exact k _ _ (Int.emod_nonneg _ (by omega)) (Int.emod_lt_of_pos _ hm) (dr F2 fun b hb => by rw [upd_ne hb]; exact hb' b hb)
   ·
    have tail : ∀ c : Int, tSeq (tAsg (tOp (rI (fun _ j => 0 < j) fun i j => .int (i % j)) (tOp (rI0 fun i j => .int (i + j)) (tOp (rI0 fun i j => .int (i + j)) (tOp (rI CMul fun i j => .int (i * j)) (tOp (rI (fun _ j => 0 < j) fun i j => .int (i % j)) (tVar 3) (tC (.int 2147483647))) (tC (.int 48271))) (tOp (rI CMul fun i j => .int (i * j)) (tC (.int 7919)) (tOp (rIxL K) (tVar 0) (tC (.int 1))))) (tC (.int 12345))) (tC (.int 2147483629))) (gName 4))
      (tSeq (tAsg (tOp (rI (fun _ j => 0 < j) fun i j => .int (i % j)) (tOp (rI CMul fun i j => .int (i * j)) (tVar 4) (tOp (rI0 fun i j => .int (i + j)) (tVar 4) (tC (.int 40692)))) (tC (.int 2147483587))) (gName 4))
       (tRet (tOp (rI (fun _ j => 0 < j) fun i j => .int (i % j)) (tOp (rI (fun _ j => 0 < j) fun i j => .int (i % j)) (tOp (rI CMul fun i j => .int (i * j)) (tVar 4) (tC (.int 16807))) (tC (.int 2147483563))) (tVar 1)))) { nx := fun _ H' => Q .non H', rt := Q } [some (.ref p), some (.int m), none, some (.int c), none] H' := by
     intro c
     refine ⟨_, rfl, _, _, rfl, rfl, (by show (0 : Int) < _; decide), _, _, rfl, rfl, .inl ⟨by omega, by omega⟩, _, rfl, p, _, _, _, rfl, rfl, .of F'.hp, rfl, _, _, rfl, rfl, .inl ⟨by decide, by decide⟩, _, _, rfl, rfl, _, _, rfl, rfl, _, _, rfl, rfl, (by show (0 : Int) < _; decide), ?_⟩
     refine ⟨_, rfl, _, rfl, _, _, rfl, rfl, _, _, rfl, rfl, .inl ⟨by omega, by omega⟩, _, _, rfl, rfl, (by show (0 : Int) < _; decide), ?_⟩
     refine ⟨_, rfl, _, _, rfl, rfl, .inl ⟨by omega, by omega⟩, _, _, rfl, rfl, (by show (0 : Int) < _; decide), _, rfl, _, _, rfl, rfl, hm, ?_⟩
     exact k _ _ (Int.emod_nonneg _ (by omega)) (Int.emod_lt_of_pos _ hm) (dr F' hb')
    refine ⟨_, rfl, p, _, _, _, rfl, rfl, .of F'.hp, rfl, q, _, rfl, .inl (.of F'.hq), _, _, rfl, rfl, _, rfl, ?_⟩
    refine ite2 (fun hl => ?_) (fun hl => ?_)
    ·have hl' : 0 < ns.length := by
      have := of_decide_eq_true hl
      rw [List.length_map] at this; omega
     have hr0 : 0 ≤ i' % (ns.length : Int) ∧ i' % (ns.length : Int) < ns.length := ⟨Int.emod_nonneg _ (by omega), Int.emod_lt_of_pos _ (by omega)⟩
     obtain ⟨rn, hrn⟩ := Int.eq_ofNat_of_zero_le hr0.1
     obtain ⟨z, hz⟩ : ∃ z, ns[rn]? = some z := ⟨_, List.getElem?_eq_getElem (by omega)⟩
     have hz' : atI (ns.map V.int) (i' % ((ns.map V.int).length : Int)) = some (.int z) := by rw [List.length_map, hrn]; exact atI_nat (by rw [List.getElem?_map, hz]; rfl)
     refine ⟨_, rfl, p, _, _, _, rfl, rfl, .of F'.hp, rfl, _, rfl, p, _, _, _, rfl, rfl, .of F'.hp, rfl, _, rfl, p, _, _, _, rfl, rfl, .of F'.hp, rfl, q, _, rfl, .inl (.of F'.hq), _, _, rfl, rfl, (by show (0 : Int) < ((ns.map V.int).length : Int); rw [List.length_map]; omega), q, _, _, _, rfl, rfl, .of F'.hq, hz', ?_⟩
     exact tail z
    ·exact tail 0
end
theorem Feed.mono {H H' : Hp} {p : Addr} (s : Same H H') (F : Feed H p) : Feed H' p := by
 obtain ⟨q, ns, i, j, k, F⟩ := F
 exact ⟨q, ns, i, j, k, F.mono s⟩
theorem Dr.trans {p : Addr} {H H1 H2 : Hp} (a : Dr p H H1) (b : Dr p H1 H2) : Dr p H H2 :=
 ⟨fun c o e n => b.keep c o (a.keep c o e n) n, fun q ns i j k F => let ⟨_, _, _, G⟩ := a.at_ q ns i j k F; b.at_ _ _ _ _ _ G⟩
theorem Dr.refl {p : Addr} {H : Hp} : Dr p H H := ⟨fun _ _ e _ => e, fun _ _ i j k F => ⟨i, j, k, F⟩⟩
theorem Dr.of {p : Addr} {H H1 : Hp} (a : Same H H1) : Dr p H H1 := ⟨fun c o e _ => a c o e, fun _ _ i j k F => ⟨i, j, k, F.mono a⟩⟩
theorem Dr.same {p : Addr} {H H1 H2 : Hp} (a : Dr p H H1) (b : Same H1 H2) : Dr p H H2 := a.trans (.of b)
theorem Dr.updN {p l : Addr} {H H1 : Hp} {o : HO} (a : Dr p H H1) (h : H l = none) : Dr p H (upd H1 l o) :=
 ⟨fun c u e n => by rw [upd_ne (ne_of_none e h)]; exact a.keep c u e n, fun q ns i j k F => by
  obtain ⟨i', j', k', G⟩ := a.at_ q ns i j k F
  exact ⟨i', j', k', by rw [upd_ne (ne_of_none F.hp h)]; exact G.hp, by rw [upd_ne (ne_of_none F.hq h)]; exact G.hq, G.hn, G.hi, G.hj, G.hk⟩⟩
theorem Feed.neT {p a : Addr} {H : Hp} {xs : List V} (F : Feed H p) (h : H a = some (.tup xs)) : a ≠ p := fun e => by
 obtain ⟨q, ns, i, j, k, F⟩ := F
 rw [e, F.hp] at h; cases h
theorem Dr.tup {p a : Addr} {H H' : Hp} {xs : List V} (d : Dr p H H') (F : Feed H p) (h : H a = some (.tup xs)) : H' a = some (.tup xs) := d.keep a _ h (F.neT h)
def wholeB (n : String) : Bool := isaB n "int" && !isaB n "bool"
def elB (c : Int) : V → Bool
 | .int i => decide (0 ≤ i) && decide (i < c)
 | _ => false
def isI : V → Bool
 | .int _ => true
 | _ => false
theorem kd_whole {K : PySem.W.Frag} {H : Hp} {x : V} {n : String} (h : Kd K H x n) : wholeB n = isI x := by
 obtain ⟨h, hm⟩ := h
 generalize ht : Value.type n = t at h
 cases h <;> (try cases ht) <;> first | rfl | decide
theorem kd_isTup {K : PySem.W.Frag} {H : Hp} {x : V} {n : String} (h : Kd K H x n) : isaB n "tuple" = decide (n = "tuple") := by
 unfold isaB
 by_cases e : n = "tuple"
 ·subst e; decide
 ·simp [e]
def spWhole (K : PySem.W.Frag) : Sp := fun vs H Q _ => ∃ x n, vs = [x] ∧ Kd K H x n ∧ Q (.bl (isI x)) H
section
variable {P : Program} {w : World} {K : PySem.W.Frag} {mg : Str → Option Value} {base : Heap}
theorem log_small {m : Int} (h : 0 < m) (h2 : m < 2 ^ 64) : m.natAbs.log2 < 9000 := by
 have := (Nat.log2_lt (n := m.natAbs) (k := 64) (by omega)).mpr (by omega)
 omega
theorem eqvNil (ds : List PyData) : PyData.eqv (.list ds) (.list []) = ds.isEmpty := by
 cases ds with
 | nil => rfl
 | cons d r => rfl
theorem shapedL {ds : List PyData} (h : ∀ d ∈ ds, d.canLay0 = true ∧ d.depth ≤ 10) : SeqAt.shaped (.list ds) = true := by
 have h1 : PyData.canLayAll0 ds = true ∧ PyData.depthAll ds ≤ 10 := by
  induction ds with
  | nil => exact ⟨rfl, Nat.zero_le _⟩
  | cons d r ih =>
   obtain ⟨a, b⟩ := ih fun e he => h e (List.mem_cons_of_mem _ he)
   obtain ⟨c, e⟩ := h d List.mem_cons_self
   exact ⟨by simp only [PyData.canLayAll0, c, a, Bool.and_self], by simp only [PyData.depthAll]; omega⟩
 unfold SeqAt.shaped
 rw [Bool.and_eq_true]
 have h2 : (PyData.list ds).depth ≤ 64 := by simp only [PyData.depth]; omega
 exact ⟨by simp only [PyData.canLay0]; exact h1.1, decide_eq_true h2⟩
end
end C6
namespace Tb
def mul (t : List (List Nat)) (a b : Nat) : Nat := (t.getD a []).getD b 0
def it (t : List (List Nat)) (a : Nat) : Nat → Nat
 | 0 => 0
 | k + 1 => mul t (it t a k) a
structure Rd (t : List (List Nat)) (a r : Nat) : Prop where
 r1 : 1 ≤ r
 rn : r ≤ t.length
 dv : t.length % r = 0
 z : it t a r = 0
 nz : ∀ k, 1 ≤ k → k < r → it t a k ≠ 0
 bk : mul t a (it t a (r - 1)) = 0
 un : ∀ b, b < t.length → mul t a b = 0 → b = it t a (r - 1)
structure PW (t : List (List Nat)) : Prop where
 n1 : 1 ≤ t.length
 n60 : t.length ≤ 60
 len : ∀ row ∈ t, row.length = t.length
 lt : ∀ a b, a < t.length → b < t.length → mul t a b < t.length
 one : ∀ a, a < t.length → mul t 0 a = a
 rd : ∀ a, a < t.length → ∃ r, Rd t a r
section
variable {t : List (List Nat)} {a r : Nat}
end
def rdB (t : List (List Nat)) (n a : Nat) : Nat → Nat → Nat → Bool
 | 0, _, _ => false
 | f + 1, k, prev =>
  let x := mul t prev a
  match x with
  | 0 => decide (n % (k + 1) = 0) && decide (k + 1 ≤ n) && decide (mul t a prev = 0) && ((List.range n).all fun b => decide (b = prev) || !decide (mul t a b = 0))
  | y + 1 => rdB t n a f (k + 1) (y + 1)
def pwB (t : List (List Nat)) : Bool := decide (1 ≤ t.length) && decide (t.length ≤ 60) && (t.all fun row => decide (row.length = t.length) && row.all fun x => decide (x < t.length)) && ((List.range t.length).all fun a => decide (mul t 0 a = a) && rdB t t.length a t.length 0 0)
theorem rdB_of {t : List (List Nat)} {a : Nat} : ∀ (f k prev : Nat), prev = it t a k → (∀ j, 1 ≤ j → j ≤ k → it t a j ≠ 0) → rdB t t.length a f k prev = true → ∃ r, Rd t a r
 | 0, k, prev, _, _, h => by cases h
 | f + 1, k, prev, e, hz, h => by
  unfold rdB at h
  have ex : it t a (k + 1) = mul t prev a := by rw [it, e]
  cases hx : mul t prev a with
  | zero =>
   simp only [hx, Bool.and_eq_true, decide_eq_true_eq, List.all_eq_true, Bool.or_eq_true, Bool.not_eq_true', decide_eq_false_iff_not] at h
   obtain ⟨⟨⟨h1, h2⟩, h3⟩, h4⟩ := h
   refine ⟨k + 1, by omega, h2, h1, by rw [ex, hx], fun j j1 jk => hz j j1 (by omega), by rw [Nat.add_sub_cancel, ← e]; exact h3, fun b hb hm => ?_⟩
   rw [Nat.add_sub_cancel, ← e]
   exact (h4 b (List.mem_range.mpr hb)).resolve_right fun z => z hm
  | succ y =>
   simp only [hx] at h
   refine rdB_of f (k + 1) (y + 1) (by rw [ex, hx]) (fun j j1 jk => ?_) h
   by_cases ej : j = k + 1
   ·rw [ej, ex, hx]
    exact Nat.succ_ne_zero _
   ·exact hz j j1 (by omega)
theorem pwB_of {t : List (List Nat)} (h : pwB t = true) : PW t := by
 unfold pwB at h
 simp only [Bool.and_eq_true, decide_eq_true_eq, List.all_eq_true] at h
 obtain ⟨⟨⟨h1, h2⟩, h3⟩, h4⟩ := h
 refine ⟨h1, h2, fun row hr => (h3 row hr).1, fun a b ha hb => ?_, fun a ha => (h4 a (List.mem_range.mpr ha)).1, fun a ha => ?_⟩
 ·unfold mul
  have hm : t.getD a [] ∈ t := by
   rw [List.getD_eq_getElem?_getD, List.getElem?_eq_getElem ha]
   exact List.getElem_mem ha
  obtain ⟨hl, hx⟩ := h3 _ hm
  generalize t.getD a [] = row at *
  have hb' : b < row.length := by omega
  refine hx _ ?_
  rw [List.getD_eq_getElem?_getD, List.getElem?_eq_getElem hb']
  exact List.getElem_mem hb'
 ·exact rdB_of _ 0 0 rfl (fun j j1 j0 => by omega) (h4 a (List.mem_range.mpr ha)).2
def pos (o : List Nat) (v : Nat) : Nat := o.findIdx (· == v)
def ren (t : List (List Nat)) (o : List Nat) : List (List Nat) := o.map fun a => o.map fun b => pos o (mul t a b)
structure Ord (n : Nat) (o : List Nat) : Prop where
 len : o.length = n
 nd : o.Nodup
 all : ∀ v, v < n → v ∈ o
 lt : ∀ v ∈ o, v < n
 z : o.getD 0 0 = 0
section
variable {t : List (List Nat)} {o : List Nat}
theorem getD_lt {o : List Nat} {i : Nat} (h : i < o.length) : o[i]? = some (o.getD i 0) := by
 rw [List.getD_eq_getElem?_getD, List.getElem?_eq_getElem h]
 rfl
theorem pos_lt {n v : Nat} (O : Ord n o) (hv : v < n) : pos o v < n ∧ o.getD (pos o v) 0 = v := by
 have hm := O.all v hv
 have h1 : o.findIdx (· == v) < o.length := List.findIdx_lt_length_of_exists ⟨v, hm, by simp⟩
 refine ⟨by rw [← O.len]; exact h1, ?_⟩
 have h2 := List.findIdx_getElem (w := h1)
 have h3 : o[o.findIdx (· == v)] = v := by simpa using h2
 unfold pos
 rw [List.getD_eq_getElem?_getD, List.getElem?_eq_getElem h1]
 exact h3
theorem inj {n i j : Nat} (O : Ord n o) (hi : i < n) (hj : j < n) (e : o.getD i 0 = o.getD j 0) : i = j := by
 have h1 := getD_lt (o := o) (i := i) (by rw [O.len]; exact hi)
 have h2 := getD_lt (o := o) (i := j) (by rw [O.len]; exact hj)
 rw [e] at h1
 exact (List.getElem?_inj (by rw [O.len]; exact hi) O.nd).mp (h1.trans h2.symm)
theorem o_lt {n i : Nat} (O : Ord n o) (hi : i < n) : o.getD i 0 < n := O.lt _ (List.mem_of_getElem? (getD_lt (by rw [O.len]; exact hi)))
theorem ren_len : (ren t o).length = o.length := by unfold ren; rw [List.length_map]
theorem mul_ren {n i j : Nat} (O : Ord n o) (hi : i < n) (hj : j < n) : mul (ren t o) i j = pos o (mul t (o.getD i 0) (o.getD j 0)) := by
 unfold mul ren
 have h1 := getD_lt (o := o) (i := i) (by rw [O.len]; exact hi)
 have h2 := getD_lt (o := o) (i := j) (by rw [O.len]; exact hj)
 rw [List.getD_eq_getElem?_getD (l := o.map _), List.getElem?_map, h1]
 show (o.map fun b => pos o ((t.getD (o.getD i 0) []).getD b 0)).getD j 0 = _
 rw [List.getD_eq_getElem?_getD, List.getElem?_map, h2]
 rfl
theorem pw_ren (P : PW t) (O : Ord t.length o) : PW (ren t o) := by
 have L : (ren t o).length = t.length := by rw [ren_len, O.len]
 have back : ∀ i j, i < t.length → j < t.length → o.getD (mul (ren t o) i j) 0 = mul t (o.getD i 0) (o.getD j 0) := fun i j hi hj => by
  rw [mul_ren O hi hj]
  exact (pos_lt O (P.lt _ _ (o_lt O hi) (o_lt O hj))).2
 have lt : ∀ i j, i < t.length → j < t.length → mul (ren t o) i j < t.length := fun i j hi hj => by
  rw [mul_ren O hi hj]
  exact (pos_lt O (P.lt _ _ (o_lt O hi) (o_lt O hj))).1
 have n1 := P.n1
 have itb : ∀ a, a < t.length → ∀ k, it (ren t o) a k < t.length ∧ o.getD (it (ren t o) a k) 0 = it t (o.getD a 0) k := fun a ha k => by
  induction k with
  | zero => exact ⟨n1, O.z⟩
  | succ k ih =>
   rw [it, it]
   exact ⟨lt _ _ ih.1 ha, by rw [back _ _ ih.1 ha, ih.2]⟩
 have zz : ∀ i, i < t.length → (i = 0 ↔ o.getD i 0 = 0) := fun i hi => by
  constructor
  ·intro e; rw [e, O.z]
  ·intro e; exact inj O hi n1 (by rw [e, O.z])
 refine ⟨by omega, by have := P.n60; omega, fun row hr => ?_, fun a b ha hb => by rw [L]; exact lt a b (by omega) (by omega), fun a ha => ?_, fun a ha => ?_⟩
 ·unfold ren at hr
  obtain ⟨a, _, rfl⟩ := List.mem_map.mp hr
  rw [List.length_map, ren_len]
 ·refine inj O (lt 0 a n1 (by omega)) (by omega) ?_
  rw [back 0 a n1 (by omega), O.z, P.one _ (o_lt O (by omega))]
 ·have ha' : a < t.length := by omega
  obtain ⟨r, R⟩ := P.rd _ (o_lt O ha')
  have key : ∀ k, it (ren t o) a k = 0 ↔ it t (o.getD a 0) k = 0 := fun k => by
   rw [zz _ (itb a ha' k).1, (itb a ha' k).2]
  refine ⟨r, R.r1, by rw [L]; exact R.rn, by rw [L]; exact R.dv, (key r).mpr R.z, fun k k1 kr z => R.nz k k1 kr ((key k).mp z), ?_, fun b hb hm => ?_⟩
  ·refine (zz _ (lt _ _ ha' (itb a ha' _).1)).mpr ?_
   rw [back _ _ ha' (itb a ha' _).1, (itb a ha' _).2]
   exact R.bk
  ·have hb' : b < t.length := by omega
   refine inj O hb' (itb a ha' _).1 ?_
   rw [(itb a ha' _).2]
   refine R.un _ (o_lt O hb') ?_
   rw [← back a b ha' hb', hm, O.z]
end
end Tb
namespace C6
open PySem L2 PySem.Spec PyProof.Rows
open Tb
def nV (k : Nat) : V := .int (k : Int)
theorem Tt.dr {H H' : Hp} {r p : Addr} {ys : List V} (F : Feed H p) (d : Dr p H H') (h : Tt H r ys) : Tt H' r ys := d.tup F h
def GT (H : Hp) (g : Addr) (t : List (List Nat)) : Prop := ∃ rs : List Addr, H g = some (.tup (rs.map V.ref)) ∧ rs.length = t.length ∧ ∀ (i : Nat) r, rs[i]? = some r → Tt H r ((t.getD i []).map nV)
theorem GT.mono {H H' : Hp} {g : Addr} {t : List (List Nat)} (s : Same H H') (G : GT H g t) : GT H' g t := by
 obtain ⟨rs, h1, h2, h3⟩ := G
 exact ⟨rs, s _ _ h1, h2, fun i r hr => (h3 i r hr).mono s⟩
theorem GT.dr {H H' : Hp} {g p : Addr} {t : List (List Nat)} (F : Feed H p) (d : Dr p H H') (G : GT H g t) : GT H' g t := by
 obtain ⟨rs, h1, h2, h3⟩ := G
 exact ⟨rs, d.tup F h1, h2, fun i r hr => Tt.dr F d (h3 i r hr)⟩
theorem row_len {t : List (List Nat)} (P : PW t) {a : Nat} (ha : a < t.length) : (t.getD a []).length = t.length := by
 refine P.len _ ?_
 rw [List.getD_eq_getElem?_getD, List.getElem?_eq_getElem ha]
 exact List.getElem_mem ha
theorem row_at {t : List (List Nat)} (P : PW t) {a b : Nat} (ha : a < t.length) (hb : b < t.length) : ((t.getD a []).map nV)[b]? = some (.int (mul t a b : Nat)) := by
 have hl := row_len P ha
 unfold mul
 generalize t.getD a [] = row at *
 rw [List.getElem?_map, List.getElem?_eq_getElem (show b < row.length by omega), List.getD_eq_getElem?_getD, List.getElem?_eq_getElem (show b < row.length by omega)]
 rfl
theorem GT.at {H : Hp} {g : Addr} {t : List (List Nat)} (G : GT H g t) (P : PW t) {a : Nat} (ha : a < t.length) : ∃ (rs : List Addr) (r : Addr), H g = some (.tup (rs.map V.ref)) ∧ rs.length = t.length ∧ atI (rs.map V.ref) (a : Int) = some (.ref r) ∧ Tt H r ((t.getD a []).map nV) ∧ ∀ b, b < t.length → atI ((t.getD a []).map nV) (b : Int) = some (.int (mul t a b : Nat)) := by
 obtain ⟨rs, h1, h2, h3⟩ := G
 have hr : rs[a]? = some (rs[a]'(by omega)) := List.getElem?_eq_getElem (by omega)
 exact ⟨rs, _, h1, h2, atI_nat (by rw [List.getElem?_map, hr]; rfl), h3 a _ hr, fun b hb => atI_nat (row_at P ha hb)⟩
section
variable {P : Program} {w : World} {K : PySem.W.Frag} {mg : Str → Option Value} {base : Heap}
end
abbrev sTw : Stmt := top 26
abbrev sEight : Stmt := top 27
abbrev sPut : Stmt := top 29
def RowsAt (H : Hp) (L : Addr) (rs : List Addr) (f : Nat → List Nat) : Prop := H L = some (.lst (rs.map V.ref)) ∧ ∀ (i : Nat) r, rs[i]? = some r → Tt H r ((f i).map nV)
theorem RowsAt.mono {H H' : Hp} {L : Addr} {rs : List Addr} {f : Nat → List Nat} (s : Same H H') (R : RowsAt H L rs f) : RowsAt H' L rs f := ⟨s _ _ R.1, fun i r hr => (R.2 i r hr).mono s⟩
theorem RowsAt.push {H : Hp} {L : Addr} {rs : List Addr} {f : Nat → List Nat} {r : Addr} (R : RowsAt H L rs f) (h : Tt H r ((f rs.length).map nV)) : RowsAt (upd H L (.lst (rs.map V.ref ++ [.ref r]))) L (rs ++ [r]) f := by
 have ne : ∀ {b ys}, Tt H b ys → Tt (upd H L (.lst (rs.map V.ref ++ [.ref r]))) b ys := fun {b ys} hb => by
  have h1 : H b = some (.tup ys) := hb
  show upd H L (.lst (rs.map V.ref ++ [.ref r])) b = some (.tup ys)
  rw [upd_ne (fun z => by rw [z, R.1] at h1; cases h1)]
  exact h1
 refine ⟨by rw [upd_same, List.map_append]; rfl, fun i b hb => ?_⟩
 by_cases hi : i < rs.length
 ·rw [List.getElem?_append_left hi] at hb
  exact ne (R.2 i b hb)
 ·rw [List.getElem?_append_right (by omega)] at hb
  have e0 : i - rs.length = 0 := by
   apply Classical.byContradiction
   intro z
   rw [List.getElem?_eq_none (by rw [List.length_singleton]; omega)] at hb
   cases hb
  rw [e0] at hb
  cases hb
  have : i = rs.length := by omega
  rw [this]
  exact ne h
def stM (m u : Nat) : Nat → Nat
 | 0 => 1 % m
 | k + 1 => stM m u k * u % m
def twE (m many u x y : Nat) : Nat := (x % m + stM m u (x / m) * (y % m)) % m + m * ((x / m + y / m) % many)
def tw (m many u : Nat) : List (List Nat) := (List.range (m * many)).map fun x => (List.range (m * many)).map (twE m many u x)
theorem GT_of {H H' : Hp} {L g : Addr} {rs : List Addr} {f : Nat → List Nat} {n : Nat} (R : RowsAt H L rs f) (hl : rs.length = n) (s : Same H H') (hg : H' g = some (.tup (rs.map V.ref))) : GT H' g ((List.range n).map f) := by
 refine ⟨rs, hg, by rw [hl, List.length_map, List.length_range], fun i r hr => ?_⟩
 have hi : i < n := by rw [← hl]; exact (List.getElem?_eq_some_iff.mp hr).1
 rw [List.getD_eq_getElem?_getD, List.getElem?_map, List.getElem?_range hi]
 exact (R.2 i r hr).mono s
def spTw : Sp := fun vs H Q _ => ∃ (m many u : Nat), vs = [.int m, .int many, .int u] ∧ 1 ≤ m ∧ 1 ≤ many ∧ m * many ≤ 62 ∧ u ≤ 62 ∧ m ≤ 62 ∧ many ≤ 62 ∧ ∀ g H', Same H H' → GT H' g (tw m many u) → Q (.ref g) H'
section
variable {P : Program} {w : World} {K : PySem.W.Frag} {mg : Str → Option Value} {base : Heap}
theorem scTw : FnScope ["_law_m", "_law_many", "_law_u", "_law_steps", "_law_s", "_law_rows", "_law_x", "_law_a", "_law_row", "_law_y", "_law_first"] ["_law_m", "_law_many", "_law_u"] (defScope sTw) := FS
theorem ok_tw {f : Addr} {fd : FuncData} (F : Fun K "_law_twined" "_law_twined" sTw f fd) (T : Bl mg) : FnOk P w K mg base CX0 1 f fd ["_law_m", "_law_many", "_law_u"] spTw := by
 refine F.ok scTw (fun vs H Q E h => ?_) (fun cdv A outer s H vs Q E hr h => ?_)
 ·obtain ⟨m, many, u, rfl, _⟩ := h; rfl
 ·obtain ⟨m, many, u, rfl, m1, k1, mk, u60, m60, k60, q⟩ := h
  refine ⟨_, pss_cons (sset 3 rfl (pe_lst (pc (pe_op op_mod pe_int (vn 0)) pa_nil)))
   (pss_cons (ps_for PassesOwn.never rfl (rng1 T.range (pc (pe_op op_sub (vn 1) pe_int) pa_nil)) (gn 4)
    (pss_one (ps_expr (pe_bm PySem.F.plainAttrs_list PySem.F.slot_list_append PySem.F.type_list_append mt_append (vn 3) (pc (pe_op op_mod (pe_op op_mul (pe_ix (ixL K) (vn 3) (pe_un un_neg pe_int) (fun _ _ => rfl)) (vn 2)) (vn 0)) pa_nil)))))
   (pss_cons (sset 5 rfl (pe_lst pa_nil))
   (pss_cons (ps_for PassesOwn.never rfl (rng1 T.range (pc (pe_op op_mul (vn 0) (vn 1)) pa_nil)) (gn 6)
    (pss_cons (par2 7 4 rfl (pc (pe_op op_mod (vn 6) (vn 0)) (pc (pe_op op_fdiv (vn 6) (vn 0)) pa_nil)))
    (pss_cons (sset 8 rfl (pe_lst pa_nil))
    (pss_cons (ps_for PassesOwn.never rfl (rng1 T.range (pc (pe_op op_mul (vn 0) (vn 1)) pa_nil)) (gn 9)
     (pss_cons (sset 10 rfl (pe_op op_mod (pe_op op_add (vn 7) (pe_op op_mul (pe_ix (ixL K) (vn 3) (vn 4) (fun _ _ => rfl)) (pe_op op_mod (vn 9) (vn 0)))) (vn 0)))
     (pss_one (ps_expr (pe_bm PySem.F.plainAttrs_list PySem.F.slot_list_append PySem.F.type_list_append mt_append (vn 8) (pc (pe_op op_add (vn 10) (pe_op op_mul (vn 0) (pe_op op_mod (pe_op op_add (vn 4) (pe_op op_fdiv (vn 9) (vn 0))) (vn 1)))) pa_nil))))))
    (pss_one (ps_expr (pe_bm PySem.F.plainAttrs_list PySem.F.slot_list_append PySem.F.type_list_append mt_append (vn 5) (pc (ct call_tupleW T.tuple (pc (vn 8) pa_nil)) pa_nil))))))))
   (pss_one (ps_ret (ct call_tuple_of T.tuple (pc (vn 5) pa_nil))))))), ?_⟩
  have sz : (16777216 : Nat) = sizeLine := by decide
  refine ⟨_, rfl, _, _, rfl, rfl, (by show (0 : Int) < m; omega), (by show 1 ≤ sizeLine; decide), fun S nS => ?_⟩
  refine ⟨_, rfl, _, _, rfl, rfl, (many : Int) - 1, rfl, by omega, by omega, ?_⟩
  have ek : ((many : Int) - 1).toNat = many - 1 := by omega
  rw [ek]
  refine for_range (fun i σ' H' => ∃ v4 : Option V, σ' = [some (.int m), some (.int many), some (.int u), some (.ref S), v4, none, none, none, none, none, none] ∧ Same H H' ∧ H' S = some (.lst ((List.range (i + 1)).map fun k => nV (stM m u k)))) ⟨_, rfl, Same.upd nS, by rw [upd_same]; rfl⟩ ?_ ?_
  ·rintro i σ' H' hi ⟨v4, rfl, sm, hS⟩
   have hlast : atI ((List.range (i + 1)).map fun k => nV (stM m u k)) (-1) = some (nV (stM m u i)) := by
    rw [List.range_succ, List.map_append]
    exact atI_last _ _
   refine ⟨_, rfl, .inl ⟨rfl, _, .of hS⟩, _, rfl, _, rfl, S, _, _, _, rfl, rfl, .of hS, hlast, _, rfl, _, _, rfl, rfl, .inr ⟨by omega, by omega⟩, _, rfl, _, _, rfl, rfl, (by show (0 : Int) < m; omega), S, _, _, rfl, rfl, hS, by rw [List.length_map, List.length_range]; omega, _, rfl, sm.updr nS, ?_⟩
   rw [upd_same, List.range_succ (n := i + 1), List.map_append]
   rfl
  rintro σ' H1 ⟨v4, rfl, s1, hS⟩
  rw [show many - 1 + 1 = many by omega] at hS
  refine ⟨(by show 0 ≤ sizeLine; decide), fun L nL => ?_⟩
  have s2 := s1.trans (Same.upd (o := .lst []) nL)
  have nLH : H L = none := s1.free nL
  have eN : V.int ((m : Int) * (many : Int)) = V.int ((m * many : Nat) : Int) := congrArg V.int (by push_cast; rfl)
  have eNi : (m : Int) * (many : Int) = ((m * many : Nat) : Int) := by push_cast; rfl
  refine ⟨_, rfl, _, rfl, _, _, rfl, rfl, .inl ⟨by omega, by omega⟩, (m : Int) * (many : Int), rfl, by rw [eNi]; omega, by rw [eNi]; omega, ?_⟩
  rw [eNi, Int.toNat_natCast]
  have hS2 := Same.upd (H := H1) (o := .lst []) nL _ _ hS
  refine for_range (fun x σ' H' => ∃ (rs : List Addr) (v4 v6 v7 v8 v9 v10 : Option V), σ' = [some (.int m), some (.int many), some (.int u), some (.ref S), v4, some (.ref L), v6, v7, v8, v9, v10] ∧ Same H H' ∧ H' S = some (.lst ((List.range many).map fun k => nV (stM m u k))) ∧ RowsAt H' L rs (fun x => (List.range (m * many)).map (twE m many u x)) ∧ rs.length = x)
   ⟨[], _, _, _, _, _, _, rfl, s2, hS2, ⟨upd_same, fun i r hr => by cases hr⟩, rfl⟩ ?_ ?_
  ·rintro x σ' H2 hx ⟨rs, v4, v6, v7, v8, v9, v10, rfl, sm, hSx, R, rl⟩
   rw [show (0 : Int) + (x : Int) = (x : Int) by omega]
   have eA : V.int ((x : Int) % (m : Int)) = V.int ((x % m : Nat) : Int) := congrArg V.int (by push_cast; rfl)
   have eS : V.int ((x : Int) / (m : Int)) = V.int ((x / m : Nat) : Int) := congrArg V.int (by push_cast; rfl)
   refine ⟨_, rfl, _, rfl, _, _, rfl, rfl, (by show (0 : Int) < m; omega), _, rfl, _, rfl, _, _, rfl, rfl, ⟨(by show (0 : Int) < m; omega), (by show (m : Int) < 1073741824; omega)⟩, _, _, rfl, ?_⟩
   dsimp only
   rw [eA, eS]
   have xs : x / m < many := Nat.div_lt_of_lt_mul hx
   refine ⟨(by show 0 ≤ sizeLine; decide), fun l nl => ?_⟩
   have nlH : H l = none := sm.free nl
   have s3 := Same.upd (H := H2) (o := .lst []) nl
   refine ⟨_, rfl, _, rfl, _, _, rfl, rfl, .inl ⟨by omega, by omega⟩, (m : Int) * (many : Int), rfl, by rw [eNi]; omega, by rw [eNi]; omega, ?_⟩
   rw [eNi, Int.toNat_natCast]
   refine for_range (fun y σ'' H' => ∃ (w9 w10 : Option V), σ'' = [some (.int m), some (.int many), some (.int u), some (.ref S), some (.int (x / m : Nat)), some (.ref L), some (.int x), some (.int (x % m : Nat)), some (.ref l), w9, w10] ∧ Same H2 H' ∧ H' l = some (.lst (((List.range y).map (twE m many u x)).map nV)))
    ⟨_, _, rfl, s3, upd_same⟩ ?_ ?_
   ·rintro y σ'' H' hy ⟨w9, w10, rfl, sm', hl⟩
    rw [show (0 : Int) + (y : Int) = (y : Int) by omega]
    have hSy := sm' _ _ hSx
    have hat : atI ((List.range many).map fun k => nV (stM m u k)) ((x / m : Nat) : Int) = some (nV (stM m u (x / m))) := atI_nat (by rw [List.getElem?_map, List.getElem?_range xs]; rfl)
    refine ⟨_, rfl, _, rfl, _, rfl, S, _, _, _, rfl, rfl, .of hSy, hat, _, rfl, _, rfl, _, _, rfl, rfl, (by show (0 : Int) < m; omega), _, _, rfl, rfl, .inr ⟨?_, ?_⟩, _, _, rfl, rfl, _, rfl, _, _, rfl, rfl, (by show (0 : Int) < m; omega), ?_⟩
    ·have := Int.emod_nonneg (y : Int) (show (m : Int) ≠ 0 by omega); omega
    ·have := Int.emod_lt_of_pos (y : Int) (show (0 : Int) < m by omega); omega
    refine ⟨_, rfl, .inl ⟨rfl, _, .of hl⟩, _, rfl, _, rfl, _, rfl, _, rfl, _, rfl, _, _, rfl, rfl, ⟨(by show (0 : Int) < m; omega), (by show (m : Int) < 1073741824; omega)⟩, _, _, rfl, rfl, _, rfl, _, _, rfl, rfl, (by show (0 : Int) < many; omega), _, _, rfl, rfl, .inl ⟨by omega, by omega⟩, _, _, rfl, rfl, l, _, _, rfl, rfl, hl, by rw [List.length_map, List.length_map, List.length_range]; omega, ?_⟩
    refine ⟨_, _, rfl, sm'.updr nl, ?_⟩
    rw [upd_same, List.range_succ, List.map_append, List.map_append]
    rfl
   ·rintro σ'' H3 ⟨w9, w10, rfl, sm', hl⟩
    have R3 := R.mono sm'
    refine ⟨_, rfl, .inl ⟨rfl, _, .of R3.1⟩, _, rfl, l, _, rfl, .of hl, fun tr H4 nt s4 hz => ?_⟩
    have R4 := R3.mono s4
    refine ⟨L, _, _, rfl, rfl, R4.1, by rw [List.length_map]; omega, ?_⟩
    refine ⟨rs ++ [tr], _, _, _, _, _, _, rfl, ((sm.trans sm').trans s4).updr nLH, ?_, R4.push (by rw [rl]; exact hz), by rw [List.length_append, List.length_singleton, rl]⟩
    have hS4 := (sm'.trans s4) _ _ hSx
    rw [upd_ne (fun z => ?_)]
    ·exact hS4
    ·have hL1 := R4.1
     rw [← z, hS4] at hL1
     have hh := Option.some.inj hL1
     injection hh with hh
     cases hrs : rs with
     | nil =>
      rw [hrs] at hh
      have := congrArg List.length hh
      rw [List.length_map, List.length_range] at this
      simp at this
      omega
     | cons a b =>
      rw [hrs] at hh
      have := congrArg List.head? hh
      obtain ⟨kk, hkk⟩ : ∃ kk, many = kk + 1 := ⟨many - 1, by omega⟩
      rw [hkk, List.range_succ_eq_map, List.map_cons, List.head?_cons] at this
      cases this
  ·rintro σ' H2 ⟨rs, v4, v6, v7, v8, v9, v10, rfl, sm, hSx, R, rl⟩
   refine ⟨_, rfl, L, _, rfl, .inl ⟨.of R.1, fun gg ngg => ?_⟩⟩
   exact q gg _ (sm.trans (Same.upd ngg)) (GT_of R rl (Same.upd ngg) upd_same)
end
def egI (m x y : Nat) : Int := (((x % (2 * m) : Nat) : Int) + (if x / (2 * m) = 0 then ((y % (2 * m) : Nat) : Int) else -((y % (2 * m) : Nat) : Int)) + (m : Int) * ((x / (2 * m) : Nat) : Int) * ((y / (2 * m) : Nat) : Int)) % (2 * (m : Int))
def egE (m x y : Nat) : Nat := (egI m x y).toNat + 2 * m * ((x / (2 * m) + y / (2 * m)) % 2)
def eg (m : Nat) : List (List Nat) := (List.range (4 * m)).map fun x => (List.range (4 * m)).map (egE m x)
def ptE (t1 t2 : List (List Nat)) (x y : Nat) : Nat := mul t1 (x / t2.length) (y / t2.length) * t2.length + mul t2 (x % t2.length) (y % t2.length)
def pt (t1 t2 : List (List Nat)) : List (List Nat) := (List.range (t1.length * t2.length)).map fun x => (List.range (t1.length * t2.length)).map (ptE t1 t2 x)
def spEight : Sp := fun vs H Q _ => ∃ (m : Nat), vs = [.int m] ∧ 1 ≤ m ∧ 4 * m ≤ 60 ∧ ∀ g H', Same H H' → GT H' g (eg m) → Q (.ref g) H'
def spPut : Sp := fun vs H Q _ => ∃ (g1 g2 : Addr) (t1 t2 : List (List Nat)), vs = [.ref g1, .ref g2] ∧ GT H g1 t1 ∧ GT H g2 t2 ∧ PW t1 ∧ PW t2 ∧ t1.length * t2.length ≤ 60 ∧ ∀ g H', Same H H' → GT H' g (pt t1 t2) → Q (.ref g) H'
section
variable {P : Program} {w : World} {K : PySem.W.Frag} {mg : Str → Option Value} {base : Heap}
theorem scEight : FnScope ["_law_m", "_law_rows", "_law_x", "_law_a", "_law_s", "_law_row", "_law_y", "_law_b", "_law_t", "_law_first"] ["_law_m"] (defScope sEight) := FS
theorem ok_eight {f : Addr} {fd : FuncData} (F : Fun K "_law_eight" "_law_eight" sEight f fd) (T : Bl mg) : FnOk P w K mg base CX0 1 f fd ["_law_m"] spEight := by
 refine F.ok scEight (fun vs H Q E h => ?_) (fun cdv A outer s H vs Q E hr h => ?_)
 ·obtain ⟨m, rfl, _⟩ := h; rfl
 ·obtain ⟨m, rfl, m1, m60, q⟩ := h
  refine ⟨_, pss_cons (sset 1 rfl (pe_lst pa_nil))
   (pss_cons (ps_for PassesOwn.never rfl (rng1 T.range (pc (pe_op op_mul pe_int (vn 0)) pa_nil)) (gn 2)
    (pss_cons (par2 3 4 rfl (pc (pe_op op_mod (vn 2) (pe_op op_mul pe_int (vn 0))) (pc (pe_op op_fdiv (vn 2) (pe_op op_mul pe_int (vn 0))) pa_nil)))
    (pss_cons (sset 5 rfl (pe_lst pa_nil))
    (pss_cons (ps_for PassesOwn.never rfl (rng1 T.range (pc (pe_op op_mul pe_int (vn 0)) pa_nil)) (gn 6)
     (pss_cons (par2 7 8 rfl (pc (pe_op op_mod (vn 6) (pe_op op_mul pe_int (vn 0))) (pc (pe_op op_fdiv (vn 6) (pe_op op_mul pe_int (vn 0))) pa_nil)))
     (pss_cons (sset 9 rfl (pe_op op_mod (pe_op op_add (pe_op op_add (vn 3) (pe_ix (ixL K) (pe_lst (pc (vn 7) (pc (pe_un un_neg (vn 7)) pa_nil))) (vn 4) (fun _ _ => rfl))) (pe_op op_mul (pe_op op_mul (vn 0) (vn 4)) (vn 8))) (pe_op op_mul pe_int (vn 0))))
     (pss_one (ps_expr (pe_bm PySem.F.plainAttrs_list PySem.F.slot_list_append PySem.F.type_list_append mt_append (vn 5) (pc (pe_op op_add (vn 9) (pe_op op_mul (pe_op op_mul pe_int (vn 0)) (pe_op op_mod (pe_op op_add (vn 4) (vn 8)) pe_int))) pa_nil)))))))
    (pss_one (ps_expr (pe_bm PySem.F.plainAttrs_list PySem.F.slot_list_append PySem.F.type_list_append mt_append (vn 1) (pc (ct call_tupleW T.tuple (pc (vn 5) pa_nil)) pa_nil))))))))
   (pss_one (ps_ret (ct call_tuple_of T.tuple (pc (vn 1) pa_nil))))), ?_⟩
  have sz : (16777216 : Nat) = sizeLine := by decide
  refine ⟨(by show 0 ≤ sizeLine; decide), fun L nL => ?_⟩
  have s2 := Same.upd (H := H) (o := .lst []) nL
  have eNi : (4 : Int) * (m : Int) = ((4 * m : Nat) : Int) := by push_cast; rfl
  refine ⟨_, rfl, _, _, rfl, rfl, .inl ⟨by omega, by omega⟩, (4 : Int) * (m : Int), rfl, by omega, by omega, ?_⟩
  rw [eNi, Int.toNat_natCast]
  refine for_range (fun x σ' H' => ∃ (rs : List Addr) (v2 v3 v4 v5 v6 v7 v8 v9 : Option V), σ' = [some (.int m), some (.ref L), v2, v3, v4, v5, v6, v7, v8, v9] ∧ Same H H' ∧ RowsAt H' L rs (fun x => (List.range (4 * m)).map (egE m x)) ∧ rs.length = x)
   ⟨[], _, _, _, _, _, _, _, _, rfl, s2, ⟨upd_same, fun i r hr => by cases hr⟩, rfl⟩ ?_ ?_
  ·rintro x σ' H2 hx ⟨rs, v2, v3, v4, v5, v6, v7, v8, v9, rfl, sm, R, rl⟩
   rw [show (0 : Int) + (x : Int) = (x : Int) by omega]
   have eA : V.int ((x : Int) % (2 * (m : Int))) = V.int ((x % (2 * m) : Nat) : Int) := congrArg V.int (by push_cast; rfl)
   have eS : V.int ((x : Int) / (2 * (m : Int))) = V.int ((x / (2 * m) : Nat) : Int) := congrArg V.int (by push_cast; rfl)
   refine ⟨_, rfl, _, rfl, _, _, rfl, rfl, .inl ⟨by omega, by omega⟩, _, _, rfl, rfl, (by show (0 : Int) < 2 * (m : Int); omega), _, rfl, _, rfl, _, _, rfl, rfl, .inl ⟨by omega, by omega⟩, _, _, rfl, rfl, ⟨(by show (0 : Int) < 2 * (m : Int); omega), (by show (2 * (m : Int)) < 1073741824; omega)⟩, _, _, rfl, ?_⟩
   dsimp only
   rw [eA, eS]
   have xs : x / (2 * m) < 2 := Nat.div_lt_of_lt_mul (by omega)
   refine ⟨(by show 0 ≤ sizeLine; decide), fun l nl => ?_⟩
   have s3 := Same.upd (H := H2) (o := .lst []) nl
   refine ⟨_, rfl, _, _, rfl, rfl, .inl ⟨by omega, by omega⟩, (4 : Int) * (m : Int), rfl, by omega, by omega, ?_⟩
   rw [eNi, Int.toNat_natCast]
   refine for_range (fun y σ'' H' => ∃ (w6 w7 w8 w9 : Option V), σ'' = [some (.int m), some (.ref L), some (.int x), some (.int (x % (2 * m) : Nat)), some (.int (x / (2 * m) : Nat)), some (.ref l), w6, w7, w8, w9] ∧ Same H2 H' ∧ H' l = some (.lst (((List.range y).map (egE m x)).map nV)))
    ⟨_, _, _, _, rfl, s3, upd_same⟩ ?_ ?_
   ·rintro y σ'' H' hy ⟨w6, w7, w8, w9, rfl, sm', hl⟩
    rw [show (0 : Int) + (y : Int) = (y : Int) by omega]
    have eB : V.int ((y : Int) % (2 * (m : Int))) = V.int ((y % (2 * m) : Nat) : Int) := congrArg V.int (by push_cast; rfl)
    have eT : V.int ((y : Int) / (2 * (m : Int))) = V.int ((y / (2 * m) : Nat) : Int) := congrArg V.int (by push_cast; rfl)
    have ys : y / (2 * m) < 2 := Nat.div_lt_of_lt_mul (by omega)
    refine ⟨_, rfl, _, rfl, _, _, rfl, rfl, .inl ⟨by omega, by omega⟩, _, _, rfl, rfl, (by show (0 : Int) < 2 * (m : Int); omega), _, rfl, _, rfl, _, _, rfl, rfl, .inl ⟨by omega, by omega⟩, _, _, rfl, rfl, ⟨(by show (0 : Int) < 2 * (m : Int); omega), (by show (2 * (m : Int)) < 1073741824; omega)⟩, _, _, rfl, ?_⟩
    dsimp only
    rw [eB, eT]
    refine ⟨_, rfl, _, rfl, _, rfl, _, rfl, (by show 2 ≤ sizeLine; decide), fun l2 nl2 => ?_⟩
    have s4 := Same.upd (H := H') (o := .lst [.int (y % (2 * m) : Nat), .int (-((y % (2 * m) : Nat) : Int))]) nl2
    have hat : atI [V.int ((y % (2 * m) : Nat) : Int), V.int (-((y % (2 * m) : Nat) : Int))] ((x / (2 * m) : Nat) : Int) = some (.int (if x / (2 * m) = 0 then ((y % (2 * m) : Nat) : Int) else -((y % (2 * m) : Nat) : Int))) := by
     by_cases h0 : x / (2 * m) = 0
     ·rw [h0, if_pos rfl]; exact atI_nat (j := 0) rfl
     ·have : x / (2 * m) = 1 := by
       have h2 := xs
       generalize x / (2 * m) = z at *
       omega
      rw [this, if_neg (by decide)]; exact atI_nat (j := 1) rfl
    have hl2 := s4 _ _ hl
    have bx : ((x / (2 * m) : Nat) : Int) < 2 := by
     have h2 := xs
     generalize x / (2 * m) = z at *
     omega
    have bx0 : (0 : Int) ≤ ((x / (2 * m) : Nat) : Int) := Int.natCast_nonneg _
    have by' : ((y / (2 * m) : Nat) : Int) < 2 := by
     have h2 := ys
     generalize y / (2 * m) = z at *
     omega
    have by0 : (0 : Int) ≤ ((y / (2 * m) : Nat) : Int) := Int.natCast_nonneg _
    refine ⟨_, rfl, l2, _, _, _, rfl, rfl, .of upd_same, hat, _, _, rfl, rfl, _, rfl, _, rfl, _, _, rfl, rfl, .inl ⟨by omega, by omega⟩, _, rfl, _, _, rfl, rfl, .inr ⟨by omega, by omega⟩, _, _, rfl, rfl, _, rfl, _, _, rfl, rfl, .inl ⟨by omega, by omega⟩, _, _, rfl, rfl, (by show (0 : Int) < 2 * (m : Int); omega), ?_⟩
    refine ⟨_, rfl, .inl ⟨rfl, _, .of hl2⟩, _, rfl, _, rfl, _, _, rfl, rfl, .inl ⟨by omega, by omega⟩, _, rfl, _, rfl, _, _, rfl, rfl, _, _, rfl, rfl, (by show (0 : Int) < 2; decide), _, _, rfl, rfl, .inl ⟨by omega, by omega⟩, _, _, rfl, rfl, l, _, _, rfl, rfl, hl2, by rw [List.length_map, List.length_map, List.length_range]; omega, ?_⟩
    refine ⟨_, _, _, _, rfl, (sm'.trans s4).updr nl, ?_⟩
    have e0 : (0 : Int) ≤ egI m x y := Int.emod_nonneg _ (by omega)
    have eE : (egI m x y + 2 * (m : Int) * ((((x / (2 * m) : Nat) : Int) + ((y / (2 * m) : Nat) : Int)) % 2)) = ((egE m x y : Nat) : Int) := by
     unfold egE
     push_cast
     rw [Int.toNat_of_nonneg e0]
    rw [upd_same, List.range_succ, List.map_append, List.map_append]
    show some (HO.lst (_ ++ [V.int (egI m x y + 2 * (m : Int) * ((((x / (2 * m) : Nat) : Int) + ((y / (2 * m) : Nat) : Int)) % 2))])) = _
    rw [eE]
    rfl
   ·rintro σ'' H3 ⟨w6, w7, w8, w9, rfl, sm', hl⟩
    have R3 := R.mono sm'
    refine ⟨_, rfl, .inl ⟨rfl, _, .of R3.1⟩, _, rfl, l, _, rfl, .of hl, fun tr H4 nt s4 hz => ?_⟩
    have R4 := R3.mono s4
    refine ⟨L, _, _, rfl, rfl, R4.1, by rw [List.length_map]; omega, ?_⟩
    exact ⟨rs ++ [tr], _, _, _, _, _, _, _, _, rfl, ((sm.trans sm').trans s4).updr nL, R4.push (by rw [rl]; exact hz), by rw [List.length_append, List.length_singleton, rl]⟩
  ·rintro σ' H2 ⟨rs, v2, v3, v4, v5, v6, v7, v8, v9, rfl, sm, R, rl⟩
   refine ⟨_, rfl, L, _, rfl, .inl ⟨.of R.1, fun gg ngg => ?_⟩⟩
   exact q gg _ (sm.trans (Same.upd ngg)) (GT_of R rl (Same.upd ngg) upd_same)
theorem scPut : FnScope ["_law_one", "_law_other_here", "_law_many", "_law_rows", "_law_x", "_law_a", "_law_b", "_law_row", "_law_y", "_law_first"] ["_law_one", "_law_other_here"] (defScope sPut) := FS
theorem ok_put {f : Addr} {fd : FuncData} (F : Fun K "_law_put" "_law_put" sPut f fd) (T : Bl mg) : FnOk P w K mg base CX0 1 f fd ["_law_one", "_law_other_here"] spPut := by
 refine F.ok scPut (fun vs H Q E h => ?_) (fun cdv A outer s H vs Q E hr h => ?_)
 ·obtain ⟨g1, g2, t1, t2, rfl, _⟩ := h; rfl
 ·obtain ⟨g1, g2, t1, t2, rfl, G1, G2, P1, P2, n60, q⟩ := h
  refine ⟨_, pss_cons (sset 2 rfl (cb (lenK K) T.len (pc (vn 1) pa_nil)))
   (pss_cons (sset 3 rfl (pe_lst pa_nil))
   (pss_cons (ps_for PassesOwn.never rfl (rng1 T.range (pc (pe_op op_mul (cb (lenK K) T.len (pc (vn 0) pa_nil)) (vn 2)) pa_nil)) (gn 4)
    (pss_cons (par2 5 6 rfl (pc (pe_op op_fdiv (vn 4) (vn 2)) (pc (pe_op op_mod (vn 4) (vn 2)) pa_nil)))
    (pss_cons (sset 7 rfl (pe_lst pa_nil))
    (pss_cons (ps_for PassesOwn.never rfl (rng1 T.range (pc (pe_op op_mul (cb (lenK K) T.len (pc (vn 0) pa_nil)) (vn 2)) pa_nil)) (gn 8)
     (pss_cons (sset 9 rfl (pe_op op_mul (pe_ix (ixT K) (pe_ix (ixT K) (vn 0) (vn 5) (fun _ _ => rfl)) (pe_op op_fdiv (vn 8) (vn 2)) (fun _ _ => rfl)) (vn 2)))
     (pss_one (ps_expr (pe_bm PySem.F.plainAttrs_list PySem.F.slot_list_append PySem.F.type_list_append mt_append (vn 7) (pc (pe_op op_add (vn 9) (pe_ix (ixT K) (pe_ix (ixT K) (vn 1) (vn 6) (fun _ _ => rfl)) (pe_op op_mod (vn 8) (vn 2)) (fun _ _ => rfl))) pa_nil))))))
    (pss_one (ps_expr (pe_bm PySem.F.plainAttrs_list PySem.F.slot_list_append PySem.F.type_list_append mt_append (vn 3) (pc (ct call_tupleW T.tuple (pc (vn 7) pa_nil)) pa_nil))))))))
   (pss_one (ps_ret (ct call_tuple_of T.tuple (pc (vn 3) pa_nil)))))), ?_⟩
  have sz : (16777216 : Nat) = sizeLine := by decide
  have a1 := P1.n1
  have a2 := P2.n1
  have b1 := P1.n60
  have b2 := P2.n60
  obtain ⟨rs1, u1, u2, _⟩ := id G1
  obtain ⟨rs2, u3, u4, _⟩ := id G2
  have e1 : (rs1.map V.ref).length = t1.length := by rw [List.length_map, u2]
  have e2 : (rs2.map V.ref).length = t2.length := by rw [List.length_map, u4]
  refine ⟨_, rfl, g2, _, rfl, .inr (.of u3), (by show 0 ≤ sizeLine; decide), fun L nL => ?_⟩
  rw [e2]
  have s2 := Same.upd (H := H) (o := .lst []) nL
  have eNi : (t1.length : Int) * (t2.length : Int) = ((t1.length * t2.length : Nat) : Int) := by push_cast; rfl
  refine ⟨_, rfl, g1, _, rfl, .inr (.of (s2 _ _ u1)), _, rfl, _, _, rfl, rfl, .inl ⟨by rw [e1]; omega, by rw [e1]; omega⟩, _, rfl, by rw [e1, eNi]; omega, by rw [e1, eNi]; omega, ?_⟩
  rw [e1, eNi, Int.toNat_natCast]
  refine for_range (fun x σ' H' => ∃ (rs : List Addr) (v4 v5 v6 v7 v8 v9 : Option V), σ' = [some (.ref g1), some (.ref g2), some (.int (t2.length : Nat)), some (.ref L), v4, v5, v6, v7, v8, v9] ∧ Same H H' ∧ RowsAt H' L rs (fun x => (List.range (t1.length * t2.length)).map (ptE t1 t2 x)) ∧ rs.length = x)
   ⟨[], _, _, _, _, _, _, rfl, s2, ⟨upd_same, fun i r hr => by cases hr⟩, rfl⟩ ?_ ?_
  ·rintro x σ' H2 hx ⟨rs, v4, v5, v6, v7, v8, v9, rfl, sm, R, rl⟩
   rw [show (0 : Int) + (x : Int) = (x : Int) by omega]
   have eA : V.int ((x : Int) / ((t2.length : Nat) : Int)) = V.int ((x / t2.length : Nat) : Int) := congrArg V.int (by push_cast; rfl)
   have eS : V.int ((x : Int) % ((t2.length : Nat) : Int)) = V.int ((x % t2.length : Nat) : Int) := congrArg V.int (by push_cast; rfl)
   refine ⟨_, rfl, _, rfl, _, _, rfl, rfl, ⟨(by show (0 : Int) < (t2.length : Nat); omega), (by show ((t2.length : Nat) : Int) < 1073741824; omega)⟩, _, rfl, _, rfl, _, _, rfl, rfl, (by show (0 : Int) < (t2.length : Nat); omega), _, _, rfl, ?_⟩
   dsimp only
   rw [eA, eS]
   have xa : x / t2.length < t1.length := Nat.div_lt_of_lt_mul (by rw [Nat.mul_comm]; exact hx)
   have xb : x % t2.length < t2.length := Nat.mod_lt _ (by omega)
   refine ⟨(by show 0 ≤ sizeLine; decide), fun l nl => ?_⟩
   have s3 := Same.upd (H := H2) (o := .lst []) nl
   refine ⟨_, rfl, g1, _, rfl, .inr (.of ((sm.trans s3) _ _ u1)), _, rfl, _, _, rfl, rfl, .inl ⟨by rw [e1]; omega, by rw [e1]; omega⟩, _, rfl, by rw [e1, eNi]; omega, by rw [e1, eNi]; omega, ?_⟩
   rw [e1, eNi, Int.toNat_natCast]
   refine for_range (fun y σ'' H' => ∃ (w8 w9 : Option V), σ'' = [some (.ref g1), some (.ref g2), some (.int (t2.length : Nat)), some (.ref L), some (.int x), some (.int (x / t2.length : Nat)), some (.int (x % t2.length : Nat)), some (.ref l), w8, w9] ∧ Same H2 H' ∧ H' l = some (.lst (((List.range y).map (ptE t1 t2 x)).map nV)))
    ⟨_, _, rfl, s3, upd_same⟩ ?_ ?_
   ·rintro y σ'' H' hy ⟨w8, w9, rfl, sm', hl⟩
    rw [show (0 : Int) + (y : Int) = (y : Int) by omega]
    have ya : y / t2.length < t1.length := Nat.div_lt_of_lt_mul (by rw [Nat.mul_comm]; exact hy)
    have yb : y % t2.length < t2.length := Nat.mod_lt _ (by omega)
    obtain ⟨q1, q2, q3, _, q4, q5, q6⟩ := (G1.mono (sm.trans sm')).at P1 xa
    obtain ⟨p1, p2, p3, _, p4, p5, p6⟩ := (G2.mono (sm.trans sm')).at P2 xb
    have l1 := P1.lt _ _ xa ya
    refine ⟨_, rfl, _, rfl, g1, _, _, _, rfl, rfl, .of q3, q4, _, rfl, _, rfl, _, _, rfl, rfl, ⟨(by show (0 : Int) < (t2.length : Nat); omega), (by show ((t2.length : Nat) : Int) < 1073741824; omega)⟩, q2, _, _, _, rfl, rfl, q5.sq, q6 _ ya, _, rfl, _, _, rfl, rfl, .inl ⟨by omega, by omega⟩, ?_⟩
    refine ⟨_, rfl, .inl ⟨rfl, _, .of hl⟩, _, rfl, _, rfl, _, rfl, g2, _, _, _, rfl, rfl, .of p3, p4, _, rfl, _, rfl, _, _, rfl, rfl, (by show (0 : Int) < (t2.length : Nat); omega), p2, _, _, _, rfl, rfl, p5.sq, p6 _ yb, _, _, rfl, rfl, l, _, _, rfl, rfl, hl, by rw [List.length_map, List.length_map, List.length_range]; omega, ?_⟩
    refine ⟨_, _, rfl, sm'.updr nl, ?_⟩
    rw [upd_same, List.range_succ, List.map_append, List.map_append]
    rfl
   ·rintro σ'' H3 ⟨w8, w9, rfl, sm', hl⟩
    have R3 := R.mono sm'
    refine ⟨_, rfl, .inl ⟨rfl, _, .of R3.1⟩, _, rfl, l, _, rfl, .of hl, fun tr H4 nt s4 hz => ?_⟩
    have R4 := R3.mono s4
    refine ⟨L, _, _, rfl, rfl, R4.1, by rw [List.length_map]; omega, ?_⟩
    exact ⟨rs ++ [tr], _, _, _, _, _, _, rfl, ((sm.trans sm').trans s4).updr nL, R4.push (by rw [rl]; exact hz), by rw [List.length_append, List.length_singleton, rl]⟩
  ·rintro σ' H2 ⟨rs, v4, v5, v6, v7, v8, v9, rfl, sm, R, rl⟩
   refine ⟨_, rfl, L, _, rfl, .inl ⟨.of R.1, fun gg ngg => ?_⟩⟩
   exact q gg _ (sm.trans (Same.upd ngg)) (GT_of R rl (Same.upd ngg) upd_same)
end
end C6
namespace L2
open PySem PySem.Spec PyProof.Rows
theorem pe_bmK {X : Cx} (K : PySem.W.Frag) {o e : Expr} {es : List Expr} {to : TE} {t : TA} {name : Str} {apos cpos : Pos} {T id : String} {r : V → List V → Hp → VK → Prop} (pa : PlainAttrs T) (slot : Slot T name id) (hty : typeOf (.builtin id) = pure (.type "method_descriptor")) (hm : MtR X id r) (ho : PE X o to) (ha : PA X (e :: es) t)
  (hK : X.K = K := by rfl) (hbase : attributeBase o name X.env (eval o X.env) = eval o X.env := by rfl)
  (hfew : ((backTo cpos (starEach (e :: es) X.env)).all (fun x => !x.1) && (backToKw cpos (keywordEach [] X.env)).all (fun x => x.1.isSome)
   && decide ((e :: es).length + ([] : List Keyword).length + (if ([] : List Keyword).isEmpty then 0 else 1) < 30)) = true := by rfl)
  (hline : (apos.endLine == cpos.line) = true := by rfl) (hs : starEach (e :: es) X.env = (false, eval e X.env) :: starEach es X.env := by rfl) (hplain : (backTo cpos (starEach es X.env)).any (·.1) = false := by rfl) :
  PE X (.Call (.Attribute o name apos) (e :: es) [] cpos) (tBM K T r to t) := hK ▸ pe_bm pa slot hty hm ho ha hbase hfew hline hs hplain
end L2
namespace C6
open PySem L2 PySem.Spec PyProof.Rows
open Tb
abbrev sRen : Stmt := top 30
theorem eqv_int (i j : Int) : PyData.eqv (.int i) (.int j) = decide (i = j) := by
 first | rfl | simp [PyData.eqv]
theorem ixN_natC {n i : Nat} (h : i < n) : ixN n (i : Int) = some i := by
 unfold ixN
 rw [if_pos (Int.natCast_nonneg _), if_pos (by omega), Int.toNat_natCast]
theorem era_perm {α : Type} : ∀ (l : List α) (i : Nat) (h : i < l.length), (l[i] :: l.eraseIdx i).Perm l
 | x :: l, 0, h => List.Perm.refl _
 | x :: l, i + 1, h => by
  show ((l[i]'(Nat.lt_of_succ_lt_succ h)) :: x :: l.eraseIdx i).Perm (x :: l)
  exact (List.Perm.swap x _ _).trans (List.Perm.cons x (era_perm l i (Nat.lt_of_succ_lt_succ h)))
theorem erase_mapN : ∀ (xs : List Nat) (j : Nat), (xs.map nV).eraseIdx j = (xs.eraseIdx j).map nV
 | [], j => rfl
 | x :: xs, 0 => rfl
 | x :: xs, j + 1 => by
  show nV x :: (xs.map nV).eraseIdx j = nV x :: (xs.eraseIdx j).map nV
  rw [erase_mapN xs j]
def spRen : Sp := fun vs H Q _ => ∃ (p g : Addr) (t : List (List Nat)), vs = [.ref p, .ref g] ∧ Feed H p ∧ GT H g t ∧ PW t ∧ ∀ g' t' H', Dr p H H' → GT H' g' t' → PW t' → Q (.ref g') H'
def fIdx (t : List (List Nat)) (os : List Nat) (a : Nat) : V → V
 | .int z => .int (pos os (mul t a z.toNat) : Nat)
 | y => y
theorem fIdx_map (t : List (List Nat)) (os : List Nat) (a : Nat) : (os.map nV).map (fIdx t os a) = (os.map fun b => pos os (mul t a b)).map nV := by
 rw [List.map_map, List.map_map]
 refine List.map_congr_left fun b _ => ?_
 show V.int (pos os (mul t a (b : Int).toNat) : Nat) = nV (pos os (mul t a b))
 rw [Int.toNat_natCast]
 rfl
theorem ord_of {n : Nat} {os : List Nat} (n1 : 1 ≤ n) (p : os.Perm (List.range n)) (h0 : os[0]? = some 0) : Ord n os := by
 refine ⟨by rw [p.length_eq, List.length_range], p.nodup_iff.mpr List.nodup_range, fun v hv => p.mem_iff.mpr (List.mem_range.mpr hv), fun v hv => List.mem_range.mp (p.mem_iff.mp hv), ?_⟩
 rw [List.getD_eq_getElem?_getD, h0]
 rfl
theorem nV_get {xs : List Nat} {i : Nat} {y : V} (h : (xs.map nV)[i]? = some y) : ∃ k, xs[i]? = some k ∧ y = .int (k : Nat) := by
 rw [List.getElem?_map] at h
 cases e : xs[i]? with
 | none => rw [e] at h; cases h
 | some k => rw [e] at h; exact ⟨k, rfl, (Option.some.inj h).symm⟩
section
variable {P : Program} {w : World} {K : PySem.W.Frag} {mg : Str → Option Value} {base : Heap}
theorem scRen : FnScope ["_law_feed_here", "_law_group_here", "_law_left", "_law_order", "_law_k", "_law_rows", "_law_a"] ["_law_feed_here", "_law_group_here"] (defScope sRen) := FS
theorem ok_ren {f : Addr} {fd : FuncData} (F : Fun K "_law_renamed" "_law_renamed" sRen f fd) (T : Bl mg) (GD : Fn P w K mg base CX0 1 "_law_draw" ["_law_feed_here", "_law_many"] spDraw) : FnOk P w K mg base CX0 2 f fd ["_law_feed_here", "_law_group_here"] spRen := by
 refine F.ok scRen (fun vs H Q E h => ?_) (fun cdv A outer s H vs Q E hr h => ?_)
 ·obtain ⟨p, g, t, rfl, _⟩ := h; rfl
 ·obtain ⟨p, g, t, rfl, Fd, G, Pt, q⟩ := h
  refine ⟨_, pss_cons (sset 2 rfl (ct (call_list_rng rfl) T.list (pc (ct call_range2 T.range (pc pe_int (pc (cb (lenK K) T.len (pc (vn 1) pa_nil)) pa_nil))) pa_nil)))
   (pss_cons (sset 3 rfl (pe_lst (pc pe_int pa_nil)))
   (pss_cons (ps_for PassesOwn.never rfl (rng1 T.range (pc (pe_op op_sub (cb (lenK K) T.len (pc (vn 1) pa_nil)) pe_int) pa_nil)) (gn 4)
    (pss_one (ps_expr (pe_bm PySem.F.plainAttrs_list PySem.F.slot_list_append PySem.F.type_list_append mt_append (vn 3)
     (pc (pe_bm PySem.F.plainAttrs_list PySem.F.slot_list_pop PySem.F.type_list_pop mt_popAt (vn 2) (pc (fnc GD hr pass0 (pc (vn 0) (pc (cb (lenK K) T.len (pc (vn 2) pa_nil)) pa_nil))) pa_nil)) pa_nil)))))
   (pss_cons (sset 5 rfl (pe_lst pa_nil))
   (pss_cons (ps_for PassesOwn.never rfl (itL K (vn 3)) (gnf 6 rfl)
    (pss_one (ps_expr (pe_bm PySem.F.plainAttrs_list PySem.F.slot_list_append PySem.F.type_list_append mt_append (vn 5)
     (pc (ct call_tupleW T.tuple (pc (cmp ["_law_b"] [1, 3, 6] ["_law_b", "_law_group_here", "_law_order", "_law_a"] rfl (itL K (vn 3)) (fun _ _ _ _ _ => gn 0) (fun _ _ _ _ _ => pif_nil)
      (fun _ _ _ _ _ => pe_bmK K PySem.F.plainAttrs_list PySem.F.slot_list_index PySem.F.type_list_index (lixK K hr.units) (vn 2) (pc (pe_ix (ixT K) (pe_ix (ixT K) (vn 1) (vn 3) (fun _ _ => rfl)) (vn 0) (fun _ _ => rfl)) pa_nil))) pa_nil)) pa_nil)))))
   (pss_one (ps_ret (ct call_tuple_of T.tuple (pc (vn 5) pa_nil)))))))), ?_⟩
  have sz : (16777216 : Nat) = sizeLine := by decide
  have n1 := Pt.n1
  have n60 := Pt.n60
  obtain ⟨gs, u1, u2, _⟩ := id G
  have el : (gs.map V.ref).length = t.length := by rw [List.length_map, u2]
  refine ⟨_, rfl, g, _, rfl, .inr (.of u1), 1, _, rfl, fun r0 hr0 => ⟨r0, 1, _, rfl, upd_same, ⟨by omega, by omega, by omega, by rw [el]; omega⟩, by rw [el]; omega, fun l hl0 => ?_⟩⟩
  rw [el]
  have e1 : ((t.length : Int) - 1).toNat = t.length - 1 := by omega
  rw [e1]
  refine ⟨(by show 1 ≤ sizeLine; decide), fun fo hfo => ?_⟩
  have s1 : Same H (upd H r0 (.rng 1 (t.length : Int))) := Same.upd hr0
  rw [el] at hl0
  have hl1 : H l = none := s1.free hl0
  have s2 := s1.trans (Same.upd (o := .lst ((rngI 1 (t.length - 1)).map V.int)) hl0)
  have hfo1 : H fo = none := s2.free hfo
  have s3 := s2.trans (Same.upd (o := .lst [.int 0]) hfo)
  have nlf : l ≠ fo := fun z => by rw [← z, upd_same] at hfo; cases hfo
  have np : ∀ {b : Addr}, H b = none → b ≠ p := fun {b} hb => by
   obtain ⟨q0, ns, i, j, k, Fa⟩ := Fd
   exact (ne_of_none Fa.hp hb).symm
  refine ⟨_, rfl, g, _, rfl, .inr (.of (s3 _ _ u1)), _, _, rfl, rfl, _, rfl, by rw [el]; omega, by rw [el]; omega, ?_⟩
  rw [el, e1]
  refine for_range (fun i σ' H' => ∃ (v : Option V) (ls os : List Nat), σ' = [some (.ref p), some (.ref g), some (.ref l), some (.ref fo), v, none, none] ∧ Dr p H H' ∧ H' l = some (.lst (ls.map nV)) ∧ H' fo = some (.lst (os.map nV)) ∧ (os ++ ls).Perm (List.range t.length) ∧ os[0]? = some 0 ∧ ls.length + i = t.length - 1) ?_ ?_ ?_
  ·refine ⟨none, (List.range (t.length - 1)).map (· + 1), [0], rfl, Dr.of s3, ?_, upd_same, ?_, rfl, by rw [List.length_map, List.length_range, Nat.add_zero]⟩
   ·rw [upd_ne nlf, upd_same]
    unfold rngI
    rw [List.map_map, List.map_map]
    congr 2
    refine List.map_congr_left fun k _ => ?_
    show V.int (1 + (k : Int)) = V.int ((k + 1 : Nat) : Int)
    rw [show (1 : Int) + (k : Int) = ((k + 1 : Nat) : Int) by omega]
   ·have : List.range t.length = [0] ++ (List.range (t.length - 1)).map (· + 1) := by
     obtain ⟨k, hk⟩ : ∃ k, t.length = k + 1 := ⟨t.length - 1, by omega⟩
     rw [hk, List.range_succ_eq_map]
     rfl
    rw [this]
  ·rintro i σ' H' hi ⟨v, ls, os, rfl, dr, hl', hf', pm, h0, el2⟩
   have hpos : 0 < ls.length := by omega
   refine ⟨_, rfl, .inl ⟨rfl, _, .of hf'⟩, _, rfl, .inl ⟨rfl, _, .of hl'⟩, _, rfl, _, rfl, l, _, rfl, .inl (.of hl'), p, _, rfl, dr.feed Fd, ?_, ?_, fun r H2 r0' r1' dr2 => ?_⟩
   ·rw [List.length_map]; omega
   ·rw [List.length_map]; exact log_small (by omega) (by omega)
   rw [List.length_map] at r1'
   obtain ⟨j, rfl⟩ := Int.eq_ofNat_of_zero_le r0'
   have hj : j < ls.length := by omega
   have hl2 := dr2.keep l _ hl' (np hl1)
   have hf2 := dr2.keep fo _ hf' (np hfo1)
   have hat : (ls.map nV)[j]? = some (nV ls[j]) := by rw [List.getElem?_map, List.getElem?_eq_getElem hj]; rfl
   obtain ⟨sx, _⟩ := ixN_seq (ixN_natC (n := (ls.map nV).length) (i := j) (by rw [List.length_map]; exact hj))
   refine ⟨l, _, j, j, _, rfl, rfl, hl2, by omega, by omega, sx, hat, fo, _, _, rfl, rfl, by rw [upd_ne nlf.symm]; exact hf2, ?_, ?_⟩
   ·rw [List.length_map]
    have := pm.length_eq
    rw [List.length_append, List.length_range] at this
    omega
   ·refine ⟨_, ls.eraseIdx j, os ++ [ls[j]], rfl, ((dr.trans dr2).updN hl1).updN hfo1, ?_, ?_, ?_, ?_, ?_⟩
    ·rw [upd_ne nlf, upd_same, erase_mapN]
    ·rw [upd_same, List.map_append]; rfl
    ·rw [List.append_assoc]
     refine (List.Perm.append_left os ?_).trans pm
     exact era_perm ls j hj
    ·rw [List.getElem?_append_left]
     ·exact h0
     ·exact (List.getElem?_eq_some_iff.mp h0).1
    ·rw [List.length_eraseIdx, if_pos hj]; omega
  ·rintro σ' H1 ⟨v, ls, os, rfl, dr, hl', hf', pm, h0, el2⟩
   have hls : ls = [] := List.eq_nil_of_length_eq_zero (by omega)
   rw [hls, List.append_nil] at pm
   have O := ord_of n1 pm h0
   have G1 := G.dr Fd dr
   refine ⟨(by show 0 ≤ sizeLine; decide), fun L nL => ?_⟩
   have s4 := Same.upd (H := H1) (o := .lst []) nL
   have hf4 := s4 _ _ hf'
   refine ⟨_, rfl, fo, rfl, ⟨_, .of hf4⟩, ?_⟩
   refine for_seq (H0 := H1) ((seq_lst (K := K) (.of hf'))) (fun i σ' H' => ∃ (rs : List Addr) (v6 : Option V), σ' = [some (.ref p), some (.ref g), some (.ref l), some (.ref fo), v, some (.ref L), v6] ∧ Same H1 H' ∧ RowsAt H' L rs (fun i => os.map fun b => pos os (mul t (os.getD i 0) b)) ∧ rs.length = i)
    ⟨[], _, rfl, s4, ⟨upd_same, fun i r hr => by cases hr⟩, rfl⟩ (fun i σ' H' h => h.choose_spec.choose_spec.2.1) ?_ ?_
   ·rintro i y σ' H2 hy ⟨rs, v6, rfl, sm, R, rl⟩
    obtain ⟨a, ha, rfl⟩ := nV_get hy
    have hil : i < os.length := (List.getElem?_eq_some_iff.mp ha).1
    have alt : a < t.length := O.lt a (List.mem_of_getElem? ha)
    have hd : os.getD i 0 = a := by rw [List.getD_eq_getElem?_getD, ha]; rfl
    have hf2 := sm _ _ hf'
    refine ⟨_, rfl, .inl ⟨rfl, _, .of R.1⟩, _, rfl, fo, rfl, ⟨_, .of hf2⟩, ?_⟩
    refine comp_map (seq_lst (.of hf2)) [some (.ref g), some (.ref fo), some (.int a)] rfl (fIdx t os a) (by rw [List.length_map, O.len]; omega) (fun j x H' hx s' R' gg => ?_) (fun D H3 nD s3' hD => ?_)
    ·obtain ⟨b, hb, rfl⟩ := nV_get hx
     have blt : b < t.length := O.lt b (List.mem_of_getElem? hb)
     obtain ⟨q1, q2, q3, _, q4, q5, q6⟩ := (G1.mono (sm.trans s')).at Pt alt
     have mlt := Pt.lt a b alt blt
     obtain ⟨pl, pv⟩ := pos_lt O mlt
     have hfo' := s' _ _ hf2
     have eo : os.map nV = (os.map fun k : Nat => ((k : Nat) : Int)).map V.int := by rw [List.map_map]; rfl
     refine ⟨_, rfl, .inl ⟨rfl, _, .of hfo'⟩, _, rfl, _, rfl, g, _, _, _, rfl, rfl, .of q3, q4, _, rfl, q2, _, _, _, rfl, rfl, q5.sq, q6 b blt, ?_⟩
     refine ⟨fo, (os.map fun k : Nat => ((k : Nat) : Int)).map V.int, (os.map fun k : Nat => ((k : Nat) : Int)).map PyData.int, .int (mul t a b : Nat), .int (mul t a b : Nat), pos os (mul t a b), rfl, rfl, by rw [← eo]; exact hfo', RdDs.ints _, .int _, canLay_ints _, rfl, by simp [PyData.depth], by rw [List.length_map, List.length_map, O.len]; exact pl, fun d hd' => ?_, fun m d hm hd' => ?_, ?_⟩
     ·have ho := getD_lt (o := os) (i := pos os (mul t a b)) (by rw [O.len]; exact pl)
      rw [List.getElem?_map, List.getElem?_map, ho, pv] at hd'
      cases hd'
      rw [eqv_int]
      exact decide_eq_true rfl
     ·have hm' : m < os.length := by rw [O.len]; omega
      have ho := getD_lt (o := os) hm'
      rw [List.getElem?_map, List.getElem?_map, ho] at hd'
      cases hd'
      rw [eqv_int]
      refine decide_eq_false fun z => ?_
      have hne := List.not_of_lt_findIdx (p := (· == mul t a b)) (xs := os) hm
      have this' : os[m] = os.getD m 0 := by
       rw [List.getElem?_eq_getElem hm'] at ho
       exact Option.some.inj ho
      rw [this', beq_eq_false_iff_ne] at hne
      have z : ((os.getD m 0 : Nat) : Int) = ((mul t a b : Nat) : Int) := z
      exact hne (by omega)
     ·have := gg H' (Same.refl _)
      show R' (.int (pos os (mul t a b) : Nat)) H'
      have e : fIdx t os a (.int (b : Nat)) = V.int (pos os (mul t a b) : Nat) := by
       show V.int (pos os (mul t a (b : Int).toNat) : Nat) = _
       rw [Int.toNat_natCast]
      rw [e] at this
      exact this
    ·rw [fIdx_map] at hD
     refine ⟨D, _, rfl, .of hD, fun tr H4 nt s5 hz => ?_⟩
     have R4 := R.mono (s3'.trans s5)
     have ol := O.len
     refine ⟨L, _, _, rfl, rfl, R4.1, by rw [List.length_map]; omega, ?_⟩
     exact ⟨rs ++ [tr], _, rfl, ((sm.trans s3').trans s5).updr nL, R4.push (by rw [rl, hd]; exact hz), by rw [List.length_append, List.length_singleton, rl]⟩
   ·rintro σ' H2 ⟨rs, v6, rfl, sm, R, rl⟩
    rw [List.length_map] at rl
    refine ⟨_, rfl, L, _, rfl, .inl ⟨.of R.1, fun gg ngg => ?_⟩⟩
    have GG := GT_of R rl (Same.upd ngg) upd_same
    have er : ((List.range os.length).map fun i => os.map fun b => pos os (mul t (os.getD i 0) b)) = ren t os := by
     unfold ren
     refine List.ext_getElem? fun i => ?_
     rw [List.getElem?_map, List.getElem?_map]
     by_cases hi : i < os.length
     ·rw [List.getElem?_range hi, getD_lt hi]
      rfl
     ·rw [List.getElem?_eq_none (by rw [List.length_range]; omega), List.getElem?_eq_none (by omega)]
      rfl
    rw [er] at GG
    exact q gg _ _ (dr.same (sm.trans (Same.upd ngg))) GG (pw_ren Pt O)
end
abbrev sByP : Stmt := top 28
def aft (f g : List Nat) : List Nat := g.map fun i => f.getD i 0
def addP (fd : List (List Nat)) (o : List Nat) : List (List Nat) := if fd.contains o then fd else fd ++ [o]
def stepP (cur : List Nat) (ps : List (List Nat)) (fd : List (List Nat)) : List (List Nat) := ps.foldl (fun fd p => addP fd (aft cur p)) fd
def bfs (ps : List (List Nat)) : Nat → Nat → List (List Nat) → List (List Nat)
 | 0, _, fd => fd
 | f + 1, at', fd => if at' < fd.length then bfs ps f (at' + 1) (stepP (fd.getD at' []) ps fd) else fd
def nI (xs : List Nat) : List Int := xs.map fun k : Nat => ((k : Nat) : Int)
theorem nI_V (xs : List Nat) : (nI xs).map V.int = xs.map nV := by unfold nI; rw [List.map_map]; rfl
def TupsAt (H : Hp) (L : Addr) (bs : List Addr) (yss : List (List Nat)) : Prop := H L = some (.lst (bs.map V.ref)) ∧ bs.length = yss.length ∧ ∀ (i : Nat) b, bs[i]? = some b → H b = some (.tup ((yss.getD i []).map nV))
theorem TupsAt.mono {H H' : Hp} {L : Addr} {bs : List Addr} {yss : List (List Nat)} (s : Same H H') (R : TupsAt H L bs yss) : TupsAt H' L bs yss := ⟨s _ _ R.1, R.2.1, fun i b hb => s _ _ (R.2.2 i b hb)⟩
theorem TupsAt.push {H : Hp} {L : Addr} {bs : List Addr} {yss : List (List Nat)} {b : Addr} {ys : List Nat} (R : TupsAt H L bs yss) (h : H b = some (.tup (ys.map nV))) : TupsAt (upd H L (.lst (bs.map V.ref ++ [.ref b]))) L (bs ++ [b]) (yss ++ [ys]) := by
 have ne : ∀ {b ys}, H b = some (.tup ys) → upd H L (.lst (bs.map V.ref ++ [.ref b])) b = some (.tup ys) := fun {b ys} hb => by
  rw [upd_ne (fun z => by rw [z, R.1] at hb; cases hb)]
  exact hb
 refine ⟨by rw [upd_same, List.map_append]; rfl, by rw [List.length_append, List.length_append, R.2.1]; rfl, fun i c hc => ?_⟩
 have nb : c ≠ L → upd H L (.lst (bs.map V.ref ++ [.ref b])) c = H c := fun z => upd_ne z
 by_cases hi : i < bs.length
 ·rw [List.getElem?_append_left hi] at hc
  have := R.2.2 i c hc
  rw [nb (fun z => by rw [z, R.1] at this; cases this), List.getD_eq_getElem?_getD, List.getElem?_append_left (by rw [← R.2.1]; exact hi), ← List.getD_eq_getElem?_getD]
  exact this
 ·rw [List.getElem?_append_right (by omega)] at hc
  have e0 : i - bs.length = 0 := by
   apply Classical.byContradiction
   intro z
   rw [List.getElem?_eq_none (by rw [List.length_singleton]; omega)] at hc
   cases hc
  rw [e0] at hc
  cases hc
  have : i = yss.length := by rw [← R.2.1]; omega
  rw [nb (fun z => by rw [z, R.1] at h; cases h), this, List.getD_eq_getElem?_getD, List.getElem?_append_right (Nat.le_refl _), Nat.sub_self]
  exact h
theorem rd_tupN {K : PySem.W.Frag} {H : Hp} : ∀ (bs : List Addr) (yss : List (List Nat)), bs.length = yss.length → (∀ (j : Nat) b, bs[j]? = some b → H b = some (.tup ((yss.getD j []).map nV))) → RdDs K H (bs.map V.ref) (yss.map fun ns => PyData.tuple ((nI ns).map PyData.int))
 | [], [], _, _ => .nil
 | [], _ :: _, h, _ => by cases h
 | _ :: _, [], h, _ => by cases h
 | b :: bs, y :: yss, h, g => by
  have hb := g 0 b rfl
  have hb' : H b = some (.tup ((nI y).map V.int)) := by rw [nI_V]; exact hb
  exact .cons (.tup (.of hb') (RdDs.ints _)) (rd_tupN bs yss (Nat.succ.inj h) fun j b' hj => g (j + 1) b' hj)
theorem nI_inj {a b : List Nat} : nI a = nI b ↔ a = b := by
 constructor
 ·intro h
  unfold nI at h
  exact (List.map_inj_right (fun x y e => by exact Int.ofNat.inj e)).mp h
 ·intro h; rw [h]
theorem eqvTN (a b : List Nat) : PyData.eqv (.tuple ((nI a).map PyData.int)) (.tuple ((nI b).map PyData.int)) = decide (a = b) := by
 have : PyData.eqv (.tuple ((nI a).map PyData.int)) (.tuple ((nI b).map PyData.int)) = decide (nI a = nI b) := by
  show PyData.eqvAll _ _ = _
  exact PySem.W.ked_eqvAll _ _
 rw [this, decide_eq_decide]
 exact nI_inj
theorem any_contains (yss : List (List Nat)) (o : List Nat) : ((yss.map fun ns => PyData.tuple ((nI ns).map PyData.int)).any fun y => y.eqv (.tuple ((nI o).map PyData.int))) = yss.contains o := by
 rw [List.any_map, List.contains_eq_any_beq]
 congr 1
 funext y
 show PyData.eqv _ _ = (o == y)
 rw [eqvTN]
 by_cases h : y = o
 ·rw [decide_eq_true h, h, beq_self_eq_true]
 ·rw [decide_eq_false h]
  exact (beq_eq_false_iff_ne.mpr (fun z => h z.symm)).symm
def fAft (cur : List Nat) : V → V
 | .int z => nV (cur.getD z.toNat 0)
 | y => y
theorem fAft_map (cur g : List Nat) : (g.map nV).map (fAft cur) = (aft cur g).map nV := by
 unfold aft
 rw [List.map_map, List.map_map]
 refine List.map_congr_left fun b _ => ?_
 show nV (cur.getD (b : Int).toNat 0) = nV (cur.getD b 0)
 rw [Int.toNat_natCast]
def tabP (srt : List (List Nat)) : List (List Nat) := srt.map fun a => srt.map fun b => srt.findIdx (· == aft a b)
def srtP (p : Array Nat) (fd : List (List Nat)) : List (List Nat) := p.toList.map fun i => fd.getD i []
structure ByP (k : Nat) (ps : List (List Nat)) (fd : List (List Nat)) (p : Array Nat) (t : List (List Nat)) : Prop where
 k1 : 1 ≤ k
 k9 : k ≤ 9
 p1 : 1 ≤ ps.length
 p9 : ps.length ≤ 9
 pl : ∀ g ∈ ps, g.length = k ∧ ∀ x ∈ g, x < k
 fin : bfs ps 61 0 [List.range k] = fd
 n2 : 2 ≤ fd.length
 n60 : fd.length ≤ 60
 run : PyZ.runB fd.length (fun i j => PyZ.ltB ((fd.map nI).getD i []) ((fd.map nI).getD j [])) (W.kas_sort fd.length) = some p
 ps64 : p.size ≤ 64
 plt : ∀ i ∈ p.toList, i < fd.length
 tab : tabP (srtP p fd) = t
 inS : ∀ a ∈ srtP p fd, ∀ b ∈ srtP p fd, aft a b ∈ srtP p fd
theorem addP_len (fd : List (List Nat)) (o : List Nat) : fd.length ≤ (addP fd o).length := by
 unfold addP
 split
 ·exact Nat.le_refl _
 ·rw [List.length_append]; omega
theorem stepP_len (cur : List Nat) : ∀ (ps fd : List (List Nat)), fd.length ≤ (stepP cur ps fd).length
 | [], fd => Nat.le_refl _
 | p :: ps, fd => Nat.le_trans (addP_len fd (aft cur p)) (stepP_len cur ps (addP fd (aft cur p)))
theorem bfs_len (ps : List (List Nat)) : ∀ (f at' : Nat) (fd : List (List Nat)), fd.length ≤ (bfs ps f at' fd).length
 | 0, _, fd => Nat.le_refl _
 | f + 1, at', fd => by
  unfold bfs
  split
  ·exact Nat.le_trans (stepP_len _ ps fd) (bfs_len ps f (at' + 1) _)
  ·exact Nat.le_refl _
abbrev sOne : Stmt := top 31
abbrev sGroup : Stmt := top 32
def spOne : Sp := fun vs H Q _ => ∃ (p : Addr), vs = [.ref p] ∧ Feed H p ∧ ∀ g t H', Dr p H H' → GT H' g t → PW t → Q (.ref g) H'
section
variable {P : Program} {w : World} {K : PySem.W.Frag} {mg : Str → Option Value} {base : Heap}
theorem scGroup : FnScope ["_law_feed_here", "_law_group_here"] ["_law_feed_here"] (defScope sGroup) := FS
theorem ok_group {f : Addr} {fd : FuncData} (F : Fun K "_law_group" "_law_group" sGroup f fd) (GO : Fn P w K mg base CX0 2 "_law_one_group" ["_law_feed_here"] spOne) (GD : Fn P w K mg base CX0 1 "_law_draw" ["_law_feed_here", "_law_many"] spDraw)
  (GR : Fn P w K mg base CX0 2 "_law_renamed" ["_law_feed_here", "_law_group_here"] spRen) : FnOk P w K mg base CX0 3 f fd ["_law_feed_here"] spOne := by
 refine F.ok scGroup (fun vs H Q E h => ?_) (fun cdv A outer s H vs Q E hr h => ?_)
 ·obtain ⟨p, rfl, _⟩ := h; rfl
 ·obtain ⟨p, rfl, F0, q⟩ := h
  refine ⟨_, pss_cons (sset 1 rfl (fnc GO hr pass0 (pc (vn 0) pa_nil))) (pss_one (ps_ret (pe_ifExp (pt_cmpR op_gt (fnc GD hr pass0 (pc (vn 0) (pc pe_int pa_nil))) pe_int (nomark _)) (fnc GR hr pass0 (pc (vn 0) (pc (vn 1) pa_nil))) (vn 1)))), ?_⟩
  refine ⟨_, rfl, p, rfl, F0, fun g t H1 d1 G Pt => ?_⟩
  have F1 := d1.feed F0
  refine ⟨_, rfl, p, 3, rfl, F1, by decide, by decide +kernel, fun r H2 r0 r1 d2 => ⟨_, _, rfl, rfl, _, rfl, ?_⟩⟩
  have F2 := d2.feed F1
  have G2 := G.dr F1 d2
  refine ite2 (fun h1 => ?_) (fun h1 => ?_)
  ·exact ⟨_, rfl, _, rfl, p, g, t, rfl, F2, G2, Pt, fun g' t' H3 d3 G3 P3 => q g' t' H3 ((d1.trans d2).trans d3) G3 P3⟩
  ·exact ⟨_, rfl, q g t H2 (d1.trans d2) G2 Pt⟩
end
end C6
namespace C6
open Tb
def fN1 {β : Type} (m : Nat) (k : Nat → β) : β := match m with
 | 0 => k 0
 | m + 1 => k (m + 1)
theorem fN1_eq {β : Type} (m : Nat) (k : Nat → β) : fN1 m k = k m := by cases m <;> rfl
def fNL {β : Type} : List Nat → (List Nat → β) → β
 | [], k => k []
 | x :: xs, k => fN1 x fun y => fNL xs fun ys => k (y :: ys)
theorem fNL_eq {β : Type} : ∀ (a : List Nat) (k : List Nat → β), fNL a k = k a
 | [], k => rfl
 | x :: xs, k => by rw [fNL, fN1_eq, fNL_eq xs]
def fTT {β : Type} : List (List Nat) → (List (List Nat) → β) → β
 | [], k => k []
 | x :: xs, k => fNL x fun y => fTT xs fun ys => k (y :: ys)
theorem fTT_eq {β : Type} : ∀ (a : List (List Nat)) (k : List (List Nat) → β), fTT a k = k a
 | [], k => rfl
 | x :: xs, k => by rw [fTT, fNL_eq, fTT_eq xs]
def pwC (t : List (List Nat)) : Bool := fTT t pwB
theorem pwC_of {t : List (List Nat)} (h : pwC t = true) : PW t := by
 unfold pwC at h
 rw [fTT_eq] at h
 exact pwB_of h
theorem pw_tw1 : ((List.range 12).all fun i => pwC (tw (i + 1) 1 1)) = true := by decide +kernel
theorem pw_tw2 : ((List.range 6).all fun i => pwC (tw (i + 3) 2 (i + 2))) = true := by decide +kernel
theorem pw_eg : ((List.range 4).all fun i => pwC (eg (i + 2))) = true := by decide +kernel
end C6
namespace C6
open PySem L2 PySem.Spec PyProof.Rows
open Tb
structure BlS (mg : Str → Option Value) : Prop where
 sorted : mg "sorted" = none
def spByP : Sp := fun vs H Q _ => ∃ (pl : Addr) (prs : List Addr) (ps : List (List Nat)) (k : Nat) (fd : List (List Nat)) (p : Array Nat) (t : List (List Nat)), vs = [.ref pl] ∧ TupsAt H pl prs ps ∧ ByP k ps fd p t ∧ ∀ g H', Same H H' → GT H' g t → Q (.ref g) H'
def Gk (k : Nat) (y : List Nat) : Prop := y.length = k ∧ ∀ x ∈ y, x < k
theorem aft_good {k : Nat} {a g : List Nat} (ha : Gk k a) (hg : Gk k g) : Gk k (aft a g) := by
 unfold aft
 refine ⟨by rw [List.length_map]; exact hg.1, fun x hx => ?_⟩
 obtain ⟨i, hi, rfl⟩ := List.mem_map.mp hx
 have h1 := hg.2 i hi
 have h2 := ha.1
 rw [List.getD_eq_getElem?_getD, List.getElem?_eq_getElem (show i < a.length by omega)]
 exact ha.2 _ (List.getElem_mem _)
theorem addP_good {k : Nat} {fd : List (List Nat)} {o : List Nat} (h : ∀ y ∈ fd, Gk k y) (ho : Gk k o) : ∀ y ∈ addP fd o, Gk k y := by
 unfold addP
 split
 ·exact h
 ·intro y hy
  rcases List.mem_append.mp hy with z | z
  ·exact h y z
  ·rw [List.mem_singleton.mp z]; exact ho
theorem addP_at {fd : List (List Nat)} {o : List Nat} {j : Nat} (h : j < fd.length) : (addP fd o).getD j [] = fd.getD j [] := by
 unfold addP
 split
 ·rfl
 ·rw [List.getD_eq_getElem?_getD, List.getElem?_append_left h, ← List.getD_eq_getElem?_getD]
theorem stepP_at (cur : List Nat) {j : Nat} : ∀ (ps fd : List (List Nat)), j < fd.length → (stepP cur ps fd).getD j [] = fd.getD j []
 | [], fd, _ => rfl
 | p :: ps, fd, h => by
  show (stepP cur ps (addP fd (aft cur p))).getD j [] = _
  rw [stepP_at cur ps _ (Nat.lt_of_lt_of_le h (addP_len fd _)), addP_at h]
theorem stepP_take (cur : List Nat) {ps fd : List (List Nat)} {i : Nat} {g : List Nat} (h : ps[i]? = some g) : stepP cur (ps.take (i + 1)) fd = addP (stepP cur (ps.take i) fd) (aft cur g) := by
 unfold stepP
 rw [List.take_add_one, h, List.foldl_append]
 rfl
theorem stepP_more (cur : List Nat) (ps fd : List (List Nat)) (i : Nat) : (stepP cur (ps.take i) fd).length ≤ (stepP cur ps fd).length := by
 have : stepP cur ps fd = stepP cur (ps.drop i) (stepP cur (ps.take i) fd) := by
  unfold stepP
  rw [← List.foldl_append, List.take_append_drop]
 rw [this]
 exact stepP_len _ _ _
theorem TupsAt.sort {H : Hp} {L D : Addr} {bs : List Addr} {fd : List (List Nat)} {p : Array Nat} (R : TupsAt H L bs fd) (hD : H D = none) (hp : ∀ i ∈ p.toList, i < fd.length) : TupsAt (upd H D (.lst ((p.toList.map fun i => bs.getD i 0).map V.ref))) D (p.toList.map fun i => bs.getD i 0) (srtP p fd) := by
 refine ⟨upd_same, by unfold srtP; rw [List.length_map, List.length_map], fun i b hb => ?_⟩
 rw [List.getElem?_map] at hb
 cases e : p.toList[i]? with
 | none => rw [e] at hb; cases hb
 | some j =>
  rw [e] at hb
  have hj := hp j (List.mem_of_getElem? e)
  have hjb : j < bs.length := by rw [R.2.1]; exact hj
  have hb' : bs[j]? = some b := by
   rw [← Option.some.inj hb]
   show bs[j]? = some (bs.getD j 0)
   rw [List.getD_eq_getElem?_getD, List.getElem?_eq_getElem hjb]
   rfl
  have h1 := R.2.2 j b hb'
  have e2 : (srtP p fd).getD i [] = fd.getD j [] := by
   unfold srtP
   rw [List.getD_eq_getElem?_getD, List.getElem?_map, e]
   rfl
  rw [upd_ne (fun z => by rw [z, hD] at h1; cases h1), e2]
  exact h1
theorem TupsAt.get {H : Hp} {L : Addr} {bs : List Addr} {yss : List (List Nat)} (R : TupsAt H L bs yss) {i : Nat} (hi : i < yss.length) : ∃ b, bs[i]? = some b ∧ atI (bs.map V.ref) (i : Int) = some (.ref b) ∧ H b = some (.tup ((yss.getD i []).map nV)) := by
 have hb : i < bs.length := by rw [R.2.1]; exact hi
 have e : bs[i]? = some bs[i] := List.getElem?_eq_getElem hb
 exact ⟨_, e, atI_nat (by rw [List.getElem?_map, e]; rfl), R.2.2 i _ e⟩
theorem TupsAt.ref {H : Hp} {L : Addr} {bs : List Addr} {yss : List (List Nat)} (R : TupsAt H L bs yss) {i : Nat} {y : V} (h : (bs.map V.ref)[i]? = some y) : ∃ b, y = .ref b ∧ i < yss.length ∧ H b = some (.tup ((yss.getD i []).map nV)) := by
 rw [List.getElem?_map] at h
 cases e : bs[i]? with
 | none => rw [e] at h; cases h
 | some b =>
  rw [e] at h
  refine ⟨b, (Option.some.inj h).symm, ?_, R.2.2 i b e⟩
  rw [← R.2.1]
  exact (List.getElem?_eq_some_iff.mp e).1
theorem Feed.ne_none {p l : Addr} {H : Hp} (F : Feed H p) (h : H l = none) : l ≠ p := by
 obtain ⟨q0, ns, i, j, k, Fa⟩ := F
 exact (ne_of_none Fa.hp h).symm
theorem getL {yss : List (List Nat)} {i : Nat} (h : i < yss.length) : yss[i]? = some (yss.getD i []) := by
 rw [List.getD_eq_getElem?_getD, List.getElem?_eq_getElem h]
 rfl
theorem memL {yss : List (List Nat)} {i : Nat} (h : i < yss.length) : yss.getD i [] ∈ yss := List.mem_of_getElem? (getL h)
theorem nv_at {xs : List Nat} {i : Nat} (h : i < xs.length) : atI (xs.map nV) (i : Int) = some (nV (xs.getD i 0)) := atI_nat (by rw [List.getElem?_map, List.getElem?_eq_getElem h, List.getD_eq_getElem?_getD, List.getElem?_eq_getElem h]; rfl)
section
variable {P : Program} {w : World} {K : PySem.W.Frag} {mg : Str → Option Value} {base : Heap}
theorem scByP : FnScope ["_law_perms", "_law_found", "_law_at", "_law_perm", "_law_other_here", "_law_rows", "_law_one", "_law_row"] ["_law_perms"] (defScope sByP) := FS
theorem ok_byP {f : Addr} {fd : FuncData} (F : Fun K "_law_by_perms" "_law_by_perms" sByP f fd) (T : Bl mg) (TS : BlS mg) : FnOk P w K mg base CX0 1 f fd ["_law_perms"] spByP := by
 refine F.ok scByP (fun vs H Q E h => ?_) (fun cdv A outer s H vs Q E hr h => ?_)
 ·obtain ⟨pl, prs, ps, k, fd0, p, t, rfl, _⟩ := h; rfl
 ·obtain ⟨pl, prs, ps, k, fd0, p, t, rfl, R0, B, q⟩ := h
  refine ⟨_, pss_cons (sset 1 rfl (pe_lst (pc (ct (call_tuple_rng rfl) T.tuple (pc (ct call_range1 T.range (pc (cb (lenK K) T.len (pc (pe_ix (ixL K) (vn 0) pe_int (fun _ _ => rfl)) pa_nil)) pa_nil)) pa_nil)) pa_nil)))
   (pss_cons (sset 2 rfl pe_int)
   (pss_cons (ps_while PassesOwn.never (pt_cmpR op_lt (vn 2) (cb (lenK K) T.len (pc (vn 1) pa_nil)) (nomark _))
    (pss_cons (ps_for PassesOwn.never rfl (itL K (vn 0)) (gn 3)
     (pss_cons (sset 4 rfl (ct call_tuple_of T.tuple (pc (cmp ["_law_place"] [1, 2] ["_law_place", "_law_found", "_law_at"] rfl (itT K (vn 3)) (fun _ _ _ _ _ => gn 0) (fun _ _ _ _ _ => pif_nil)
      (fun _ _ _ _ _ => pe_ix (ixT K) (pe_ix (ixL K) (vn 1) (vn 2) (fun _ _ => rfl)) (vn 0) (fun _ _ => rfl))) pa_nil)))
     (pss_one (ps_if (pt_cmpR (ninDK K hr.units) (vn 4) (vn 1) (by rfl)) (pss_one (ps_expr (pe_bm PySem.F.plainAttrs_list PySem.F.slot_list_append PySem.F.type_list_append mt_append (vn 1) (pc (vn 4) pa_nil)))) pss_nil))))
    (pss_one (sset 2 rfl (pe_op op_add (vn 2) pe_int)))))
   (pss_cons (sset 1 rfl (cb call_sortT TS.sorted (pc (vn 1) pa_nil)))
   (pss_cons (sset 5 rfl (pe_lst pa_nil))
   (pss_cons (ps_for PassesOwn.never rfl (itL K (vn 1)) (gnf 6 rfl)
    (pss_cons (sset 7 rfl (pe_lst pa_nil))
    (pss_cons (ps_for PassesOwn.never rfl (itL K (vn 1)) (gn 4)
     (pss_one (ps_expr (pe_bm PySem.F.plainAttrs_list PySem.F.slot_list_append PySem.F.type_list_append mt_append (vn 7)
      (pc (pe_bm PySem.F.plainAttrs_list PySem.F.slot_list_index PySem.F.type_list_index (lixK K hr.units) (vn 1)
       (pc (ct call_tuple_of T.tuple (pc (cmp ["_law_place"] [6] ["_law_place", "_law_one"] rfl (itT K (vn 4)) (fun _ _ _ _ _ => gn 0) (fun _ _ _ _ _ => pif_nil)
        (fun _ _ _ _ _ => pe_ix (ixT K) (vn 1) (vn 0) (fun _ _ => rfl))) pa_nil)) pa_nil)) pa_nil)))))
    (pss_one (ps_expr (pe_bm PySem.F.plainAttrs_list PySem.F.slot_list_append PySem.F.type_list_append mt_append (vn 5) (pc (ct call_tupleW T.tuple (pc (vn 7) pa_nil)) pa_nil)))))))
   (pss_one (ps_ret (ct call_tuple_of T.tuple (pc (vn 5) pa_nil))))))))), ?_⟩
  have sz : (16777216 : Nat) = sizeLine := by decide
  have k1 := B.k1
  have k9 := B.k9
  have p1 := B.p1
  have p9 := B.p9
  have n60 := B.n60
  have gps : ∀ g ∈ ps, Gk k g := B.pl
  obtain ⟨b0, _, hat0, hb0⟩ := R0.get (i := 0) (by omega)
  have e0 : ((ps.getD 0 []).map nV).length = k := by rw [List.length_map]; exact (gps _ (memL (by omega))).1
  refine ⟨_, rfl, pl, _, _, _, rfl, rfl, .of R0.1, hat0, b0, _, rfl, .inr (.of hb0), _, rfl, fun r0 hr0 => ⟨r0, 0, _, rfl, upd_same, ⟨by omega, by omega, by rw [e0]; omega, by rw [e0]; omega⟩, by rw [e0]; omega, fun l hl => ?_⟩⟩
  rw [e0] at hl ⊢
  have ek : ((k : Int) - 0).toNat = k := by omega
  rw [ek] at *
  refine ⟨(by show 1 ≤ sizeLine; decide), fun F0 hF0 => ?_⟩
  have s1 : Same H (upd H r0 (.rng 0 (k : Int))) := Same.upd hr0
  have s2 := s1.trans (Same.upd (o := .tup ((rngI 0 k).map V.int)) hl)
  have s3 := s2.trans (Same.upd (o := .lst [.ref l]) hF0)
  have nF : H F0 = none := s2.free hF0
  have el : (rngI 0 k).map V.int = (List.range k).map nV := by
   unfold rngI
   rw [List.map_map]
   refine List.map_congr_left fun i _ => ?_
   show V.int (0 + (i : Int)) = nV i
   rw [Int.zero_add]
   rfl
  have R1 : TupsAt (upd (upd (upd H r0 (.rng 0 (k : Int))) l (.tup ((rngI 0 k).map V.int))) F0 (.lst [.ref l])) F0 [l] [List.range k] := by
   refine ⟨upd_same, rfl, fun i b hb => ?_⟩
   cases i with
   | zero =>
    cases hb
    rw [upd_ne (fun z => by rw [← z, upd_same] at hF0; cases hF0), upd_same, el]
    rfl
   | succ i => cases hb
  have g0 : ∀ y ∈ [List.range k], Gk k y := fun y hy => by
   rw [List.mem_singleton.mp hy]
   exact ⟨List.length_range, fun x hx => List.mem_range.mp hx⟩
  refine tw_intro (fun m σ' H' => ∃ (at' : Nat) (bs : List Addr) (yss : List (List Nat)) (v3 v4 : Option V), σ' = [some (.ref pl), some (.ref F0), some (.int at'), v3, v4, none, none, none] ∧ Same H H' ∧ TupsAt H' F0 bs yss ∧ (∀ y ∈ yss, Gk k y) ∧ m + at' = 61 ∧ bfs ps m at' yss = fd0)
   (fun σ' H' => ∃ (at' : Nat) (bs : List Addr) (v3 v4 : Option V), σ' = [some (.ref pl), some (.ref F0), some (.int at'), v3, v4, none, none, none] ∧ Same H H' ∧ TupsAt H' F0 bs fd0 ∧ (∀ y ∈ fd0, Gk k y)) ?hend ⟨61, 0, _, _, _, _, rfl, s3, R1, g0, rfl, B.fin⟩ ?turn
  case turn =>
   rintro hend m σ' H' ⟨at', bs, yss, v3, v4, rfl, sm, R, gd, hm, hb⟩
   have bl : (bs.map V.ref).length = yss.length := by rw [List.length_map, R.2.1]
   refine ⟨_, rfl, _, rfl, F0, _, rfl, .inl (.of R.1), _, _, rfl, rfl, _, rfl, ?_⟩
   rw [bl]
   refine ite2 (fun h1 => ?_) (fun h1 => ?_)
   ·have hat : at' < yss.length := by
     have := of_decide_eq_true h1
     omega
    cases m with
    | zero =>
     have hb : yss = fd0 := hb
     rw [hb] at hat
     omega
    | succ m =>
     rw [bfs, if_pos hat] at hb
     have hlen : (stepP (yss.getD at' []) ps yss).length ≤ 60 := by
      have := bfs_len ps m (at' + 1) (stepP (yss.getD at' []) ps yss)
      rw [hb] at this
      omega
     have gcur : Gk k (yss.getD at' []) := gd _ (memL hat)
     generalize hcur : yss.getD at' [] = cur at *
     have pll : (prs.map V.ref).length = ps.length := by rw [List.length_map, R0.2.1]
     refine ⟨_, fun _ _ z => z, _, rfl, pl, rfl, ⟨_, .of (sm _ _ R0.1)⟩, ?_⟩
     refine for_seq (H0 := H) (seq_lst (K := K) (.of R0.1)) (fun i τ HH => ∃ (bs' : List Addr) (w3 w4 : Option V), τ = [some (.ref pl), some (.ref F0), some (.int at'), w3, w4, none, none, none] ∧ Same H HH ∧ TupsAt HH F0 bs' (stepP cur (ps.take i) yss) ∧ (∀ y ∈ stepP cur (ps.take i) yss, Gk k y))
      ⟨bs, v3, v4, rfl, sm, R, gd⟩ (fun i τ HH h => h.choose_spec.choose_spec.choose_spec.2.1) ?_ ?_
     ·rintro i y τ HH hy ⟨bs', w3, w4, rfl, sH, R', gd'⟩
      obtain ⟨b, rfl, hi, hb0'⟩ := R0.ref hy
      have hbH := sH _ _ hb0'
      have gg : Gk k (ps.getD i []) := gps _ (memL hi)
      have pi : ps[i]? = some (ps.getD i []) := getL hi
      generalize ps.getD i [] = gp at *
      have hcl : (stepP cur (ps.take i) yss).length ≤ 60 := Nat.le_trans (stepP_more cur ps yss i) hlen
      have hat2 : at' < (stepP cur (ps.take i) yss).length := Nat.lt_of_lt_of_le hat (stepP_len cur _ yss)
      have ecur : (stepP cur (ps.take i) yss).getD at' [] = cur := by rw [stepP_at cur _ _ hat, hcur]
      have est := stepP_take cur (fd := yss) pi
      generalize stepP cur (ps.take i) yss = zs at *
      have gl := gg.1
      have cl := gcur.1
      refine ⟨_, rfl, b, rfl, ⟨_, .of hbH⟩, ?_⟩
      refine comp_map (seq_tup (.of hbH)) [some (.ref F0), some (.int at')] rfl (fAft cur) (by rw [List.length_map, gl]; omega) (fun j x HC hx sC R'' g2 => ?_) (fun D HD nD sD hD => ?_)
      ·obtain ⟨c, hc, rfl⟩ := nV_get hx
       have hck : c < k := gg.2 c (List.mem_of_getElem? hc)
       obtain ⟨bC, _, hatC, hbC⟩ := (R'.mono sC).get hat2
       rw [ecur] at hbC
       refine ⟨_, rfl, _, rfl, F0, _, _, _, rfl, rfl, .of (sC _ _ R'.1), hatC, _, rfl, bC, _, _, _, rfl, rfl, .of hbC, nv_at (by omega), ?_⟩
       have := g2 HC (Same.refl _)
       have e : fAft cur (.int (c : Nat)) = nV (cur.getD c 0) := by
        show nV (cur.getD (c : Int).toNat 0) = _
        rw [Int.toNat_natCast]
       rw [e] at this
       exact this
      ·rw [fAft_map] at hD
       refine ⟨D, _, rfl, .inl ⟨.of hD, fun tp ntp => ?_⟩⟩
       have sE := sD.trans (Same.upd (o := .tup ((aft cur gp).map nV)) ntp)
       have hE : upd HD tp (.tup ((aft cur gp).map nV)) tp = some (.tup ((aft cur gp).map nV)) := upd_same
       generalize upd HD tp (.tup ((aft cur gp).map nV)) = HE at sE hE ⊢
       have RE := R'.mono sE
       have go : Gk k (aft cur gp) := aft_good gcur gg
       have ey : (zs.map fun ns => PyData.tuple ((nI ns).map PyData.int)) = (zs.map nI).map fun ns => PyData.tuple (ns.map PyData.int) := by rw [List.map_map]; rfl
       refine ⟨_, rfl, _, rfl, F0, _, (zs.map fun ns => PyData.tuple ((nI ns).map PyData.int)), .tuple ((nI (aft cur gp)).map PyData.int), rfl, .inl (.of RE.1), rd_tupN _ _ RE.2.1 RE.2.2, .tup (.of (by rw [nI_V]; exact hE)) (RdDs.ints _), by rw [ey]; exact canLay_tups _, canLay_tup _, depth_tup _, _, rfl, ?_⟩
       rw [if_pos rfl, any_contains]
       have zl := RE.2.1
       refine ite2 (fun h2 => ?_) (fun h2 => ?_)
       ·have h2 : zs.contains (aft cur gp) = false := by simpa using h2
        have e3 : addP zs (aft cur gp) = zs ++ [aft cur gp] := by
         unfold addP
         rw [if_neg (by rw [h2]; decide)]
        refine ⟨_, rfl, .inl ⟨rfl, _, .of RE.1⟩, _, rfl, F0, _, _, rfl, rfl, RE.1, by rw [List.length_map]; omega, ?_⟩
        refine ⟨bs' ++ [tp], _, _, rfl, (sH.trans sE).updr nF, ?_, ?_⟩
        ·rw [est, e3]; exact RE.push hE
        ·rw [est]; exact addP_good gd' go
       ·have h2 : zs.contains (aft cur gp) = true := by simpa using h2
        have e3 : addP zs (aft cur gp) = zs := by
         unfold addP
         rw [if_pos h2]
        exact ⟨bs', _, _, rfl, sH.trans sE, by rw [est, e3]; exact RE, by rw [est, e3]; exact gd'⟩
     ·rintro τ HH ⟨bs', w3, w4, rfl, sH, R', gd'⟩
      rw [pll, List.take_length] at R' gd'
      exact ⟨_, rfl, _, _, rfl, rfl, m, by omega, at' + 1, bs', _, w3, w4, rfl, sH, R', gd', by omega, hb⟩
   ·have hat : ¬ at' < yss.length := fun z => h1 (decide_eq_true (by omega))
    have e : yss = fd0 := by
     cases m with
     | zero => exact hb
     | succ m => rw [bfs, if_neg hat] at hb; exact hb
    subst e
    exact hend _ _ ⟨at', bs, v3, v4, rfl, sm, R, gd⟩
  case hend =>
   rintro σ' H1 ⟨at', bs, v3, v4, rfl, sm, R, gd⟩
   have bl := R.2.1
   have n2 := B.n2
   refine ⟨_, rfl, F0, bs, fd0.map nI, p, rfl, R.1, by rw [List.length_map]; exact bl, by omega, by omega, fun i a hi => ?_, by rw [bl]; exact B.run, B.ps64, by rw [bl]; exact B.plt, fun D nD => ?_⟩
   ·have hif : i < fd0.length := by rw [← bl]; exact (List.getElem?_eq_some_iff.mp hi).1
    refine ⟨nI (fd0.getD i []), by rw [List.getElem?_map, getL hif]; rfl, fun z => ?_, by rw [nI_V]; exact R.2.2 i a hi⟩
    have h1 := (gd _ (memL hif)).1
    have h2 := congrArg List.length z
    unfold nI at h2
    rw [List.length_map, h1] at h2
    simp at h2
    omega
   have R2 := R.sort nD B.plt
   have s2 := sm.trans (Same.upd (o := .lst ((p.toList.map fun i => bs.getD i 0).map V.ref)) nD)
   generalize upd H1 D (.lst ((p.toList.map fun i => bs.getD i 0).map V.ref)) = H2 at R2 s2 ⊢
   generalize (p.toList.map fun i => bs.getD i 0) = cs at R2 ⊢
   have gsrt : ∀ y ∈ srtP p fd0, Gk k y := fun y hy => by
    obtain ⟨i, hi, rfl⟩ := List.mem_map.mp hy
    exact gd _ (memL (B.plt i hi))
   have inS := B.inS
   have tab := B.tab
   have sl : (srtP p fd0).length ≤ 64 := by
    unfold srtP
    rw [List.length_map, Array.length_toList]
    exact B.ps64
   generalize srtP p fd0 = srt at *
   have cl := R2.2.1
   refine ⟨(by show 0 ≤ sizeLine; decide), fun L nL => ?_⟩
   have s3 := Same.upd (H := H2) (o := .lst []) nL
   refine ⟨_, rfl, D, rfl, ⟨_, .of (s3 _ _ R2.1)⟩, ?_⟩
   refine for_seq (H0 := H2) (seq_lst (K := K) (.of R2.1)) (fun i τ HH => ∃ (rs : List Addr) (w4 w6 w7 : Option V), τ = [some (.ref pl), some (.ref D), some (.int at'), v3, w4, some (.ref L), w6, w7] ∧ Same H2 HH ∧ RowsAt HH L rs (fun i => srt.map fun b => srt.findIdx (· == aft (srt.getD i []) b)) ∧ rs.length = i)
    ⟨[], _, _, _, rfl, s3, ⟨upd_same, fun i r hr => by cases hr⟩, rfl⟩ (fun i τ HH h => h.choose_spec.choose_spec.choose_spec.choose_spec.2.1) ?_ ?_
   ·rintro i y τ HH hy ⟨rs, w4, w6, w7, rfl, sH, RR, rl⟩
    obtain ⟨a, rfl, hi, ha⟩ := R2.ref hy
    have ga := gsrt _ (memL hi)
    have ma := memL hi
    refine ⟨(by show 0 ≤ sizeLine; decide), fun l nl => ?_⟩
    have s4 := Same.upd (H := HH) (o := .lst []) nl
    refine ⟨_, rfl, D, rfl, ⟨_, .of (s4 _ _ (sH _ _ R2.1))⟩, ?_⟩
    refine for_seq (H0 := HH) (seq_lst (K := K) (.of (sH _ _ R2.1))) (fun j τ HI => ∃ (w4 : Option V), τ = [some (.ref pl), some (.ref D), some (.int at'), v3, w4, some (.ref L), some (.ref a), some (.ref l)] ∧ Same HH HI ∧ HI l = some (.lst (((srt.take j).map fun b => srt.findIdx (· == aft (srt.getD i []) b)).map nV)))
     ⟨_, rfl, s4, upd_same⟩ (fun j τ HI h => h.choose_spec.2.1) ?_ ?_
    ·rintro j y τ HI hy ⟨w4', rfl, sI, hl⟩
     obtain ⟨b, rfl, hj, hb⟩ := R2.ref hy
     have gb := gsrt _ (memL hj)
     have mb := memL hj
     have ej : srt[j]? = some (srt.getD j []) := getL hj
     have mo := inS _ ma _ mb
     generalize srt.getD j [] = Bb at *
     generalize hA : srt.getD i [] = Aa at *
     have sHI := sH.trans sI
     have hbI := sHI _ _ hb
     have haI := sHI _ _ ha
     have gbl := gb.1
     have gal := ga.1
     refine ⟨_, rfl, .inl ⟨rfl, _, .of hl⟩, _, rfl, .inl ⟨rfl, _, .of (sHI _ _ R2.1)⟩, _, rfl, b, rfl, ⟨_, .of hbI⟩, ?_⟩
     refine comp_map (seq_tup (.of hbI)) [some (.ref a)] rfl (fAft Aa) (by rw [List.length_map, gbl]; omega) (fun j' x HC hx sC R'' g2 => ?_) (fun D' HD nD' sD hD => ?_)
     ·obtain ⟨c, hc, rfl⟩ := nV_get hx
      have hck : c < k := gb.2 c (List.mem_of_getElem? hc)
      refine ⟨_, rfl, _, rfl, a, _, _, _, rfl, rfl, .of (sC _ _ haI), nv_at (by omega), ?_⟩
      have := g2 HC (Same.refl _)
      have e : fAft Aa (.int (c : Nat)) = nV (Aa.getD c 0) := by
       show nV (Aa.getD (c : Int).toNat 0) = _
       rw [Int.toNat_natCast]
      rw [e] at this
      exact this
     ·rw [fAft_map] at hD
      refine ⟨D', _, rfl, .inl ⟨.of hD, fun tp ntp => ?_⟩⟩
      have sE := sD.trans (Same.upd (o := .tup ((aft Aa Bb).map nV)) ntp)
      have hE : upd HD tp (.tup ((aft Aa Bb).map nV)) tp = some (.tup ((aft Aa Bb).map nV)) := upd_same
      generalize upd HD tp (.tup ((aft Aa Bb).map nV)) = HE at sE hE ⊢
      have RE := R2.mono (sHI.trans sE)
      have ey : (srt.map fun ns => PyData.tuple ((nI ns).map PyData.int)) = (srt.map nI).map fun ns => PyData.tuple (ns.map PyData.int) := by rw [List.map_map]; rfl
      have fl : srt.findIdx (· == aft Aa Bb) < srt.length := List.findIdx_lt_length.mpr ⟨_, mo, by simp⟩
      refine ⟨D, _, (srt.map fun ns => PyData.tuple ((nI ns).map PyData.int)), .tuple ((nI (aft Aa Bb)).map PyData.int), _, srt.findIdx (· == aft Aa Bb), rfl, rfl, RE.1, rd_tupN _ _ RE.2.1 RE.2.2, .tup (.of (by rw [nI_V]; exact hE)) (RdDs.ints _), by rw [ey]; exact canLay_tups _, canLay_tup _, depth_tup _, by rw [List.length_map]; exact fl, fun d hd => ?_, fun m d hm hd => ?_, ?_⟩
      ·rw [List.getElem?_map, List.getElem?_eq_getElem fl] at hd
       cases hd
       rw [eqvTN]
       exact decide_eq_true (eq_of_beq (List.findIdx_getElem (p := (· == aft Aa Bb)) (w := fl)))
      ·have hm' : m < srt.length := by omega
       rw [List.getElem?_map, List.getElem?_eq_getElem hm'] at hd
       cases hd
       rw [eqvTN]
       have hne := List.not_of_lt_findIdx (p := (· == aft Aa Bb)) (xs := srt) hm
       exact decide_eq_false (beq_eq_false_iff_ne.mp (by simpa using hne))
      ·refine ⟨l, _, _, rfl, rfl, sE _ _ hl, ?_, ?_⟩
       ·rw [List.length_map, List.length_map, List.length_take]; omega
       ·refine ⟨_, rfl, (sI.trans sE).updr nl, ?_⟩
        rw [upd_same, List.take_add_one, ej, List.map_append, List.map_append]
        rfl
    ·rintro τ HI ⟨w4', rfl, sI, hl⟩
     rw [List.length_map, cl, List.take_length] at hl
     have R3 := RR.mono sI
     refine ⟨_, rfl, .inl ⟨rfl, _, .of R3.1⟩, _, rfl, l, _, rfl, .of hl, fun tr H4 nt s5 hz => ?_⟩
     have R4 := R3.mono s5
     refine ⟨L, _, _, rfl, rfl, R4.1, by rw [List.length_map]; omega, ?_⟩
     exact ⟨rs ++ [tr], _, _, _, rfl, ((sH.trans sI).trans s5).updr nL, R4.push (by rw [rl]; exact hz), by rw [List.length_append, List.length_singleton, rl]⟩
   ·rintro τ HH ⟨rs, w4, w6, w7, rfl, sH, RR, rl⟩
    rw [List.length_map, cl] at rl
    refine ⟨_, rfl, L, _, rfl, .inl ⟨.of RR.1, fun gg ngg => ?_⟩⟩
    have GG := GT_of RR rl (Same.upd ngg) upd_same
    have er : ((List.range srt.length).map fun i => srt.map fun b => srt.findIdx (· == aft (srt.getD i []) b)) = t := by
     rw [← tab]
     unfold tabP
     refine List.ext_getElem? fun i => ?_
     rw [List.getElem?_map, List.getElem?_map]
     by_cases hi : i < srt.length
     ·rw [List.getElem?_range hi, getL hi]
      rfl
     ·rw [List.getElem?_eq_none (by rw [List.length_range]; omega), List.getElem?_eq_none (by omega)]
      rfl
    rw [er] at GG
    exact q gg _ ((s2.trans sH).trans (Same.upd ngg)) GG
end
end C6
namespace C6
open Tb PySem
def addF {β : Type} (fd : List (List Nat)) (o : List Nat) (k : List (List Nat) → β) : β := fNL o fun o' => if fd.contains o' then k fd else fTT (fd ++ [o']) k
theorem addF_eq {β : Type} (fd : List (List Nat)) (o : List Nat) (k : List (List Nat) → β) : addF fd o k = k (addP fd o) := by
 unfold addF addP
 rw [fNL_eq]
 split
 ·rfl
 ·rw [fTT_eq]
def stepF {β : Type} (cur : List Nat) : List (List Nat) → List (List Nat) → (List (List Nat) → β) → β
 | [], fd, k => k fd
 | p :: ps, fd, k => addF fd (aft cur p) fun fd' => stepF cur ps fd' k
theorem stepF_eq {β : Type} (cur : List Nat) : ∀ (ps fd : List (List Nat)) (k : List (List Nat) → β), stepF cur ps fd k = k (stepP cur ps fd)
 | [], fd, k => rfl
 | p :: ps, fd, k => by
  rw [stepF, addF_eq, stepF_eq cur ps]
  rfl
def bfsF {β : Type} (ps : List (List Nat)) : Nat → Nat → List (List Nat) → (List (List Nat) → β) → β
 | 0, _, fd, k => k fd
 | f + 1, at', fd, k => if at' < fd.length then fNL (fd.getD at' []) fun cur => stepF cur ps fd fun fd' => fN1 (at' + 1) fun a => bfsF ps f a fd' k else k fd
theorem bfsF_eq {β : Type} (ps : List (List Nat)) : ∀ (f at' : Nat) (fd : List (List Nat)) (k : List (List Nat) → β), bfsF ps f at' fd k = k (bfs ps f at' fd)
 | 0, _, fd, k => rfl
 | f + 1, at', fd, k => by
  rw [bfsF, bfs]
  split
  ·rw [fNL_eq, stepF_eq, fN1_eq, bfsF_eq ps f]
  ·rfl
def psL0 : List (List Nat) := [[1, 0, 2, 3], [1, 2, 3, 0]]
def fdL0 : List (List Nat) := [[0, 1, 2, 3], [1, 0, 2, 3], [1, 2, 3, 0], [0, 2, 3, 1], [2, 1, 3, 0], [2, 3, 0, 1], [2, 0, 3, 1], [2, 3, 1, 0], [1, 3, 0, 2], [3, 2, 0, 1], [3, 0, 1, 2], [0, 3, 1, 2], [3, 2, 1, 0], [3, 1, 0, 2], [3, 0, 2, 1], [2, 0, 1, 3], [3, 1, 2, 0], [2, 1, 0, 3], [0, 3, 2, 1], [0, 2, 1, 3], [0, 1, 3, 2], [1, 3, 2, 0], [1, 2, 0, 3], [1, 0, 3, 2]]
def pL0 : List Nat := [0, 20, 19, 3, 11, 18, 1, 23, 22, 2, 8, 21, 15, 6, 17, 4, 5, 7, 10, 14, 13, 16, 9, 12]
theorem fin0 : bfs psL0 61 0 [List.range 4] = fdL0 := by
 have h : bfsF psL0 61 0 [List.range 4] (fun fd => decide (fd = fdL0)) = true := by decide +kernel
 rw [bfsF_eq] at h
 exact of_decide_eq_true h
theorem run0 : PyZ.runB fdL0.length (fun i j => PyZ.ltB ((fdL0.map nI).getD i []) ((fdL0.map nI).getD j [])) (W.kas_sort fdL0.length) = some pL0.toArray := by decide +kernel
theorem tab0 : pwC (tabP (srtP pL0.toArray fdL0)) = true := by decide +kernel
def psL1 : List (List Nat) := [[1, 2, 0, 3], [1, 0, 3, 2]]
def fdL1 : List (List Nat) := [[0, 1, 2, 3], [1, 2, 0, 3], [1, 0, 3, 2], [2, 0, 1, 3], [2, 1, 3, 0], [0, 3, 1, 2], [0, 2, 3, 1], [1, 3, 2, 0], [3, 1, 0, 2], [3, 0, 2, 1], [2, 3, 0, 1], [3, 2, 1, 0]]
def pL1 : List Nat := [0, 6, 5, 2, 1, 7, 3, 4, 10, 9, 8, 11]
theorem fin1 : bfs psL1 61 0 [List.range 4] = fdL1 := by
 have h : bfsF psL1 61 0 [List.range 4] (fun fd => decide (fd = fdL1)) = true := by decide +kernel
 rw [bfsF_eq] at h
 exact of_decide_eq_true h
theorem run1 : PyZ.runB fdL1.length (fun i j => PyZ.ltB ((fdL1.map nI).getD i []) ((fdL1.map nI).getD j [])) (W.kas_sort fdL1.length) = some pL1.toArray := by decide +kernel
theorem tab1 : pwC (tabP (srtP pL1.toArray fdL1)) = true := by decide +kernel
def psL2 : List (List Nat) := [[1, 0, 2], [1, 2, 0]]
def fdL2 : List (List Nat) := [[0, 1, 2], [1, 0, 2], [1, 2, 0], [0, 2, 1], [2, 1, 0], [2, 0, 1]]
def pL2 : List Nat := [0, 3, 1, 2, 5, 4]
theorem fin2 : bfs psL2 61 0 [List.range 3] = fdL2 := by
 have h : bfsF psL2 61 0 [List.range 3] (fun fd => decide (fd = fdL2)) = true := by decide +kernel
 rw [bfsF_eq] at h
 exact of_decide_eq_true h
theorem run2 : PyZ.runB fdL2.length (fun i j => PyZ.ltB ((fdL2.map nI).getD i []) ((fdL2.map nI).getD j [])) (W.kas_sort fdL2.length) = some pL2.toArray := by decide +kernel
theorem tab2 : pwC (tabP (srtP pL2.toArray fdL2)) = true := by decide +kernel
def psL3 : List (List Nat) := [[1, 2, 3, 4, 0], [1, 2, 0, 3, 4]]
def fdL3 : List (List Nat) := [[0, 1, 2, 3, 4], [1, 2, 3, 4, 0], [1, 2, 0, 3, 4], [2, 3, 4, 0, 1], [2, 3, 1, 4, 0], [2, 0, 3, 4, 1], [2, 0, 1, 3, 4], [3, 4, 0, 1, 2], [3, 4, 2, 0, 1], [3, 1, 4, 0, 2], [3, 1, 2, 4, 0], [0, 3, 4, 1, 2], [0, 3, 2, 4, 1], [0, 1, 3, 4, 2], [4, 0, 1, 2, 3], [4, 0, 3, 1, 2], [4, 2, 0, 1, 3], [4, 2, 3, 0, 1], [1, 4, 0, 2, 3], [1, 4, 3, 0, 2], [1, 2, 4, 0, 3], [3, 4, 1, 2, 0], [3, 2, 4, 1, 0], [3, 2, 0, 4, 1], [1, 3, 4, 2, 0], [1, 3, 0, 4, 2], [0, 1, 4, 2, 3], [0, 3, 1, 2, 4], [2, 0, 4, 1, 3], [2, 3, 0, 1, 4], [4, 0, 2, 3, 1], [4, 3, 0, 2, 1], [4, 3, 1, 0, 2], [2, 4, 0, 3, 1], [2, 4, 1, 0, 3], [4, 1, 2, 0, 3], [4, 1, 3, 2, 0], [2, 4, 3, 1, 0], [3, 0, 4, 2, 1], [3, 0, 1, 4, 2], [1, 4, 2, 3, 0], [3, 1, 0, 2, 4], [0, 4, 1, 3, 2], [0, 4, 2, 1, 3], [3, 0, 2, 1, 4], [0, 2, 3, 1, 4], [0, 2, 4, 3, 1], [4, 1, 0, 3, 2], [1, 3, 2, 0, 4], [4, 3, 2, 1, 0], [0, 4, 3, 2, 1], [4, 2, 1, 3, 0], [1, 0, 2, 4, 3], [1, 0, 3, 2, 4], [0, 2, 1, 4, 3], [1, 0, 4, 3, 2], [3, 2, 1, 0, 4], [2, 1, 3, 0, 4], [2, 1, 4, 3, 0], [2, 1, 0, 4, 3]]
def pL3 : List Nat := [0, 13, 26, 54, 45, 46, 27, 12, 11, 42, 43, 50, 52, 53, 55, 2, 1, 20, 25, 48, 24, 18, 40, 19, 6, 5, 28, 59, 57, 58, 29, 4, 3, 33, 34, 37, 39, 44, 38, 41, 10, 9, 23, 56, 22, 7, 21, 8, 14, 30, 15, 47, 35, 36, 16, 51, 17, 31, 32, 49]
theorem fin3 : bfs psL3 61 0 [List.range 5] = fdL3 := by
 have h : bfsF psL3 61 0 [List.range 5] (fun fd => decide (fd = fdL3)) = true := by decide +kernel
 rw [bfsF_eq] at h
 exact of_decide_eq_true h
theorem run3 : PyZ.runB fdL3.length (fun i j => PyZ.ltB ((fdL3.map nI).getD i []) ((fdL3.map nI).getD j [])) (W.kas_sort fdL3.length) = some pL3.toArray := by decide +kernel
theorem tab3 : pwC (tabP (srtP pL3.toArray fdL3)) = true := by decide +kernel
end C6
namespace L2
open PySem PySem.Spec PyProof.Rows
theorem g3 (K : PySem.W.Frag) (i j l : Nat) {X : Cx} {x y z : Str} {k} {px py pz pos : Pos} (hc : X.calm = true) (hx : PG X (.Name x px) (gName i)) (hy : PG X (.Name y py) (gName j)) (hz : PG X (.Name z pz) (gName l)) (hK : X.K = K := by rfl)
  (hn : (assignEach [.Name x px, .Name y py, .Name z pz] X.env).length = 3 := by rfl) (hst : (assignEach [.Name x px, .Name y py, .Name z pz] X.env).findIdx? (·.1) = none := by rfl) :
  PG X (.Tuple [.Name x px, .Name y py, .Name z pz] k pos) (gTup K 3 (gCons (gName i) (gCons (gName j) (gCons (gName l) gNil)))) := hK ▸ pg_tup hc (pgs_cons hx (pgs_cons hy (pgs_cons hz pgs_nil))) hn hst
end L2
namespace C6
open PySem L2 PySem.Spec PyProof.Rows
open Tb
def nestN : List (List Nat) → Hp → (List V → Hp → Prop) → Prop
 | [], H, Q => Q [] H
 | x :: r, H, Q => (x.map nV).length ≤ sizeLine ∧ ∀ p, H p = none → nestN r (upd H p (.tup (x.map nV))) fun vs H2 => Q (.ref p :: vs) H2
theorem nestN_intro : ∀ (xss : List (List Nat)) (H : Hp) (Q : List V → Hp → Prop), (∀ x ∈ xss, x.length ≤ 1000) →
  (∀ (bs : List Addr) (H' : Hp), Same H H' → bs.length = xss.length → (∀ (i : Nat) b, bs[i]? = some b → H' b = some (.tup ((xss.getD i []).map nV))) → Q (bs.map V.ref) H') → nestN xss H Q
 | [], H, Q, _, q => q [] H (Same.refl _) rfl fun i b hb => by cases hb
 | x :: r, H, Q, hl, q => by
  have sz : (16777216 : Nat) = sizeLine := by decide
  refine ⟨?_, fun p hp => nestN_intro r _ _ (fun y hy => hl y (List.mem_cons_of_mem _ hy)) fun bs H' s' hb hi => ?_⟩
  ·have := hl x List.mem_cons_self
   rw [List.length_map]
   omega
  ·refine q (p :: bs) H' ((Same.upd hp).trans s') (by rw [List.length_cons, List.length_cons, hb]) fun i b hib => ?_
   cases i with
   | zero =>
    cases hib
    exact s' _ _ upd_same
   | succ i => exact hi i b hib
def nestL : List (List (List Nat)) → Hp → (List V → Hp → Prop) → Prop
 | [], H, Q => Q [] H
 | xss :: r, H, Q => nestN xss H fun vs H1 => vs.length ≤ sizeLine ∧ ∀ p, H1 p = none → nestL r (upd H1 p (.lst vs)) fun us H2 => Q (.ref p :: us) H2
theorem nestL_intro : ∀ (xsss : List (List (List Nat))) (H : Hp) (Q : List V → Hp → Prop), (∀ xss ∈ xsss, xss.length ≤ 1000 ∧ ∀ x ∈ xss, x.length ≤ 1000) →
  (∀ (ls : List Addr) (H' : Hp), Same H H' → ls.length = xsss.length → (∀ (i : Nat) l, ls[i]? = some l → H l = none ∧ ∃ bs, TupsAt H' l bs (xsss.getD i [])) → Q (ls.map V.ref) H') → nestL xsss H Q
 | [], H, Q, _, q => q [] H (Same.refl _) rfl fun i b hb => by cases hb
 | xss :: r, H, Q, hl, q => by
  have sz : (16777216 : Nat) = sizeLine := by decide
  obtain ⟨h1, h2⟩ := hl xss List.mem_cons_self
  refine nestN_intro xss H _ h2 fun bs H1 s1 hb hi => ⟨by rw [List.length_map]; omega, fun p hp => nestL_intro r _ _ (fun y hy => hl y (List.mem_cons_of_mem _ hy)) fun ls H' s' hls hi' => ?_⟩
  have s2 := s1.trans (Same.upd (o := .lst (bs.map V.ref)) hp)
  refine q (p :: ls) H' (s2.trans s') (by rw [List.length_cons, List.length_cons, hls]) fun i l hil => ?_
  cases i with
  | zero =>
   cases hil
   refine ⟨s1.free hp, bs, TupsAt.mono s' ⟨upd_same, hb, fun i b hib => ?_⟩⟩
   exact Same.upd (o := .lst (bs.map V.ref)) hp _ _ (hi i b hib)
  | succ i =>
   obtain ⟨h3, h4⟩ := hi' i l hil
   exact ⟨s2.free h3, h4⟩
section
variable {X : Cx}
def teT (x : List Nat) : TE := fun _ H Q => (x.map nV).length ≤ sizeLine ∧ ∀ p, H p = none → Q (.ref p) (upd H p (.tup (x.map nV)))
theorem pe_tupN (x : List Nat) {es : List Expr} {t : TA} {x1} {pos : Pos} (h : PA X es t) (e : t = fun _ H Q => Q (x.map nV) H) : PE X (.Tuple es x1 pos) (teT x) := by
 subst e
 exact pe_tup h
def taN (xss : List (List Nat)) : TA := fun _ H Q => nestN xss H Q
theorem pan_nil : PA X [] (taN []) := pa_nil
theorem pan {e : Expr} {es : List Expr} {x : List Nat} {xss : List (List Nat)} (h : PE X e (teT x)) (r : PA X es (taN xss)) (hs : noStar e = true := by rfl) : PA X (e :: es) (taN (x :: xss)) := pc h r hs
def teL (xss : List (List Nat)) : TE := fun _ H Q => nestN xss H fun vs H1 => vs.length ≤ sizeLine ∧ ∀ p, H1 p = none → Q (.ref p) (upd H1 p (.lst vs))
theorem pe_lstN {es : List Expr} {xss : List (List Nat)} {pos : Pos} (h : PA X es (taN xss)) : PE X (.List es pos) (teL xss) := pe_lst h
def taL (xsss : List (List (List Nat))) : TA := fun _ H Q => nestL xsss H Q
theorem pal_nil : PA X [] (taL []) := pa_nil
theorem pal {e : Expr} {es : List Expr} {xss : List (List Nat)} {xsss : List (List (List Nat))} (h : PE X e (teL xss)) (r : PA X es (taL xsss)) (hs : noStar e = true := by rfl) : PA X (e :: es) (taL (xss :: xsss)) := pc h r hs
structure QE (X : Cx) (e : Expr) (t : TE) : Prop where
 h : PE X e t
structure QA (X : Cx) (es : List Expr) (t : TA) : Prop where
 h : PA X es t
structure QS (X : Cx) (st : Stmt) (t : TS) : Prop where
 h : PS X st t
structure QSs (X : Cx) (sts : List Stmt) (t : TS) : Prop where
 h : PSs X sts t
theorem qi {i : Int} {j} {pos : Pos} : QE X (.Constant (.int i) j pos) (tC (.int i)) := ⟨pe_int⟩
theorem qa_nil : QA X [] tNil := ⟨pa_nil⟩
theorem qa {e : Expr} {es : List Expr} {te : TE} {t : TA} (h : QE X e te) (r : QA X es t) (hs : noStar e = true := by rfl) : QA X (e :: es) (tCons te t) := ⟨pc h.h r.h hs⟩
theorem qtupN (x : List Nat) {es : List Expr} {t : TA} {x1} {pos : Pos} (h : QA X es t) (e : t = fun _ H Q => Q (x.map nV) H) : QE X (.Tuple es x1 pos) (teT x) := ⟨pe_tupN x h.h e⟩
theorem qan_nil : QA X [] (taN []) := ⟨pan_nil⟩
theorem qan {e : Expr} {es : List Expr} {x : List Nat} {xss : List (List Nat)} (h : QE X e (teT x)) (r : QA X es (taN xss)) (hs : noStar e = true := by rfl) : QA X (e :: es) (taN (x :: xss)) := ⟨pan h.h r.h hs⟩
theorem qlstN {es : List Expr} {xss : List (List Nat)} {pos : Pos} (h : QA X es (taN xss)) : QE X (.List es pos) (teL xss) := ⟨pe_lstN h.h⟩
theorem qal_nil : QA X [] (taL []) := ⟨pal_nil⟩
theorem qal {e : Expr} {es : List Expr} {xss : List (List Nat)} {xsss : List (List (List Nat))} (h : QE X e (teL xss)) (r : QA X es (taL xsss)) (hs : noStar e = true := by rfl) : QA X (e :: es) (taL (xss :: xsss)) := ⟨pal h.h r.h hs⟩
theorem qlst {es : List Expr} {t : TA} {pos : Pos} (h : QA X es t) : QE X (.List es pos) (tLst t) := ⟨pe_lst h.h⟩
theorem q_set (i : Nat) {x : Str} {e : Expr} {te : TE} {pos pos' : Pos} (hf : X.fn x = true) (he : QE X e te) (hi : X.N[i]? = some x := by rfl) (hN : nodupS X.N = true := by kernel_rfl) (hx : isLoc X.env.scope x = true := by kernel_rfl)
  (hs : swapsWith e (some (.Name x pos')) pos.line X.env = pure false := by rfl) : QS X (.Assign [.Name x pos'] e pos) (tAsg te (gName i)) := ⟨sset i hf he.h hi hN hx hs⟩
theorem q_cons {st : Stmt} {rest : List Stmt} {t u : TS} (h1 : QS X st t) (h2 : QSs X rest u) : QSs X (st :: rest) (tSeq t u) := ⟨pss_cons h1.h h2.h⟩
theorem q_if {c : Expr} {a b : List Stmt} {tc : TT} {t u : TS} {pos : Pos} (hc : PT X c tc) (ha : QSs X a t) (hb : PSs X b u) : PS X (.If c a b pos) (tIfS tc t u) := ps_if hc ha.h hb
theorem q_ix {r : R2} {a b : Expr} {ta tb : TE} {pos : Pos} (hr : IxR X r) (ha : QE X a ta) (hb : PE X b tb) (hs : PlainIx b) : QE X (.Subscript a b pos) (tOp r ta tb) := ⟨pe_ix hr ha.h hb hs⟩
theorem QSs.out {sts : List Stmt} {t : TS} (h : QSs X sts t) : PSs X sts t := h.h
theorem q_op {op : Operator} {r : R2} {a b : Expr} {ta tb : TE} {pos : Pos} (ho : OpR X (binaryOp op) r) (ha : PE X a ta) (hb : QE X b tb) : PE X (.BinOp a op b pos) (tOp r ta tb) := pe_op ho ha hb.h
theorem seq_asg {te : TE} {g : TG} {u : TS} {D : Ends} {σ : L2.St} {H : Hp} (h : te σ H fun x H1 => g x σ H1 (u D)) : tSeq (tAsg te g) u D σ H := h
theorem op_first {r : R2} {ta tb : TE} {σ : L2.St} {H : Hp} {Q : VK} (h : ta σ H fun x H1 => tb σ H1 fun y H2 => r x y H2 Q) : tOp r ta tb σ H Q := h
theorem tL_intro (xsss : List (List (List Nat))) {σ : L2.St} {H : Hp} {Q : VK} (hl : ∀ xss ∈ xsss, xss.length ≤ 1000 ∧ ∀ x ∈ xss, x.length ≤ 1000) (hk : xsss.length ≤ 1000)
  (q : ∀ (ls : List Addr) (H' : Hp), Same H H' → ls.length = xsss.length → (∀ (i : Nat) l, ls[i]? = some l → H l = none ∧ ∃ bs, TupsAt H' l bs (xsss.getD i [])) → ∀ S, H' S = none → Q (.ref S) (upd H' S (.lst (ls.map V.ref)))) : tLst (taL xsss) σ H Q := by
 have sz : (16777216 : Nat) = sizeLine := by decide
 exact nestL_intro xsss H _ hl fun ls H' s' h1 h2 => ⟨by rw [List.length_map]; omega, q ls H' s' h1 h2⟩
theorem tN_intro (xss : List (List Nat)) {σ : L2.St} {H : Hp} {Q : VK} (hl : ∀ x ∈ xss, x.length ≤ 1000) (hk : xss.length ≤ 1000)
  (q : ∀ (bs : List Addr) (H' : Hp), Same H H' → bs.length = xss.length → (∀ (i : Nat) b, bs[i]? = some b → H' b = some (.tup ((xss.getD i []).map nV))) → ∀ S, H' S = none → Q (.ref S) (upd H' S (.lst (bs.map V.ref)))) : teL xss σ H Q := by
 have sz : (16777216 : Nat) = sizeLine := by decide
 exact nestN_intro xss H _ hl fun bs H' s' h1 h2 => ⟨by rw [List.length_map]; omega, q bs H' s' h1 h2⟩
end
theorem inS_of {srt : List (List Nat)} (Pt : PW (tabP srt)) : ∀ a ∈ srt, ∀ b ∈ srt, aft a b ∈ srt := by
 intro a ha b hb
 obtain ⟨i, hi⟩ := List.getElem?_of_mem ha
 obtain ⟨j, hj⟩ := List.getElem?_of_mem hb
 have hl : (tabP srt).length = srt.length := by unfold tabP; rw [List.length_map]
 have il := (List.getElem?_eq_some_iff.mp hi).1
 have jl := (List.getElem?_eq_some_iff.mp hj).1
 have h := Pt.lt i j (by rw [hl]; exact il) (by rw [hl]; exact jl)
 have e : mul (tabP srt) i j = srt.findIdx (· == aft a b) := by
  unfold mul tabP
  rw [List.getD_eq_getElem?_getD, List.getD_eq_getElem?_getD, List.getElem?_map, hi]
  show (Option.getD (srt.map _)[j]? 0) = _
  rw [List.getElem?_map, hj]
  rfl
 rw [e, hl] at h
 obtain ⟨x, hx, hx2⟩ := List.findIdx_lt_length.mp h
 rw [← eq_of_beq hx2]
 exact hx
def tL0 : List (List Nat) := tabP (srtP pL0.toArray fdL0)
def tL1 : List (List Nat) := tabP (srtP pL1.toArray fdL1)
def tL2 : List (List Nat) := tabP (srtP pL2.toArray fdL2)
def tL3 : List (List Nat) := tabP (srtP pL3.toArray fdL3)
theorem ptL0 : PW tL0 := pwC_of tab0
theorem ptL1 : PW tL1 := pwC_of tab1
theorem ptL2 : PW tL2 := pwC_of tab2
theorem ptL3 : PW tL3 := pwC_of tab3
theorem bp0 : ByP 4 psL0 fdL0 pL0.toArray tL0 := ⟨by decide, by decide, by decide, by decide, by decide +kernel, fin0, by decide +kernel, by decide +kernel, run0, by decide +kernel, by decide +kernel, rfl, inS_of ptL0⟩
theorem bp1 : ByP 4 psL1 fdL1 pL1.toArray tL1 := ⟨by decide, by decide, by decide, by decide, by decide +kernel, fin1, by decide +kernel, by decide +kernel, run1, by decide +kernel, by decide +kernel, rfl, inS_of ptL1⟩
theorem bp2 : ByP 3 psL2 fdL2 pL2.toArray tL2 := ⟨by decide, by decide, by decide, by decide, by decide +kernel, fin2, by decide +kernel, by decide +kernel, run2, by decide +kernel, by decide +kernel, rfl, inS_of ptL2⟩
theorem bp3 : ByP 5 psL3 fdL3 pL3.toArray tL3 := ⟨by decide, by decide, by decide, by decide, by decide +kernel, fin3, by decide +kernel, by decide +kernel, run3, by decide +kernel, by decide +kernel, rfl, inS_of ptL3⟩
theorem TupsAt.dr {H H' : Hp} {p L : Addr} {bs : List Addr} {yss : List (List Nat)} (F : Feed H p) (d : Dr p H H') (hL : L ≠ p) (R : TupsAt H L bs yss) : TupsAt H' L bs yss := ⟨d.keep _ _ R.1 hL, R.2.1, fun i b hb => d.tup F (R.2.2 i b hb)⟩
def tri7 : List (List Nat) := [[5, 4, 2], [7, 3, 2], [3, 4, 2], [8, 2, 3], [8, 2, 5], [4, 4, 3], [9, 3, 4]]
def tri6 : List (List Nat) := [[2, 1, 1], [3, 1, 1], [4, 1, 1], [5, 1, 1], [3, 2, 2], [4, 2, 3]]
def triB (x : List Nat) : Bool := decide (x.length = 3) && decide (1 ≤ x.getD 0 0) && decide (1 ≤ x.getD 1 0) && decide (x.getD 0 0 * x.getD 1 0 ≤ 60) && decide (x.getD 2 0 ≤ 60) && decide (x.getD 0 0 ≤ 60) && decide (x.getD 1 0 ≤ 60)
theorem tri7_ok : (tri7.all fun x => triB x && pwC (tw (x.getD 0 0) (x.getD 1 0) (x.getD 2 0))) = true := by decide +kernel
theorem tri6_ok : (tri6.all fun x => triB x && pwC (tw (x.getD 0 0) (x.getD 1 0) (x.getD 2 0)) && ((List.range 3).all fun i => pwC (pt (tw (i + 1) 1 1) (tw (x.getD 0 0) (x.getD 1 0) (x.getD 2 0))) && decide ((tw (i + 1) 1 1).length * (tw (x.getD 0 0) (x.getD 1 0) (x.getD 2 0)).length ≤ 60))) = true := by decide +kernel
theorem tri_of {x : List Nat} (h : triB x = true) : ∃ a b c, x = [a, b, c] ∧ x.getD 0 0 = a ∧ x.getD 1 0 = b ∧ x.getD 2 0 = c ∧ 1 ≤ a ∧ 1 ≤ b ∧ a * b ≤ 60 ∧ c ≤ 60 ∧ a ≤ 60 ∧ b ≤ 60 := by
 unfold triB at h
 simp only [Bool.and_eq_true, decide_eq_true_eq] at h
 obtain ⟨⟨⟨⟨⟨⟨h1, h2⟩, h3⟩, h4⟩, h5⟩, h6⟩, h7⟩ := h
 match x, h1 with
 | [a, b, c], _ => exact ⟨a, b, c, rfl, rfl, rfl, rfl, h2, h3, h4, h5, h6, h7⟩
theorem refs_at {bs : List Addr} {i : Nat} (h : i < bs.length) : ∃ b, bs[i]? = some b ∧ atI (bs.map V.ref) (i : Int) = some (.ref b) := ⟨_, List.getElem?_eq_getElem h, atI_nat (by rw [List.getElem?_map, List.getElem?_eq_getElem h]; rfl)⟩
section
variable {P : Program} {w : World} {K : PySem.W.Frag} {mg : Str → Option Value} {base : Heap}
theorem scOne : FnScope ["_law_feed_here", "_law_way", "_law_some", "_law_m", "_law_many", "_law_u", "_law_one", "_law_other_here"] ["_law_feed_here"] (defScope sOne) := FS
theorem ok_one {f : Addr} {fd : FuncData} (F : Fun K "_law_one_group" "_law_one_group" sOne f fd) (GD : Fn P w K mg base CX0 1 "_law_draw" ["_law_feed_here", "_law_many"] spDraw)
  (GT' : Fn P w K mg base CX0 1 "_law_twined" ["_law_m", "_law_many", "_law_u"] spTw) (GE : Fn P w K mg base CX0 1 "_law_eight" ["_law_m"] spEight) (GB : Fn P w K mg base CX0 1 "_law_by_perms" ["_law_perms"] spByP) (GP : Fn P w K mg base CX0 1 "_law_put" ["_law_one", "_law_other_here"] spPut) :
  FnOk P w K mg base CX0 2 f fd ["_law_feed_here"] spOne := by
 refine F.ok scOne (fun vs H Q E h => ?_) (fun cdv A outer s H vs Q E hr h => ?_)
 ·obtain ⟨p, rfl, _⟩ := h; rfl
 ·obtain ⟨p, rfl, F0, q⟩ := h
  refine ⟨_, pss_cons (sset 1 rfl (fnc GD hr pass0 (pc (vn 0) (pc pe_int pa_nil))))
   (pss_cons (ps_if (pt_cmpR op_eq (vn 1) pe_int (nomark _)) (pss_one (ps_ret (fnc GE hr pass0 (pc (pe_op op_add pe_int (fnc GD hr pass0 (pc (vn 0) (pc pe_int pa_nil)))) pa_nil)))) pss_nil)
   (pss_cons (q_if (pt_cmpR op_eq (vn 1) pe_int (nomark _))
    (q_cons (q_set 2 rfl (qlst (qal (qlstN (qan (qtupN [1, 0, 2, 3] (qa qi (qa qi (qa qi (qa qi qa_nil)))) (by rfl)) (qan (qtupN [1, 2, 3, 0] (qa qi (qa qi (qa qi (qa qi qa_nil)))) (by rfl)) qan_nil))) (qal (qlstN (qan (qtupN [1, 2, 0, 3] (qa qi (qa qi (qa qi (qa qi qa_nil)))) (by rfl)) (qan (qtupN [1, 0, 3, 2] (qa qi (qa qi (qa qi (qa qi qa_nil)))) (by rfl)) qan_nil))) (qal (qlstN (qan (qtupN [1, 0, 2] (qa qi (qa qi (qa qi qa_nil))) (by rfl)) (qan (qtupN [1, 2, 0] (qa qi (qa qi (qa qi qa_nil))) (by rfl)) qan_nil))) qal_nil)))))
    ⟨pss_one (ps_ret (fnc GB hr pass0 (pc (pe_ix (ixL K) (q_op op_cat (vn 2) (qlst (qal (qlstN (qan (qtupN [1, 2, 3, 4, 0] (qa qi (qa qi (qa qi (qa qi (qa qi qa_nil))))) (by rfl)) (qan (qtupN [1, 2, 0, 3, 4] (qa qi (qa qi (qa qi (qa qi (qa qi qa_nil))))) (by rfl)) qan_nil))) qal_nil))) (fnc GD hr pass0 (pc (vn 0) (pc pe_int pa_nil))) (fun _ _ => rfl)) pa_nil)))⟩) pss_nil)
   (pss_cons (ps_if (pt_cmpR op_lt (vn 1) pe_int (nomark _)) (pss_one (ps_ret (fnc GT' hr pass0 (pc (pe_op op_add pe_int (fnc GD hr pass0 (pc (vn 0) (pc pe_int pa_nil)))) (pc pe_int (pc pe_int pa_nil)))))) pss_nil)
   (pss_cons (ps_if (pt_cmpR op_lt (vn 1) pe_int (nomark _))
    (pss_cons (sset 3 rfl (pe_op op_add pe_int (fnc GD hr pass0 (pc (vn 0) (pc pe_int pa_nil)))))
    (pss_one (ps_ret (fnc GT' hr pass0 (pc (vn 3) (pc pe_int (pc (pe_op op_sub (vn 3) pe_int) pa_nil))))))) pss_nil)
   (pss_cons (q_if (pt_cmpR op_lt (vn 1) pe_int (nomark _))
    (q_cons (q_set 2 rfl (qlstN (qan (qtupN [5, 4, 2] (qa qi (qa qi (qa qi qa_nil))) (by rfl)) (qan (qtupN [7, 3, 2] (qa qi (qa qi (qa qi qa_nil))) (by rfl)) (qan (qtupN [3, 4, 2] (qa qi (qa qi (qa qi qa_nil))) (by rfl)) (qan (qtupN [8, 2, 3] (qa qi (qa qi (qa qi qa_nil))) (by rfl)) (qan (qtupN [8, 2, 5] (qa qi (qa qi (qa qi qa_nil))) (by rfl)) (qan (qtupN [4, 4, 3] (qa qi (qa qi (qa qi qa_nil))) (by rfl)) (qan (qtupN [9, 3, 4] (qa qi (qa qi (qa qi qa_nil))) (by rfl)) qan_nil)))))))))
    ⟨pss_cons (ps_asg (pe_ix (ixL K) (vn 2) (fnc GD hr pass0 (pc (vn 0) (pc pe_int pa_nil))) (fun _ _ => rfl)) (g3 K 3 4 5 rfl (gn 3) (gn 4) (gn 5)))
    (pss_one (ps_ret (fnc GT' hr pass0 (pc (vn 3) (pc (vn 4) (pc (vn 5) pa_nil))))))⟩) pss_nil)
   (QSs.out (q_cons ⟨sset 6 rfl (fnc GT' hr pass0 (pc (pe_op op_add pe_int (fnc GD hr pass0 (pc (vn 0) (pc pe_int pa_nil)))) (pc pe_int (pc pe_int pa_nil))))⟩
   (q_cons (q_set 7 rfl (q_ix (ixL K) (qlstN (qan (qtupN [2, 1, 1] (qa qi (qa qi (qa qi qa_nil))) (by rfl)) (qan (qtupN [3, 1, 1] (qa qi (qa qi (qa qi qa_nil))) (by rfl)) (qan (qtupN [4, 1, 1] (qa qi (qa qi (qa qi qa_nil))) (by rfl)) (qan (qtupN [5, 1, 1] (qa qi (qa qi (qa qi qa_nil))) (by rfl)) (qan (qtupN [3, 2, 2] (qa qi (qa qi (qa qi qa_nil))) (by rfl)) (qan (qtupN [4, 2, 3] (qa qi (qa qi (qa qi qa_nil))) (by rfl)) qan_nil))))))) (fnc GD hr pass0 (pc (vn 0) (pc pe_int pa_nil))) (fun _ _ => rfl)))
   ⟨pss_one (ps_ret (fnc GP hr pass0 (pc (vn 6) (pc (fnc GT' hr pass0 (pc (pe_ix (ixT K) (vn 7) pe_int (fun _ _ => rfl)) (pc (pe_ix (ixT K) (vn 7) pe_int (fun _ _ => rfl)) (pc (pe_ix (ixT K) (vn 7) pe_int (fun _ _ => rfl)) pa_nil)))) pa_nil))))⟩)))))))), ?_⟩
  have sz : (16777216 : Nat) = sizeLine := by decide
  refine ⟨_, rfl, p, 12, rfl, F0, by decide, by decide +kernel, fun r H1 _ _ d1 => ?_⟩
  have F1 := d1.feed F0
  have np : ∀ {b : Addr}, H1 b = none → b ≠ p := fun {b} hb => F1.ne_none hb
  refine ⟨_, rfl, rfl, _, rfl, ite2 (fun _ => ?_) (fun _ => ?_)⟩
  ·refine ⟨_, rfl, p, 4, rfl, F1, by decide, by decide +kernel, fun r2 H2 a0 a1 d2 => ?_⟩
   obtain ⟨j, rfl⟩ := Int.eq_ofNat_of_zero_le a0
   have hj : j < 4 := by omega
   refine ⟨_, _, rfl, rfl, j + 2, ?_, by omega, by omega, fun g H3 s3 G3 => q g _ H3 ((d1.trans d2).same s3) G3 (pwC_of (List.all_eq_true.mp pw_eg j (List.mem_range.mpr hj)))⟩
   show [V.int (2 + (j : Int))] = [V.int ((j + 2 : Nat) : Int)]
   rw [show (2 : Int) + (j : Int) = ((j + 2 : Nat) : Int) by omega]
  refine ⟨_, rfl, rfl, _, rfl, ite2 (fun _ => ?_) (fun _ => ?_)⟩
  ·refine seq_asg (tL_intro [psL0, psL1, psL2] (by decide) (by decide) fun ls H2 s2 hl2 hi2 S hS => ⟨_, rfl, ?_⟩)
   have s3 := Same.upd (H := H2) (o := .lst (ls.map V.ref)) hS
   refine tL_intro [psL3] (by decide) (by decide) fun ls' H3 s4 hl3 hi3 S' hS' => ?_
   have s5 := Same.upd (H := H3) (o := .lst (ls'.map V.ref)) hS'
   refine ⟨S, S', _, _, rfl, rfl, s5 _ _ (s4 _ _ upd_same), upd_same, by rw [List.length_map, List.length_map, hl2, hl3]; decide, fun S2 hS2 => ?_⟩
   rw [← List.map_append]
   have s6 := Same.upd (o := .lst ((ls ++ ls').map V.ref)) hS2
   have sA := (((s2.trans s3).trans s4).trans s5).trans s6
   have nS2 : H1 S2 = none := (((s2.trans s3).trans s4).trans s5).free hS2
   have F2 := F1.mono sA
   refine ⟨_, rfl, p, 4, rfl, F2, by decide, by decide +kernel, fun r2 H4 a0 a1 d2 => ?_⟩
   obtain ⟨j, rfl⟩ := Int.eq_ofNat_of_zero_le a0
   have hj : j < 4 := by omega
   have e4 : H4 S2 = some (.lst ((ls ++ ls').map V.ref)) := d2.keep _ _ upd_same (np nS2)
   have hll : (ls ++ ls').length = 4 := by rw [List.length_append, hl2, hl3]; decide
   obtain ⟨l, hlj, hat⟩ := refs_at (bs := ls ++ ls') (i := j) (by omega)
   refine ⟨S2, _, _, _, rfl, rfl, .of e4, hat, ?_⟩
   have get1 : ∀ {i : Nat}, i < 3 → (ls ++ ls')[i]? = some l → ∃ bs, TupsAt H4 l bs ([psL0, psL1, psL2].getD i []) := fun {i} h1 h2 => by
    rw [List.getElem?_append_left (by rw [hl2]; exact h1)] at h2
    obtain ⟨u1, bs, u2⟩ := hi2 i l h2
    exact ⟨bs, (u2.mono (((s3.trans s4).trans s5).trans s6)).dr F2 d2 (np u1)⟩
   have hj4 : j = 0 ∨ j = 1 ∨ j = 2 ∨ j = 3 := by omega
   rcases hj4 with rfl | rfl | rfl | rfl
   ·obtain ⟨bs, R⟩ := get1 (i := 0) (by decide) hlj
    exact ⟨l, bs, psL0, 4, _, _, _, rfl, R, bp0, fun g H5 s5' G => q g _ H5 (((d1.same sA).trans d2).same s5') G ptL0⟩
   ·obtain ⟨bs, R⟩ := get1 (i := 1) (by decide) hlj
    exact ⟨l, bs, psL1, 4, _, _, _, rfl, R, bp1, fun g H5 s5' G => q g _ H5 (((d1.same sA).trans d2).same s5') G ptL1⟩
   ·obtain ⟨bs, R⟩ := get1 (i := 2) (by decide) hlj
    exact ⟨l, bs, psL2, 3, _, _, _, rfl, R, bp2, fun g H5 s5' G => q g _ H5 (((d1.same sA).trans d2).same s5') G ptL2⟩
   ·rw [List.getElem?_append_right (by rw [hl2]; decide), hl2] at hlj
    obtain ⟨u1, bs, u2⟩ := hi3 0 l hlj
    have R := (u2.mono (s5.trans s6)).dr F2 d2 (np ((s2.trans s3).free u1))
    exact ⟨l, bs, psL3, 5, _, _, _, rfl, R, bp3, fun g H5 s5' G => q g _ H5 (((d1.same sA).trans d2).same s5') G ptL3⟩
  refine ⟨_, rfl, _, _, rfl, rfl, _, rfl, ite2 (fun _ => ?_) (fun _ => ?_)⟩
  ·refine ⟨_, rfl, p, 12, rfl, F1, by decide, by decide +kernel, fun r2 H2 a0 a1 d2 => ?_⟩
   obtain ⟨j, rfl⟩ := Int.eq_ofNat_of_zero_le a0
   have hj : j < 12 := by omega
   refine ⟨_, _, rfl, rfl, j + 1, 1, 1, ?_, by omega, by decide, by omega, by decide, by omega, by decide, fun g H3 s3 G3 => q g _ H3 ((d1.trans d2).same s3) G3 (pwC_of (List.all_eq_true.mp pw_tw1 j (List.mem_range.mpr hj)))⟩
   show [V.int (1 + (j : Int)), V.int 1, V.int 1] = [V.int ((j + 1 : Nat) : Int), V.int 1, V.int 1]
   rw [show (1 : Int) + (j : Int) = ((j + 1 : Nat) : Int) by omega]
  refine ⟨_, rfl, _, _, rfl, rfl, _, rfl, ite2 (fun _ => ?_) (fun _ => ?_)⟩
  ·refine ⟨_, rfl, p, 6, rfl, F1, by decide, by decide +kernel, fun r2 H2 a0 a1 d2 => ?_⟩
   obtain ⟨j, rfl⟩ := Int.eq_ofNat_of_zero_le a0
   have hj : j < 6 := by omega
   refine ⟨_, _, rfl, rfl, _, rfl, _, rfl, _, _, rfl, rfl, j + 3, 2, j + 2, ?_, by omega, by decide, by omega, by omega, by omega, by decide, fun g H3 s3 G3 => q g _ H3 ((d1.trans d2).same s3) G3 (pwC_of (List.all_eq_true.mp pw_tw2 j (List.mem_range.mpr hj)))⟩
   show [V.int (3 + (j : Int)), V.int 2, V.int (3 + (j : Int) - 1)] = [V.int ((j + 3 : Nat) : Int), V.int 2, V.int ((j + 2 : Nat) : Int)]
   rw [show (3 : Int) + (j : Int) - 1 = ((j + 2 : Nat) : Int) by omega, show (3 : Int) + (j : Int) = ((j + 3 : Nat) : Int) by omega]
  refine ⟨_, rfl, _, _, rfl, rfl, _, rfl, ite2 (fun _ => ?_) (fun _ => ?_)⟩
  ·refine seq_asg (tN_intro tri7 (by decide) (by decide) fun bs H2 s2 hb hi S hS => ?_)
   have s3 := s2.trans (Same.upd (H := H2) (o := .lst (bs.map V.ref)) hS)
   have F2 := F1.mono s3
   refine ⟨_, rfl, _, rfl, p, 7, rfl, F2, by decide, by decide +kernel, fun r2 H4 a0 a1 d2 => ?_⟩
   obtain ⟨j, rfl⟩ := Int.eq_ofNat_of_zero_le a0
   have hj : j < 7 := by omega
   obtain ⟨b, hbj, hat⟩ := refs_at (bs := bs) (i := j) (by rw [hb]; exact hj)
   have e4 : H4 S = some (.lst (bs.map V.ref)) := d2.keep _ _ upd_same (np (s2.free hS))
   have hx := List.all_eq_true.mp tri7_ok _ (memL (yss := tri7) (i := j) hj)
   rw [Bool.and_eq_true] at hx
   obtain ⟨a', b', c', e1, e2, e3, e5, t1, t2, t3, t4, t5, t6⟩ := tri_of hx.1
   have hb4 : H4 b = some (.tup [nV a', nV b', nV c']) := d2.tup F2 (by rw [Same.upd (o := .lst (bs.map V.ref)) hS _ _ (hi j b hbj), e1]; rfl)
   have Pt := hx.2
   rw [e2, e3, e5] at Pt
   exact ⟨S, _, _, _, rfl, rfl, .of e4, hat, b, _, rfl, .of hb4, rfl, _, _, rfl, _, _, rfl, _, _, rfl, rfl, _, rfl, _, rfl, _, rfl, a', b', c', rfl, t1, t2, (Nat.le_trans t3 (by decide)), (Nat.le_trans t4 (by decide)), (Nat.le_trans t5 (by decide)), (Nat.le_trans t6 (by decide)), fun g H3 s3' G3 => q g _ H3 (((d1.same s3).trans d2).same s3') G3 (pwC_of Pt)⟩
  ·refine ⟨_, rfl, p, 3, rfl, F1, by decide, by decide +kernel, fun r2 H2 a0 a1 d2 => ?_⟩
   obtain ⟨i, rfl⟩ := Int.eq_ofNat_of_zero_le a0
   have hi3 : i < 3 := by omega
   refine ⟨_, _, rfl, rfl, i + 1, 1, 1, ?_, by omega, by decide, by omega, by decide, by omega, by decide, fun g1 H3 s3 G1 => ?_⟩
   ·show [V.int (1 + (i : Int)), V.int 1, V.int 1] = [V.int ((i + 1 : Nat) : Int), V.int 1, V.int 1]
    rw [show (1 : Int) + (i : Int) = ((i + 1 : Nat) : Int) by omega]
   have d3 := (d1.trans d2).same s3
   have F3 := d3.feed F0
   refine seq_asg (op_first (tN_intro tri6 (by decide) (by decide) fun bs H4 s4 hb hi S hS => ?_))
   have s5 := s4.trans (Same.upd (H := H4) (o := .lst (bs.map V.ref)) hS)
   have F5 := F3.mono s5
   refine ⟨_, rfl, p, 6, rfl, F5, by decide, by decide +kernel, fun r2 H6 a0 a1 d6 => ?_⟩
   obtain ⟨j, rfl⟩ := Int.eq_ofNat_of_zero_le a0
   have hj : j < 6 := by omega
   obtain ⟨b, hbj, hat⟩ := refs_at (bs := bs) (i := j) (by rw [hb]; exact hj)
   have e4 : H6 S = some (.lst (bs.map V.ref)) := d6.keep _ _ upd_same (F3.ne_none (s4.free hS))
   have hx := List.all_eq_true.mp tri6_ok _ (memL (yss := tri6) (i := j) hj)
   rw [Bool.and_eq_true, Bool.and_eq_true] at hx
   obtain ⟨a', b', c', e1, e2, e3, e5, t1, t2, t3, t4, t5, t6⟩ := tri_of hx.1.1
   have hb4 : H6 b = some (.tup [nV a', nV b', nV c']) := d6.tup F5 (by rw [Same.upd (o := .lst (bs.map V.ref)) hS _ _ (hi j b hbj), e1]; rfl)
   have Pt := hx.1.2
   have Pp := List.all_eq_true.mp hx.2 i (List.mem_range.mpr hi3)
   rw [e2, e3, e5] at Pt Pp
   rw [Bool.and_eq_true, decide_eq_true_eq] at Pp
   have G6 := (G1.mono s5).dr F5 d6
   refine ⟨S, _, _, _, rfl, rfl, .of e4, hat, _, rfl, _, rfl, b, _, _, _, rfl, rfl, .of hb4, atI_nat (j := 0) rfl, _, rfl, b, _, _, _, rfl, rfl, .of hb4, atI_nat (j := 1) rfl, _, rfl, b, _, _, _, rfl, rfl, .of hb4, atI_nat (j := 2) rfl, a', b', c', rfl, t1, t2, (Nat.le_trans t3 (by decide)), (Nat.le_trans t4 (by decide)), (Nat.le_trans t5 (by decide)), (Nat.le_trans t6 (by decide)), fun g2 H7 s7 G2 => ?_⟩
   exact ⟨g1, g2, _, _, rfl, G6.mono s7, G2, pwC_of (List.all_eq_true.mp pw_tw1 i (List.mem_range.mpr (by omega))), pwC_of Pt, Pp.2, fun g H8 s8 G => q g _ H8 ((((d3.same s5).trans d6).same s7).same s8) G (pwC_of Pp.1)⟩
end
end C6
namespace PyY
open PySem
open AutoSeq1 (wpAny_loadPart')
section
variable {prog : Program} {w : World} {A : Around} {E : Value → Shared → Prop} {s : Shared}
theorem nextT_item {j a : Addr} {k : Nat} {us : Array Value} {y : Value} {Q : Value → Shared → Prop} (c : s.heap.IsTupleIter j a k) (d : s.heap.IsTuple a us) (e : us[k]? = some y)
  (q : ∀ g, g.IsTupleIter j a (k + 1) → Heap.SameBut j s.heap g → Q y { s with heap := g }) : wpAny (model prog w) A (Builtin.SmallTypes.nextOf (.ref j)) Q E s := by
 obtain ⟨oj, hj, cj, dj⟩ := id c
 obtain ⟨oa, ha, _, na, da⟩ := d
 unfold Builtin.SmallTypes.nextOf
 refine wpAny_bind (wpAny_callSpecial?_slot (name := Str.ofString "__next__") c.typeIs F.slot_tuple_iterator_next (wpAny_call_entry F.slot_tuple_iterator_next c.typeIs F.entry_tuple_iterator_next ?_ (F.args_tuple_iterator_next_1 _)))
 show wpAny _ _ (field (.ref j) 0 >>= _) _ _ s
 refine wpAny_bind (wpAny_field hj dj (x := .ref a) rfl ?_)
 show wpAny _ _ (if (Value.ref a == Value.none) = true then _ else _) _ _ s
 rw [if_neg (show ¬ ((Value.ref a == Value.none) = true) from Bool.false_ne_true)]
 show wpAny _ _ (field (.ref j) 1 >>= _) _ _ s
 refine wpAny_bind (wpAny_field hj dj (x := .int k 0) rfl ?_)
 show wpAny _ _ (seqItems? (.ref a) >>= _) _ _ s
 refine wpAny_bind (wpAny_seqItems ha da ?_)
 simp only [Int.toNat_natCast, e]
 refine wpAny_bind (wpAny_setField hj dj (by simp) (wpAny_pure ⟨y, rfl, wpAny_pure (q _ ?_ (Heap.SameBut.update ..))⟩))
 refine ⟨_, Heap.get?_update_self _ hj (Obj.isFreed_of_fields (Obj.data_mapFields dj _)), (Obj.cls_mapFields ..).trans cj, ?_⟩
 rw [Obj.data_mapFields dj]
 simp [rawInt]
theorem nextT_end {j a : Addr} {k : Nat} {us : Array Value} {Q : Value → Shared → Prop} (hn : A.handled = none) (c : s.heap.IsTupleIter j a k) (d : s.heap.IsTuple a us) (e : us[k]? = none)
  (q : ∀ g x, Heap.ExtBut j s.heap g → (∃ o, g.get? x = some o ∧ o.cls = .type "StopIteration") → E (.ref x) { s with heap := g }) : wpAny (model prog w) A (Builtin.SmallTypes.nextOf (.ref j)) Q E s := by
 obtain ⟨oj, hj, cj, dj⟩ := id c
 obtain ⟨oa, ha, _, na, da⟩ := d
 unfold Builtin.SmallTypes.nextOf
 refine wpAny_bind (wpAny_callSpecial?_slot (name := Str.ofString "__next__") c.typeIs F.slot_tuple_iterator_next (wpAny_call_entry F.slot_tuple_iterator_next c.typeIs F.entry_tuple_iterator_next ?_ (F.args_tuple_iterator_next_1 _)))
 show wpAny _ _ (field (.ref j) 0 >>= _) _ _ s
 refine wpAny_bind (wpAny_field hj dj (x := .ref a) rfl ?_)
 show wpAny _ _ (if (Value.ref a == Value.none) = true then _ else _) _ _ s
 rw [if_neg (show ¬ ((Value.ref a == Value.none) = true) from Bool.false_ne_true)]
 show wpAny _ _ (field (.ref j) 1 >>= _) _ _ s
 refine wpAny_bind (wpAny_field hj dj (x := .int k 0) rfl ?_)
 show wpAny _ _ (seqItems? (.ref a) >>= _) _ _ s
 refine wpAny_bind (wpAny_seqItems ha da ?_)
 simp only [Int.toNat_natCast, e]
 refine wpAny_bind (wpAny_rule (wpAny_bind (wpAny_setField hj dj (by simp) ?_)))
 show wpAny _ _ (newExc (.type "StopIteration") [] >>= _) _ _ { s with heap := _ }
 refine wpAny_bind ?_
 unfold newExc newTuple
 refine wpAny_bind (wpAny_newObj_type (Q := _) ?_ (by size_fits))
 refine wpAny_bind (m := firstArgMember _ _) (wpAny_of_eq (a := Value.none) (by first | rfl | (unfold firstArgMember; rfl)) ?_)
 refine wpAny_newObj_type (Q := _) ?_ (by size_fits)
 unfold raiseNew
 refine wpAny_bind (wpAny_handled ?_)
 have hn' : A.in1.handled = none := hn
 rw [hn']
 refine wpAny_bind (wpAny_pure (wpAny_throw (E := E) ?_))
 exact q _ _ (((Heap.SameBut.update ..).extBut.push _).push _) ⟨_, Heap.get?_push_size _ rfl, rfl⟩
theorem enumT_item {n j a : Addr} {k : Nat} {us : Array Value} {y old : Value} {Q : Option Value → Shared → Prop} (b : IsEnum s.heap n j k old) (c : s.heap.IsTupleIter j a k) (d : s.heap.IsTuple a us) (e : us[k]? = some y) (nj : n ≠ j)
  (q : ∀ g, IsEnumOut g n j ((k : Int) + 1) y s.heap.objs.size → g.IsTupleIter j a (k + 1) → g.get? s.heap.objs.size = some { cls := .type "tuple", data := .seq #[.int k s.toks, y] } → g.objs.size = s.heap.objs.size + 1 →
   (∀ x o, x ≠ n → x ≠ j → s.heap.get? x = some o → g.get? x = some o) → Q (some (.ref s.heap.objs.size)) { s with heap := g, toks := s.toks + 1 }) : wpAny (model prog w) A (pyNext (.ref n)) Q E s := by
 have tn : s.TypeIs (.ref n) "enumerate" := ⟨_, b, rfl⟩
 unfold pyNext
 refine wpAny_bind (wpAny_attempt (wpAny_callSpecial?_slot (name := Str.ofString "__next__") tn F.slot_enumerate_next (wpAny_call_entry F.slot_enumerate_next tn F.entry_enumerate_next ?_ (F.args_enumerate_next_1 _))))
 obtain ⟨g0, gs, dr, tk, os⟩ := s
 show wpAny _ _ (field (.ref n) 2 >>= _) _ _ _
 refine wpAny_bind (wpAny_field b rfl (x := .ref j) rfl ?_)
 refine wpAny_bind (nextT_item c d e fun g1 c1 s1 => ?_)
 replace s1 : Heap.SameBut j g0 g1 := s1
 have b1 : IsEnum g1 n j k old := (s1.2 n nj).trans b
 show wpAny _ _ (field (.ref n) 3 >>= _) _ _ ⟨g1, gs, dr, tk, os⟩
 refine wpAny_bind (wpAny_field b1 rfl (x := rawInt k) rfl ?_)
 show wpAny _ _ (field (.ref n) 4 >>= _) _ _ ⟨g1, gs, dr, tk, os⟩
 refine wpAny_bind (wpAny_field b1 rfl (x := .none) rfl ?_)
 show wpAny _ _ (mkInt k >>= _) _ _ ⟨g1, gs, dr, tk, os⟩
 refine wpAny_bind (wpAny_mkInt ?_)
 show wpAny _ _ (setField (.ref n) 3 (rawInt ((k : Int) + 1)) >>= _) _ _ ⟨g1, gs, dr, tk + 1, os⟩
 refine wpAny_bind (wpAny_setField_rec b1 (by simp) fun g2 b2 s2 => ?_)
 replace s2 : Heap.SameBut n g1 g2 := s2
 replace b2 : IsEnum g2 n j ((k : Int) + 1) old := b2
 show wpAny _ _ (setField (.ref n) 4 .none >>= _) _ _ ⟨g2, gs, dr, tk + 1, os⟩
 refine wpAny_bind (wpAny_setField_rec b2 (by simp) fun g3 b3 s3 => ?_)
 replace s3 : Heap.SameBut n g2 g3 := s3
 replace b3 : IsEnum g3 n j ((k : Int) + 1) old := b3
 show wpAny _ _ (newTuple [.int k tk, y] >>= _) _ _ ⟨g3, gs, dr, tk + 1, os⟩
 refine wpAny_bind (wpAny_newTuple ?_)
 have b4 : IsEnum (g3.push { cls := .type "tuple", data := .seq #[.int k tk, y] }) n j ((k : Int) + 1) old := Heap.get?_push_of_some _ b3
 generalize z4 : g3.push { cls := .type "tuple", data := .seq #[.int k tk, y] } = g4 at b4
 have sz : g3.objs.size = g0.objs.size := by rw [s3.1, s2.1, s1.1]
 have nl : n < g0.objs.size := Heap.lt_size b
 have t4 : g4.get? g0.objs.size = some { cls := .type "tuple", data := .seq #[.int k tk, y] } := by
  rw [← z4, ← sz]
  exact Heap.get?_push_size _ rfl
 have w4 : g4.objs.size = g0.objs.size + 1 := by
  rw [← z4, Heap.size_push, sz]
 have k4 : ∀ x o, x ≠ n → x ≠ j → g0.get? x = some o → g4.get? x = some o := fun x o xn xj hx => by
  rw [← z4]
  exact Heap.get?_push_of_some _ (s3.extBut x o xn (s2.extBut x o xn (s1.extBut x o xj hx)))
 have c4 : g4.IsTupleIter j a (k + 1) := by
  obtain ⟨o, ho, r⟩ := (c1.extBut s2.extBut (Ne.symm nj)).extBut s3.extBut (Ne.symm nj)
  rw [← z4]
  exact ⟨o, Heap.get?_push_of_some _ ho, r⟩
 show wpAny _ _ (Builtin.SmallTypes.ownedTupleIsFree (.ref n) >>= _) _ _ ⟨g4, gs, dr, tk + 1, os⟩
 rw [sz]
 clear z4 b3 s3 b2 s2 b1 s1 c1 sz g3 g2 g1
 refine wpAny_bind ?_
 unfold Builtin.SmallTypes.ownedTupleIsFree
 refine wpAny_bind (wpAny_field b4 rfl (x := .none) rfl (wpAny_pure ?_))
 rw [if_pos rfl]
 refine wpAny_bind (wpAny_rule (wpAny_bind (wpAny_field b4 rfl (x := old) rfl ?_)))
 refine wpAny_bind (wpAny_setField_rec b4 (by simp) fun g5 b5 s5 => ?_)
 replace s5 : Heap.SameBut n g4 g5 := s5
 replace b5 : IsEnum g5 n j ((k : Int) + 1) y := b5
 show wpAny _ _ (Builtin.SmallTypes.ownedTupleHandOut (.ref n) (.ref g0.objs.size) >>= _) _ _ ⟨g5, gs, dr, tk + 1, os⟩
 refine wpAny_bind ?_
 unfold Builtin.SmallTypes.ownedTupleHandOut
 refine wpAny_bind (wpAny_setField_rec b5 (by simp) fun g6 b6 s6 => ?_)
 replace s6 : Heap.SameBut n g5 g6 := s6
 replace b6 : IsEnumOut g6 n j ((k : Int) + 1) y g0.objs.size := b6
 refine wpAny_setField_rec b6 (by simp) fun g7 b7 s7 => ?_
 replace s7 : Heap.SameBut n g6 g7 := s7
 replace b7 : IsEnumOut g7 n j ((k : Int) + 1) y g0.objs.size := b7
 refine wpAny_bind (wpAny_letGo (wpAny_pure ⟨_, rfl, wpAny_pure (q g7 b7 ?_ ?_ ?_ ?_)⟩))
 ·exact ((c4.extBut s5.extBut (Ne.symm nj)).extBut s6.extBut (Ne.symm nj)).extBut s7.extBut (Ne.symm nj)
 ·exact s7.extBut _ _ (Nat.ne_of_gt nl) (s6.extBut _ _ (Nat.ne_of_gt nl) (s5.extBut _ _ (Nat.ne_of_gt nl) t4))
 ·rw [s7.1, s6.1, s5.1, w4]
 ·exact fun x o xn xj hx => s7.extBut x o xn (s6.extBut x o xn (s5.extBut x o xn (k4 x o xn xj hx)))
theorem enumT_end {n j a : Addr} {k : Nat} {us : Array Value} {old : Value} {Q : Option Value → Shared → Prop} (hn : A.handled = none) (b : IsEnum s.heap n j k old) (c : s.heap.IsTupleIter j a k) (d : s.heap.IsTuple a us) (e : us[k]? = none)
  (q : ∀ g, Heap.ExtBut j s.heap g → Q none { s with heap := g }) : wpAny (model prog w) A (pyNext (.ref n)) Q E s := by
 have tn : s.TypeIs (.ref n) "enumerate" := ⟨_, b, rfl⟩
 unfold pyNext
 refine wpAny_bind (wpAny_attempt (wpAny_callSpecial?_slot (name := Str.ofString "__next__") tn F.slot_enumerate_next (wpAny_call_entry F.slot_enumerate_next tn F.entry_enumerate_next ?_ (F.args_enumerate_next_1 _))))
 show wpAny _ _ (field (.ref n) 2 >>= _) _ _ _
 refine wpAny_bind (wpAny_field b rfl (x := .ref j) rfl ?_)
 refine wpAny_bind (nextT_end hn c d e fun g x xe xs => ?_)
 obtain ⟨o, ho, hc⟩ := xs
 refine wpAny_bind (wpAny_isInstance (T := "StopIteration") (b := true) ⟨o, ho, hc⟩ isSubtype_stop ?_)
 exact wpAny_pure (q _ xe)
theorem enumT_new (a : Addr) (us : Array Value) (n : Nat) (dd : Option Addr) (sl : Array (Option Value)) :
  Meets (Builtin.«enumerate.__new__» ⟨[.type "enumerate", .ref a], []⟩) (fun _ R s => s.heap.get? a = some { cls := .type "tuple", dict := dd, data := .seq us n, slots := sl } ∧
   R (.ok (.ret (.ref (s.heap.push { cls := .type "tuple_iterator", data := .fields #[.ref a, .int 0 0] }).objs.size)))
    { s with heap := (s.heap.push { cls := .type "tuple_iterator", data := .fields #[.ref a, .int 0 0] }).push { cls := .type "enumerate", data := .fields #[.none, .bool false, .ref s.heap.objs.size, rawInt 0, .none, .none] } }) :=
 .of_wp fun prog w A R s h => by
  obtain ⟨hh, gg, dr, tk, os⟩ := s
  obtain ⟨ha, h⟩ := h
  have sub := sub_enumerate
  have hT : Heap.IsTuple (Shared.heap ⟨hh, gg, dr, tk, os⟩) a us := ⟨_, ha, rfl, n, rfl⟩
  wp_walk using wpAny_loadPart' ha
  refine wpAny_stack_any fun st => wpAny_pure ?_
  split
  ·rename_i c1 _ _ _ _ _
   cases (c1 == Value.type "enumerate") <;> (wp_walk using wpAny_loadPart' ha, wpAny_pyIter_tuple hT) <;> exact ⟨_, rfl, h⟩
  ·wp_walk using wpAny_loadPart' ha, wpAny_pyIter_tuple hT
   exact ⟨_, rfl, h⟩
theorem call_enumT {a : Addr} {us : Array Value} {Q : Value → Shared → Prop} (hT : s.heap.IsTuple a us)
  (h : ∀ g, IsEnum g (s.heap.objs.size + 1) s.heap.objs.size 0 .none → g.IsTupleIter s.heap.objs.size a 0 → g.objs.size = s.heap.objs.size + 2 → (∀ b o, s.heap.get? b = some o → g.get? b = some o) → Q (.ref (s.heap.objs.size + 1)) { s with heap := g }) :
  wpAny (model prog w) A (call (.type "enumerate") [.ref a]) Q E s := by
 obtain ⟨⟨cc, dd, dt, sl⟩, ha, hc, n, hd⟩ := hT
 have hc' : cc = .type "tuple" := hc
 have hd' : dt = .seq us n := hd
 subst hc' hd'
 refine callType_new F.called_enumerate (by decide) (F.typeCall_enumerate_1 _) (F.newCall_enumerate_1 _) (fun obj => F.args_object_init_2 obj _) F.entry_enumerate_new (enumT_new a us n dd sl) ⟨ha, ?_⟩
 have hz : (s.heap.push { cls := .type "tuple_iterator", data := .fields #[.ref a, .int 0 0] }).objs.size = s.heap.objs.size + 1 := Heap.size_push ..
 show _ ∧ _
 rw [hz]
 have he : IsEnum ((s.heap.push { cls := .type "tuple_iterator", data := .fields #[.ref a, .int 0 0] }).push { cls := .type "enumerate", data := .fields #[.none, .bool false, .ref s.heap.objs.size, rawInt 0, .none, .none] }) (s.heap.objs.size + 1) s.heap.objs.size 0 .none := by
  have z := Heap.get?_push_size (s.heap.push { cls := .type "tuple_iterator", data := .fields #[.ref a, .int 0 0] }) (o := { cls := .type "enumerate", data := .fields #[.none, .bool false, .ref s.heap.objs.size, rawInt 0, .none, .none] }) rfl
  rw [hz] at z
  exact z
 exact ⟨⟨_, he, rfl⟩, h _ he ⟨_, Heap.get?_push_of_some _ (Heap.get?_push_size _ rfl), rfl, rfl⟩ (by rw [Heap.size_push, hz]) fun b o y => Heap.get?_push_of_some _ (Heap.get?_push_of_some _ y)⟩
end
end PyY
namespace L2
open PySem PySem.Spec PyProof.Rows
section
variable {X : Cx} {pins : List (Addr × Obj)} {σ : St} {H : Hp} {s : Shared} {h' : Heap}
theorem Inv.turnLay {t' : Nat} {ts : List Addr} {T : Addr} {o : HO} (I : Inv X pins σ H s) (k : ∀ b u, b ∉ ts → s.heap.get? b = some u → h'.get? b = some u) (ht : ∀ b ∈ ts, ∃ u, h'.get? b = some u) (hf : ∀ b ∈ ts, FpOk X pins H b) (hT : s.heap.objs.size ≤ T)
  (new : ObjOk X.prog X.w (upd H T o) h' T o) : Inv X pins σ (upd H T o) { s with heap := h', toks := t' } := by
 have fT : H T = none := I.hok.fresh hT
 have nts : ∀ b u, H b = some u → b ∉ ts := fun b u e z => by
  have := (hf b z).1
  rw [e] at this
  cases this
 refine I.call (ch := ts) (g' := s.gens) (d' := s.drawn) ⟨fun b u e _ _ nx => k b u nx e, fun b u e _ _ nx => ⟨u.slots, k b u nx e⟩, fun b u e n _ => ?_, fun b u e nx => ⟨u, k b u nx e⟩, fun b ys q => ?_, fun b u v q => ?_, fun b ps q => ⟨#[], ?_⟩⟩
  (fun b u e => ?_) I.bare fun b hb => ?_
 ·rw [upd_ne (Nat.ne_of_lt (Nat.lt_of_lt_of_le (Heap.lt_size e) hT))]
  exact n
 ·rw [upd_ne (ne_of_none q fT)]
  exact q
 ·rw [upd_ne (ne_of_none q fT)]
  exact q
 ·rw [upd_ne (ne_of_none q fT), q]
  simp
 ·by_cases hb : b = T
  ·subst hb
   rw [upd_same] at e
   cases e
   exact new
  ·rw [upd_ne hb] at e
   refine (I.hok b u e).stay (fun c v hc q => k c v ?_ q) (fun c r => by rw [upd_ne (ne_of_none r fT)]; exact r) fun c ys r => by rw [upd_ne (ne_of_none r fT)]; exact r
   rcases hc with z | z
   ·rw [z]
    exact nts b u e
   ·exact nts c _ z
 ·obtain ⟨f0, f1, f2, f3, f4, f5⟩ := hf b hb
  exact ⟨f3, f1, f4, f5⟩
theorem Inv.turnedL {t' : Nat} {ts : List Addr} (I : Inv X pins σ H s) (k : ∀ b u, b ∉ ts → s.heap.get? b = some u → h'.get? b = some u) (hf : ∀ b ∈ ts, FpOk X pins H b) : Inv X pins σ H { s with heap := h', toks := t' } := by
 have nts : ∀ b u, H b = some u → b ∉ ts := fun b u e z => by
  have := (hf b z).1
  rw [e] at this
  cases this
 refine I.call (ch := ts) (g' := s.gens) (d' := s.drawn) ⟨fun b u e _ _ nx => k b u nx e, fun b u e _ _ nx => ⟨u.slots, k b u nx e⟩, fun b u e n _ => n, fun b u e nx => ⟨u, k b u nx e⟩, fun b ys q => q, fun b u v q => q, fun b ps q => ⟨#[], by rw [q]; simp⟩⟩
  (fun b u e => ?_) I.bare fun b hb => ?_
 ·refine (I.hok b u e).stay (fun c v hc q => k c v ?_ q) (fun c r => r) fun c ys r => r
  rcases hc with z | z
  ·rw [z]
   exact nts b u e
  ·exact nts c _ z
 ·obtain ⟨f0, f1, f2, f3, f4, f5⟩ := hf b hb
  exact ⟨f3, f1, f4, f5⟩
end
def Itle (K : PySem.W.Frag) (a : Addr) : It :=
 ⟨fun i H => ∃ xs x, SqL K H a xs ∧ xs[i]? = some x, fun i H x H' => ∃ T y, x = .ref T ∧ H T = none ∧ H' = upd H T (.tup [.int i, y]) ∧ ∀ xs, SqL K H a xs → xs[i]? = some y, fun i H => ∃ xs, SqL K H a xs ∧ xs.length ≤ i⟩
def Itte (K : PySem.W.Frag) (a : Addr) : It :=
 ⟨fun i H => ∃ xs x, SqT K H a xs ∧ xs[i]? = some x, fun i H x H' => ∃ T y, x = .ref T ∧ H T = none ∧ H' = upd H T (.tup [.int i, y]) ∧ ∀ xs, SqT K H a xs → xs[i]? = some y, fun i H => ∃ xs, SqT K H a xs ∧ xs.length ≤ i⟩
theorem turn_enumL {P : Program} {w : World} {K : PySem.W.Frag} {elts : List Expr} {x1} {pos : Pos} (a e it : Addr) (ne : e ≠ it) :
  Turn P w K (.Tuple elts x1 pos) (Itle K a) [e, it] e (fun i h => (∃ old, IsEnum h e it i old) ∧ h.IsListIter it a i) where
 mem := by simp
 obj := fun i h st b hb => by
  obtain ⟨⟨old, se⟩, ⟨o, e1, c, d⟩⟩ := st
  rcases List.mem_cons.mp hb with rfl | hb
  ·exact ⟨_, se, fun v z => by
    have z' : Data.fields _ = Data.cell v := z
    cases z'⟩
  ·have q : b = it := by simpa using hb
   subst q
   exact ⟨o, e1, fun v z => by rw [d] at z; cases z⟩
 keep := fun i h h' st k => by
  obtain ⟨⟨old, se⟩, si⟩ := st
  exact ⟨⟨old, k e (by simp) _ se⟩, si.at fun o q => k it (by simp) o q⟩
 item := by
  intro X hP hw hK hc i pins s σ H E I hf st hg
  subst hP hw hK
  obtain ⟨⟨old, se⟩, si⟩ := st
  obtain ⟨xs, x, hq, hx⟩ := hg
  obtain ⟨its, rv, p, hz⟩ := I.list hq
  obtain ⟨u, hu, ru⟩ := rv.get hx
  refine wpAny_pyNext_enum_item se si p.isList (x := u) (by simpa using hu) ne fun h1 ho hi1 hT hsz hk => ?_
  refine ⟨_, rfl, wpAny_letOwnedTupleGo_enum ho fun h2 he2 hs2 => ?_⟩
  have le : e < s.heap.objs.size := Heap.lt_size se
  have hs3 : Heap.SameBut e h1 h2 := hs2
  have hT2 : h2.get? s.heap.objs.size = some { cls := .type "tuple", data := .seq #[.int i s.toks, u] } := (hs3.2 _ (Nat.ne_of_gt le)).trans hT
  have hi2 : h2.IsListIter it a (i + 1) := hi1.at fun o q => (hs3.2 it (Ne.symm ne)).trans q
  have he3 : IsEnum h2 e it ((i + 1 : Nat) : Int) u := by
   have := he2
   simpa using this
  have nT : H s.heap.objs.size = none := I.hok.fresh (Nat.le_refl _)
  have I2 := I.turnLay (t' := s.toks + 1) (h' := h2) (ts := [e, it]) (T := s.heap.objs.size) (o := .tup [.int i, x]) (fun b v hb q => ?_) (fun b hb => ?_) hf (Nat.le_refl _) ⟨by show 2 ≤ sizeLine; decide, [.int i s.toks, u], .cons ⟨_, rfl⟩ (.cons ru .nil), _, hT2, rfl, 0, rfl⟩
  ·refine ⟨.ref s.heap.objs.size, _, I2, rfl, ⟨_, x, rfl, nT, rfl, fun ys hy => by rw [I.list_inj hy hq]; exact hx⟩, ⟨⟨u, he3⟩, hi2⟩, fun b hb => ?_⟩
   have fb := (hf b hb).1
   have lb : b < s.heap.objs.size := by
    rcases List.mem_cons.mp hb with rfl | hb
    ·exact le
    ·have q : b = it := by simpa using hb
     subst q
     obtain ⟨o, e1, _⟩ := si
     exact Heap.lt_size e1
   rw [upd_ne (Nat.ne_of_lt lb)]
   exact fb
  ·have q1 : b ≠ e := fun z => hb (by simp [z])
   have q2 : b ≠ it := fun z => hb (by simp [z])
   exact (hs3.2 b q1).trans (hk b v q1 q2 q)
  ·rcases List.mem_cons.mp hb with rfl | hb
   ·exact ⟨_, he3⟩
   ·have q : b = it := by simpa using hb
    subst q
    obtain ⟨o, e1, _⟩ := hi2
    exact ⟨o, e1⟩
 done := by
  intro X hP hw hK hc i pins s σ H E I hf st hg
  subst hP hw hK
  obtain ⟨⟨old, se⟩, si⟩ := st
  obtain ⟨xs, hq, hx⟩ := hg
  obtain ⟨its, rv, p, hz⟩ := I.list hq
  have hl := rv.length
  exact wpAny_pyNext_enum_end (I.ok.hd hc) se si p.isList (by simp; omega) fun h1 eb => ⟨rfl, I.turnedL (t' := s.toks) (ts := [e, it]) (fun b o hb q => eb b o (fun z => hb (by simp [z])) q) hf⟩
 self := fun _ _ _ _ _ st h => by
  obtain ⟨⟨old, se⟩, si⟩ := st
  exact wpAny_pyIter_enum se h
theorem turn_enumT {P : Program} {w : World} {K : PySem.W.Frag} {elts : List Expr} {x1} {pos : Pos} (a e it : Addr) (ne : e ≠ it) :
  Turn P w K (.Tuple elts x1 pos) (Itte K a) [e, it] e (fun i h => (∃ old, IsEnum h e it i old) ∧ h.IsTupleIter it a i) where
 mem := by simp
 obj := fun i h st b hb => by
  obtain ⟨⟨old, se⟩, ⟨o, e1, c, d⟩⟩ := st
  rcases List.mem_cons.mp hb with rfl | hb
  ·exact ⟨_, se, fun v z => by
    have z' : Data.fields _ = Data.cell v := z
    cases z'⟩
  ·have q : b = it := by simpa using hb
   subst q
   exact ⟨o, e1, fun v z => by rw [d] at z; cases z⟩
 keep := fun i h h' st k => by
  obtain ⟨⟨old, se⟩, si⟩ := st
  exact ⟨⟨old, k e (by simp) _ se⟩, si.at fun o q => k it (by simp) o q⟩
 item := by
  intro X hP hw hK hc i pins s σ H E I hf st hg
  subst hP hw hK
  obtain ⟨⟨old, se⟩, si⟩ := st
  obtain ⟨xs, x, hq, hx⟩ := hg
  obtain ⟨its, rv, p, hz⟩ := I.tuple hq
  obtain ⟨u, hu, ru⟩ := rv.get hx
  refine PyY.enumT_item se si (show s.heap.IsTuple a its.toArray from p) (y := u) (by simpa using hu) ne fun h1 ho hi1 hT hsz hk => ?_
  refine ⟨_, rfl, wpAny_letOwnedTupleGo_enum ho fun h2 he2 hs2 => ?_⟩
  have le : e < s.heap.objs.size := Heap.lt_size se
  have hs3 : Heap.SameBut e h1 h2 := hs2
  have hT2 : h2.get? s.heap.objs.size = some { cls := .type "tuple", data := .seq #[.int i s.toks, u] } := (hs3.2 _ (Nat.ne_of_gt le)).trans hT
  have hi2 : h2.IsTupleIter it a (i + 1) := hi1.at fun o q => (hs3.2 it (Ne.symm ne)).trans q
  have he3 : IsEnum h2 e it ((i + 1 : Nat) : Int) u := by
   have := he2
   simpa using this
  have nT : H s.heap.objs.size = none := I.hok.fresh (Nat.le_refl _)
  have I2 := I.turnLay (t' := s.toks + 1) (h' := h2) (ts := [e, it]) (T := s.heap.objs.size) (o := .tup [.int i, x]) (fun b v hb q => ?_) (fun b hb => ?_) hf (Nat.le_refl _) ⟨by show 2 ≤ sizeLine; decide, [.int i s.toks, u], .cons ⟨_, rfl⟩ (.cons ru .nil), _, hT2, rfl, 0, rfl⟩
  ·refine ⟨.ref s.heap.objs.size, _, I2, rfl, ⟨_, x, rfl, nT, rfl, fun ys hy => by rw [I.tuple_inj hy hq]; exact hx⟩, ⟨⟨u, he3⟩, hi2⟩, fun b hb => ?_⟩
   have fb := (hf b hb).1
   have lb : b < s.heap.objs.size := by
    rcases List.mem_cons.mp hb with rfl | hb
    ·exact le
    ·have q : b = it := by simpa using hb
     subst q
     obtain ⟨o, e1, _⟩ := si
     exact Heap.lt_size e1
   rw [upd_ne (Nat.ne_of_lt lb)]
   exact fb
  ·have q1 : b ≠ e := fun z => hb (by simp [z])
   have q2 : b ≠ it := fun z => hb (by simp [z])
   exact (hs3.2 b q1).trans (hk b v q1 q2 q)
  ·rcases List.mem_cons.mp hb with rfl | hb
   ·exact ⟨_, he3⟩
   ·have q : b = it := by simpa using hb
    subst q
    obtain ⟨o, e1, _⟩ := hi2
    exact ⟨o, e1⟩
 done := by
  intro X hP hw hK hc i pins s σ H E I hf st hg
  subst hP hw hK
  obtain ⟨⟨old, se⟩, si⟩ := st
  obtain ⟨xs, hq, hx⟩ := hg
  obtain ⟨its, rv, p, hz⟩ := I.tuple hq
  have hl := rv.length
  exact PyY.enumT_end (I.ok.hd hc) se si (show s.heap.IsTuple a its.toArray from p) (by simp; omega) fun h1 eb => ⟨rfl, I.turnedL (t' := s.toks) (ts := [e, it]) (fun b o hb q => eb b o (fun z => hb (by simp [z])) q) hf⟩
 self := fun _ _ _ _ _ st h => by
  obtain ⟨⟨old, se⟩, si⟩ := st
  exact wpAny_pyIter_enum se h
section
variable {X : Cx}
def iEnum (K : PySem.W.Frag) (ta : TA) : TI := fun σ H R => ta σ H fun vs H1 => ∃ a, vs = [.ref a] ∧ (((∃ xs, SqL K H1 a xs) ∧ R (Itle K a) H1) ∨ ((∃ xs, SqT K H1 a xs) ∧ R (Itte K a) H1))
theorem enums {elts : List Expr} {x1} {pt : Pos} {l : Expr} {ta : TA} {p pos : Pos} (hm : X.mg "enumerate" = none) (ha : PA X [l] ta) (hg : isGlob X.env.scope "enumerate" = true := by kernel_rfl) (hs : starEach [l] X.env = [(false, eval l X.env)] := by rfl) :
  PI X (.Tuple elts x1 pt) (.Call (.Name "enumerate" p) [l] [] pos) (iEnum X.K ta) := by
 intro pins s σ H R I h
 refine Call_ (ld_blt I (gl_of hg) hm (show bootBuiltins "enumerate" = some (.type "enumerate") by kernel_rfl) (PyProof.Rows.callWith_type1 (thn (ha pos pins s σ H _ I h) fun us s1 ⟨vs, H1, I1, r1, q1⟩ => ?_) hs rfl))
 obtain ⟨a, e, q⟩ := q1
 subst e
 cases r1 with
 | cons r rr =>
  cases rr
  cases (show _ = Value.ref a from r)
  have sz : ∀ b, b ∈ [s1.heap.objs.size + 1, s1.heap.objs.size] → s1.heap.objs.size ≤ b := fun b hb => by
   rcases List.mem_cons.mp hb with rfl | hb
   ·exact Nat.le_succ _
   ·have : b = s1.heap.objs.size := by simpa using hb
    rw [this]
    exact Nat.le_refl _
  rcases q with ⟨⟨xs, hq⟩, q⟩ | ⟨⟨xs, hq⟩, q⟩
  ·obtain ⟨its, rv, p, hz⟩ := I1.list hq
   refine call_enumerate_list p.isList fun g ge gi gs gk => ?_
   refine wpAny_pyIter_enum ge ?_
   exact ⟨_, [s1.heap.objs.size + 1, s1.heap.objs.size], _, _, H1, rfl, I1.kept (t' := s1.toks) gk, turn_enumL a _ _ (Nat.ne_of_gt (Nat.lt_succ_self _)), ⟨⟨_, ge⟩, gi⟩, fun b hb => I1.fpOk (sz b hb) (I1.hok.fresh (sz b hb)), q⟩
  ·obtain ⟨its, rv, p, hz⟩ := I1.tuple hq
   refine PyY.call_enumT (show s1.heap.IsTuple a its.toArray from p) fun g ge gi gs gk => ?_
   refine wpAny_pyIter_enum ge ?_
   exact ⟨_, [s1.heap.objs.size + 1, s1.heap.objs.size], _, _, H1, rfl, I1.kept (t' := s1.toks) gk, turn_enumT a _ _ (Nat.ne_of_gt (Nat.lt_succ_self _)), ⟨⟨_, ge⟩, gi⟩, fun b hb => I1.fpOk (sz b hb) (I1.hok.fresh (sz b hb)), q⟩
theorem enumK (K : PySem.W.Frag) {elts : List Expr} {x1} {pt : Pos} {l : Expr} {ta : TA} {p pos : Pos} (hm : X.mg "enumerate" = none) (ha : PA X [l] ta) (hK : X.K = K := by rfl) (hg : isGlob X.env.scope "enumerate" = true := by kernel_rfl) (hs : starEach [l] X.env = [(false, eval l X.env)] := by rfl) :
  PI X (.Tuple elts x1 pt) (.Call (.Name "enumerate" p) [l] [] pos) (iEnum K ta) := hK ▸ enums hm ha hg hs
end
structure EnIt (J : It) (At : Hp → Prop) (xs : List V) : Prop where
 go : ∀ i H, At H → i < xs.length → J.go i H
 yld : ∀ i H x H2, At H → J.yld i H x H2 → ∃ T y, x = .ref T ∧ H T = none ∧ H2 = upd H T (.tup [.int i, y]) ∧ xs[i]? = some y
 stop : ∀ i H, At H → xs.length ≤ i → J.stop i H
theorem en_tup {K : PySem.W.Frag} {a : Addr} {xs : List V} : EnIt (Itte K a) (fun H => SqT K H a xs) xs :=
 ⟨fun i H h hi => ⟨xs, xs[i], h, by simp [hi]⟩, fun i H x H2 h hy => by
  obtain ⟨T, y, e, hT, e2, q⟩ := hy
  exact ⟨T, y, e, hT, e2, q xs h⟩, fun i H h hi => ⟨xs, h, hi⟩⟩
theorem for_enum {J : It} {g : TG} {tb : TS} {D : Ends} {σ : St} {H : Hp} {At : Hp → Prop} {xs : List V} (S : EnIt J At xs) (Pv : Nat → St → Hp → Prop) (h0 : Pv 0 σ H) (hS : ∀ i σ H, Pv i σ H → At H)
  (hs : ∀ (i : Nat) y σ H T, xs[i]? = some y → Pv i σ H → H T = none → g (.ref T) σ (upd H T (.tup [.int i, y])) fun σ2 H2 => tb { D with nx := Pv (i + 1), ct := Pv (i + 1), bk := D.nx } σ2 H2) (hd : ∀ σ H, Pv xs.length σ H → D.nx σ H) :
  ∃ W : Nat → Nat → St → Hp → Prop, (∃ m, W 0 m σ H) ∧ ∀ i m σ H, W i m σ H →
   (J.stop i H ∧ D.nx σ H) ∨ (J.go i H ∧ ∃ N : St → Hp → Prop, (∀ σ' H', N σ' H' → ∃ m', m' < m ∧ W (i + 1) m' σ' H') ∧ ∀ x H', J.yld i H x H' → g x σ H' fun σ2 H2 => tb { D with nx := N, ct := N, bk := D.nx } σ2 H2) := by
 refine ⟨fun i m σ H => m = xs.length - i ∧ i ≤ xs.length ∧ Pv i σ H, ⟨_, rfl, Nat.zero_le _, h0⟩, ?_⟩
 rintro i m σ H ⟨rfl, hi, p⟩
 have s := hS i σ H p
 by_cases hlt : i < xs.length
 ·refine .inr ⟨S.go i H s hlt, Pv (i + 1), fun σ' H' p' => ⟨xs.length - (i + 1), by omega, rfl, hlt, p'⟩, fun x H' hy => ?_⟩
  obtain ⟨T, y, rfl, hT, rfl, hx⟩ := S.yld i H x H' s hy
  exact hs i y σ H T hx p hT
 ·have e : i = xs.length := by omega
  subst e
  exact .inl ⟨S.stop _ H s (Nat.le_refl _), hd σ H p⟩
theorem g2 (K : PySem.W.Frag) (i j : Nat) {X : Cx} {x y : Str} {k} {px py pos : Pos} (hc : X.calm = true) (hx : PG X (.Name x px) (gName i)) (hy : PG X (.Name y py) (gName j)) (hK : X.K = K := by rfl)
  (hn : (assignEach [.Name x px, .Name y py] X.env).length = 2 := by rfl) (hst : (assignEach [.Name x px, .Name y py] X.env).findIdx? (·.1) = none := by rfl) :
  PG X (.Tuple [.Name x px, .Name y py] k pos) (gTup K 2 (gCons (gName i) (gCons (gName j) gNil))) := hK ▸ pg_tup hc (pgs_cons hx (pgs_cons hy pgs_nil)) hn hst
end L2
namespace PyX
open PySem
def IsEx (h : Heap) (C N : Addr) (bm : List Value) (nid : String) : Prop :=
 ∃ nm q bs hd sn sb ab cl dd k0 k1 k2 k3 k5,
  h.get? C = some (excClassObj nm q C N bs bm hd sn sb ab cl dd k0 k1 k2 k3 k5 nid)
theorem IsEx.keeps {h h' : Heap} {C N : Addr} {bm : List Value} {nid : String} (x : IsEx h C N bm nid)
  (k : ∀ b o, h.get? b = some o → h'.get? b = some o) : IsEx h' C N bm nid := by
 obtain ⟨nm, q, bs, hd, sn, sb, ab, cl, dd, k0, k1, k2, k3, k5, e⟩ := x
 exact ⟨nm, q, bs, hd, sn, sb, ab, cl, dd, k0, k1, k2, k3, k5, k _ _ e⟩
abbrev exArgs (xs : List Value) : Obj := { cls := .type "tuple", data := .seq xs.toArray }
abbrev exObj (C a : Addr) : Obj :=
 { cls := .ref C, data := .fields #[.ref a, .none, .none, .none, .bool false, .none] }
section
variable {prog : Program} {w : World} {A : Around} {E : Value → Shared → Prop}
variable {h : Heap} {gs : Array GenState} {dr : Drawn} {tk : Nat} {os : OsState}
variable {C N fI : Addr} {oI : Obj} {bm bB : List Value} {B nid iid : String} {mN : Str → Option Value} {xs : List Value}
theorem typeCall_initT {Q : Fin → Shared → Prop} (F : ExcBaseFacts B nid iid bB) (T : OwnTail h bB bm)
    (x : IsEx h C N bm nid) (ns : h.Ns N mN) (hi : mN "__init__" = some (.ref fI))
    (hf : h.get? fI = some oI) (hc : oI.cls = .type "function")
    (hq : ∀ h' e, Heap.MadeExcOf h h' e (.ref C) xs → h.objs.size ≤ e →
      wpAny (model prog w) A (call (.ref fI) (.ref e :: xs))
        (fun r s' => r = .none ∧ Q (.done (.ret (.ref e))) s') E ⟨h', gs, dr, tk, os⟩)
    (hl : xs.length ≤ sizeLine) :
    wpAny (model prog w) A (Builtin.«type.__call__» ⟨.ref C :: xs, []⟩) Q E ⟨h, gs, dr, tk, os⟩ := by
  obtain ⟨nm, q, bs, hd, sn, sb, ab, cl, dd, k0, k1, k2, k3, k5, hC⟩ := x
  repeat (first
    | with_reducible refine wpAny_loadPart_at hC ?_
    | with_reducible refine wpAny_madeBy_exc hC ?_
    | wp_step)
  refine codeAny_call_builtin_code (Code.quiet_builtin _ F.quiet)
    (wpAny_check_new_subT F T hC (codeAny_exc_new_subT F T hC ?_ hl))
  show wpAny _ _ _ _ _ _
  have kp : ∀ b o, h.get? b = some o → ((h.push (exArgs xs)).push (exObj C h.objs.size)).get? b = some o :=
    fun b o e => Heap.get?_push_of_some _ (Heap.get?_push_of_some _ e)
  have hC1 := kp _ _ hC
  have hf1 := kp _ _ hf
  have ns1 := ns.keeps kp
  have T1 := T.keeps kp
  have he : ((h.push (exArgs xs)).push (exObj C h.objs.size)).get? (h.objs.size + 1) = some (exObj C h.objs.size) := by
    heap_get
  have hself : (Value.ref C :: bm).contains (.ref C) = true := by
    simp
  unfold isInstance
  repeat (first
    | with_reducible refine wpAny_loadPart_at he ?_
    | (with_reducible refine wpAny_isSubtype_exc hC1 ?_
       rw [hself])
    | wp_step)
  show wpAny _ _ (typeLookup (.ref C) _) _ _ _
  refine wpAny_typeLookup_tail hC1 ns1 T1 F.mroIs F.init.lookup ?_
  rw [hi]
  refine wpAny_holding (wpAny_bind ?_)
  unfold bindSpecial
  refine wpAny_bind (wpAny_typeOf (T := "function") ⟨_, hf1, hc⟩ ?_)
  rw [if_pos (by decide)]
  have mk : Heap.MadeExcOf h ((h.push (exArgs xs)).push (exObj C h.objs.size)) (h.objs.size + 1) (.ref C) xs :=
    ⟨kp, Heap.get?_none_of_le (Nat.le_succ _), h.objs.size, he, Heap.get?_none_of_le (Nat.le_refl _),
      Heap.get?_push_of_some _ (Heap.get?_push_at rfl rfl)⟩
  refine wpAny_pure (wpAny_bind (wpAny_mono (hq _ _ mk (Nat.le_succ _)) (fun r s' hr => ?_) fun _ _ z => z))
  obtain ⟨rfl, hQ⟩ := hr
  wp_walk
  exact hQ
theorem call_initT {Q : Value → Shared → Prop} (F : ExcBaseFacts B nid iid bB) (T : OwnTail h bB bm)
  (x : IsEx h C N bm nid) (ns : h.Ns N mN) (hi : mN "__init__" = some (.ref fI))
  (hf : h.get? fI = some oI) (hc : oI.cls = .type "function")
  (hq : ∀ h' e, Heap.MadeExcOf h h' e (.ref C) xs → h.objs.size ≤ e →
   wpAny (model prog w) (A.under (.builtin "type.__call__" ⟨.ref C :: xs, []⟩)) (call (.ref fI) (.ref e :: xs))
    (fun r s' => r = .none ∧ Q (.ref e) s') E ⟨h', gs, dr, tk, os⟩)
  (hl : xs.length ≤ sizeLine) :
  wpAny (model prog w) A (call (.ref C) xs) Q E ⟨h, gs, dr, tk, os⟩ := by
 obtain ⟨nm, q, bs, hd, sn, sb, ab, cl, dd, k0, k1, k2, k3, k5, hC⟩ := x
 have f1 := tc_lookup
 have f2 := tc_bind (.ref C)
 have hT : (⟨h, gs, dr, tk, os⟩ : Shared).TypeIs (.ref C) "type" := ⟨_, hC, rfl⟩
 refine wpAny_call (codeAny_of_tree ?_)
 show wpAny _ _ (callAny (.ref C) _) _ _ _
 repeat (any_goals (first
  | assumption
  | with_reducible refine wpAny_loadPart_at hC ?_
  | wp_step))
 refine ⟨rfl, ?_⟩
 refine codeAny_call_builtin_at (Code.quiet_builtin _ (by decide +kernel)) entry_typeCall
  (wpAny_check_type_call_sub hC (typeCall_initT F T ⟨nm, q, bs, hd, sn, sb, ab, cl, dd, k0, k1, k2, k3, k5, hC⟩
   ns hi hf hc (fun h' e hm hz => ?_) hl))
 exact hq h' e hm hz
theorem matches_ref {e D : Addr} {oe : Obj} {b : Bool} {Q : Bool → Shared → Prop} {ND : Addr} {bD : List Value} {M : Model}
    (x : IsEx h C N bm nid) (y : IsEx h D ND bD nid) (he : h.get? e = some oe) (hcl : oe.cls = .ref C)
    (hbD : bD.contains (.type "BaseException") = true) (hb : (Value.ref C :: bm).contains (.ref D) = b)
    (hq : Q b ⟨h, gs, dr, tk, os⟩) :
    wpAny M A (excMatches (.ref e) (.ref D)) Q E ⟨h, gs, dr, tk, os⟩ := by
  obtain ⟨nm, q, bs, hd, sn, sb, ab, cl, dd, k0, k1, k2, k3, k5, hC⟩ := x
  obtain ⟨nm1, q1, bs1, hd1, sn1, sb1, ab1, cl1, dd1, j0, j1, j2, j3, j5, hD⟩ := y
  have hDB : (Value.ref D :: bD).contains (.type "BaseException") = true := by
    rw [List.contains_cons, hbD, Bool.or_true]
  have f := tc_notTuple
  unfold excMatches
  repeat (first
    | (with_reducible refine wpAny_loadPart_at he ?_
       rw [hcl])
    | with_reducible refine wpAny_loadPart_at hD ?_
    | (with_reducible refine wpAny_isSubtype_exc hD ?_
       rw [hDB])
    | (with_reducible refine wpAny_isSubtype_exc hC ?_
       rw [hb])
    | wp_step)
  cases b <;> (first | exact hq | (wp_walk; exact hq))
end
end PyX
namespace PyX
open PySem
open PySem.Builtin PySem.Builtin.ObjectAttr
abbrev VE : List Value := [.type "ValueError", .type "Exception", .type "BaseException", .type "object"]
abbrev veNew : String := "ValueError.__new__"
def IsEd (h : Heap) (C N : Addr) (bm : List Value) (nid : String) : Prop :=
 ∃ nm q bs sn sb ab cl dd k0 k1 k2 k3 k5,
  h.get? C = some (excClassObj nm q C N bs bm true sn sb ab cl dd k0 k1 k2 k3 k5 nid)
theorem IsEd.ex {h : Heap} {C N : Addr} {bm : List Value} {nid : String} (x : IsEd h C N bm nid) : IsEx h C N bm nid := by
 obtain ⟨nm, q, bs, sn, sb, ab, cl, dd, k0, k1, k2, k3, k5, e⟩ := x
 exact ⟨nm, q, bs, true, sn, sb, ab, cl, dd, k0, k1, k2, k3, k5, e⟩
theorem IsEd.keeps {h h' : Heap} {C N : Addr} {bm : List Value} {nid : String} (x : IsEd h C N bm nid)
  (k : ∀ b o, h.get? b = some o → h'.get? b = some o) : IsEd h' C N bm nid := by
 obtain ⟨nm, q, bs, sn, sb, ab, cl, dd, k0, k1, k2, k3, k5, e⟩ := x
 exact ⟨nm, q, bs, sn, sb, ab, cl, dd, k0, k1, k2, k3, k5, k _ _ e⟩
structure Two (h : Heap) (C N T U : Addr) (nid : String) (mN mT : Str → Option Value) : Prop where
 c : IsEd h C N (.ref T :: VE) nid
 t : IsEd h T U VE nid
 nsC : h.Ns N mN
 nsT : h.Ns U mT
 ini : mT "__init__" = none
section
variable {h h' : Heap} {C N T U : Addr} {nid : String} {mN mT : Str → Option Value}
theorem Two.keeps (x : Two h C N T U nid mN mT) (k : ∀ b o, h.get? b = some o → h'.get? b = some o) : Two h' C N T U nid mN mT :=
 ⟨x.c.keeps k, x.t.keeps k, x.nsC.keeps k, x.nsT.keeps k, x.ini⟩
theorem Two.tail (x : Two h C N T U nid mN mT) : OwnTail h VE (.ref T :: VE) := by
 obtain ⟨nm, q, bs, sn, sb, ab, cl, dd, k0, k1, k2, k3, k5, e⟩ := x.t
 exact .own e x.nsT x.ini .base
variable {M : Model} {A : Around} {E : Value → Shared → Prop} {gs : Array GenState} {dr : Drawn} {tk : Nat} {os : OsState}
theorem Two.look (x : Two h C N T U nid mN mT) {name : Str} {y : Option Value} {Q : Option Value → Shared → Prop}
  (hB : typeLookup (.type "ValueError") name = pure y)
  (hq : Q (match mN name with | some v => some v | none => (match mT name with | some v => some v | none => y)) ⟨h, gs, dr, tk, os⟩) :
  wpAny M A (typeLookup (.ref C) name) Q E ⟨h, gs, dr, tk, os⟩ := by
 obtain ⟨nm, q, bs, sn, sb, ab, cl, dd, k0, k1, k2, k3, k5, eC⟩ := x.c
 obtain ⟨nm', q', bs', sn', sb', ab', cl', dd', j0, j1, j2, j3, j5, eT⟩ := x.t
 have r : lookupAlong VE name = pure y := by
  rw [typeLookup_eq, F.excBase_ValueError.mroIs] at hB
  exact hB
 rw [typeLookup_eq]
 refine wpAny_bind (wpAny_mroOf_exc eC ?_)
 rw [lookupAlong_cons]
 refine wpAny_bind (wpAny_classOwn_exc eC x.nsC ?_)
 cases hv : mN name with
 | some v =>
  rw [hv] at hq
  exact wpAny_pure hq
 | none =>
  rw [hv] at hq
  simp only []
  rw [lookupAlong_cons]
  refine wpAny_bind (wpAny_classOwn_exc eT x.nsT ?_)
  cases hv' : mT name with
  | some v =>
   rw [hv'] at hq
   exact wpAny_pure hq
  | none =>
   rw [hv'] at hq
   simp only []
   rw [r]
   exact wpAny_pure hq
theorem Two.lookB (x : Two h C N T U nid mN mT) {name : Str} {y : Option Value} {Q : Option Value → Shared → Prop}
  (hB : typeLookup (.type "ValueError") name = pure y) (h1 : mN name = none) (h2 : mT name = none)
  (hq : Q y ⟨h, gs, dr, tk, os⟩) : wpAny M A (typeLookup (.ref C) name) Q E ⟨h, gs, dr, tk, os⟩ :=
 x.look hB (by
  rw [h1]
  simp only []
  rw [h2]
  exact hq)
end
section
variable {prog : Program} {w : World} {h : Heap} {C N T U x : Addr} {nid : String} {mN mT mA : Str → Option Value}
variable {A : Around} {E : Value → Shared → Prop} {gs : Array GenState} {dr : Drawn} {tk : Nat} {os : OsState}
variable {name : Str} {v : Value}
abbrev SF := F.store_ValueError
theorem checkSa {M : Model} {o : Obj} {nv : Value} {Q : Unit → Shared → Prop} (c : Two h C N T U nid mN mT)
    (hx : h.get? x = some o) (hc : o.cls = .ref C) (hq : Q () ⟨h, gs, dr, tk, os⟩) :
    wpAny M A (checkBuiltinCall "object.__setattr__" ⟨[.ref x, nv, v], []⟩) Q E ⟨h, gs, dr, tk, os⟩ := by
  obtain ⟨nm, q, bs, sn, sb, ab, cl, dd, k0, k1, k2, k3, k5, hC⟩ := c.c
  have hO : (Value.ref C :: Value.ref T :: VE).contains (.type "object") = true := by
    rw [List.contains_cons, List.contains_cons, SF.hasOwner, Bool.or_true, Bool.or_true]
  have ha := SF.args (.ref x) nv v
  simp only [checkBuiltinCall, SF.kind, SF.split]
  refine wpAny_bind ?_
  unfold isInstance
  repeat (first
    | (with_reducible refine wpAny_loadPart_at hx ?_
       rw [hc])
    | (with_reducible refine wpAny_isSubtype_exc hC ?_
       rw [hO])
    | wp_step)
  exact hq
def StoreLeaves (h h' : Heap) (x : Addr) : Prop :=
 (∀ b o, b ≠ x → (∀ o0 dx, h.get? x = some o0 → o0.dict = some dx → b ≠ dx) → h.get? b = some o → h'.get? b = some o) ∧
 (∀ o0, h.get? x = some o0 → ∃ o1, h'.get? x = some o1 ∧ o1.cls = o0.cls ∧ o1.data = o0.data ∧ o1.slots = o0.slots ∧ ∀ dx, o0.dict = some dx → o1.dict = some dx) ∧
 (∀ o0, h.get? x = some o0 → o0.dict = none → ∃ o1, h'.get? x = some o1 ∧ o1.dict = some h.objs.size)
theorem storeEntry {kt : Tok} {Q : Fin → Shared → Prop} {ns : List Str} (c : Two h C N T U nid mN mT)
    (h1 : mN name = none) (h2 : mT name = none) (hB : typeLookup (.type "ValueError") name = pure none) (I : h.Inst x C mA)
    (hw : Within mA ns) (hsz : ns.length < sizeLine)
    (hq : ∀ h' t', h'.Inst x C (fun y => if y = name then some v else mA y) → StoreLeaves h h' x → Q (.done (.ret .none)) ⟨h', gs, dr, t', os⟩) :
    wpAny (model prog w) A (Builtin.«object.__setattr__» ⟨[.ref x, .str name kt, v], []⟩) Q E ⟨h, gs, dr, tk, os⟩ := by
  obtain ⟨nm, q, bs, sn, sb, ab, cl, dd, k0, k1, k2, k3, k5, hC⟩ := id c.c
  obtain ⟨o, hx, hc, hnc, hd⟩ := I
  have hp := SF.passes (.ref x)
  unfold Builtin.«object.__setattr__»
  repeat (first
    | rw [refuse_eq]
    | rw [refuseLoop_ref, refuseLoop_ref, hp]
    | (with_reducible refine wpAny_loadPart_at hx ?_
       rw [hc])
    | with_reducible refine wpAny_mroOf_exc hC ?_
    | with_reducible refine c.lookB hB h1 h2 ?_
    | wp_step)
  rcases hd with ⟨hdn, hmA⟩ | ⟨dx, hdx, hne, hns⟩
  · rw [hdn, if_neg (by simp [typeHasDict])]
    split
    · rename_i z
      cases z
    split
    · rename_i cc z
      exact absurd z (hnc cc)
    have hxs : x ≠ h.objs.size := Nat.ne_of_lt (Heap.lt_size hx)
    have hx1 : (h.push { cls := .type "dict", data := .dict #[] }).get? x = some o := Heap.get?_push_of_some _ hx
    refine wpAny_bind (wpAny_alloc' (wpAny_bind (wpAny_update' hx1 (wpAny_pure ?_))))
    show wpAny _ _ (storeInDict h.objs.size (.str name kt) name v) _ _ _
    have hgd : ((h.push { cls := .type "dict", data := .dict #[] }).update x fun o => { cls := o.cls, dict := some h.objs.size, data := o.data, slots := o.slots }).get? h.objs.size
        = some { cls := .type "dict", data := .dict #[] } :=
      (Heap.get?_update_ne _ _ _ _ hxs.symm).trans (Heap.get?_push_at rfl rfl)
    unfold storeInDict newKeyGuard
    refine wpAny_bind (wpAny_pure (wpAny_bind (wpAny_nsSet1 (Heap.Ns1.of_empty
      ⟨_, #[], _, hgd, rfl, fun e he => absurd he (by simp), fun _ => rfl⟩) fun h' hn' hs => ?_)))
    obtain ⟨oD, es, ep, hoD, hdD, hcD⟩ := hn'.count (Within.cons name v Within.nil)
    refine wpAny_bind (wpAny_lookBehind hoD (by
      rw [hdD]
      exact pastItsLine_dict (Nat.le_trans hcD (by
        rw [List.length_cons, List.length_nil, sizeLine_eq]
        omega))) ?_)
    wp_walk
    have hx' : h'.get? x = some { cls := o.cls, dict := some h.objs.size, data := o.data, slots := o.slots } := by
      refine (hs.2 x hxs).trans (Heap.get?_update_self _ hx1 ?_)
      have hfr := (Heap.get?_some_iff.mp hx).2
      obtain ⟨oc, od, odt, osl⟩ := o
      cases odt <;> first | rfl | exact hfr
    refine hq h' _ ⟨_, hx', hc, hnc, .inr ⟨h.objs.size, rfl, hxs.symm, ?_⟩⟩ ⟨fun b ob hbx _ hb => ?_, fun o0 e0 => ?_, fun o0 e0 _ => ⟨_, hx', rfl⟩⟩
    · obtain ⟨o', es', ep', e1, e2, e3, eu, e4⟩ := hn'
      refine ⟨o', es', ep', e1, e2, e3, eu, fun y => ?_⟩
      rw [e4 y]
      by_cases hy : y = name <;> simp [hy, hmA]
    · exact (hs.2 b (Nat.ne_of_lt (Heap.lt_size hb))).trans ((Heap.get?_update_ne _ _ _ _ hbx).trans (Heap.get?_push_of_some _ hb))
    · obtain rfl : o = o0 := Option.some.inj (hx.symm.trans e0)
      exact ⟨_, hx', rfl, rfl, rfl, fun dx e => by
        rw [hdn] at e
        cases e⟩
  · rw [hdx]
    refine wpAny_pure ?_
    show wpAny _ _ (storeInDict dx (.str name kt) name v) _ _ _
    unfold storeInDict newKeyGuard
    refine wpAny_bind (wpAny_pure (wpAny_bind (wpAny_nsSet1 hns fun h' hn' hs => ?_)))
    obtain ⟨oD, es, ep, hoD, hdD, hcD⟩ := hn'.count (Within.cons name v hw)
    refine wpAny_bind (wpAny_lookBehind hoD (by
      rw [hdD]
      exact pastItsLine_dict (Nat.le_trans hcD (by
        rw [List.length_cons]
        omega))) ?_)
    wp_walk
    refine hq h' _ ⟨o, (hs.2 x hne.symm).trans hx, hc, hnc, .inr ⟨dx, hdx, hne, hn'⟩⟩ ⟨fun b ob _ hbd hb => ?_, fun o0 e0 => ?_, fun o0 e0 n0 => ?_⟩
    · exact (hs.2 b (hbd o dx hx hdx)).trans hb
    · exact ⟨o0, (hs.2 x hne.symm).trans e0, rfl, rfl, rfl, fun _ e => e⟩
    · obtain rfl : o = o0 := Option.some.inj (hx.symm.trans e0)
      rw [hdx] at n0
      cases n0
theorem storeAttr {Q : Unit → Shared → Prop} {ns : List Str} (c : Two h C N T U nid mN mT)
    (h1 : mN name = none) (h2 : mT name = none) (hB : typeLookup (.type "ValueError") name = pure none)
    (h3 : mN "__setattr__" = none) (h4 : mT "__setattr__" = none) (I : h.Inst x C mA)
    (hw : Within mA ns) (hsz : ns.length < sizeLine)
    (hq : ∀ h' t', h'.Inst x C (fun y => if y = name then some v else mA y) → StoreLeaves h h' x → Q () ⟨h', gs, dr, t', os⟩) :
    wpAny (model prog w) A (setAttr (.ref x) name v) Q E ⟨h, gs, dr, tk, os⟩ := by
  obtain ⟨o, hx, hc, _⟩ := id I
  have f3 := SF.slot.bind (.ref x)
  unfold setAttr callSpecial? specialOf
  repeat (any_goals (first
    | assumption
    | (with_reducible refine wpAny_loadPart_at hx ?_
       rw [hc])
    | with_reducible refine c.lookB SF.slot.lookup h3 h4 ?_
    | wp_step))
  refine codeAny_call_builtin SF.slot.plain SF.entry (checkSa c hx hc (storeEntry c h1 h2 hB I hw hsz fun h' t' I' k => ?_))
  repeat (any_goals (first
    | assumption
    | wp_step))
  exact hq h' t' I' k
theorem loadEntry {kt : Tok} {Q : Fin → Shared → Prop} (c : Two h C N T U nid mN mT)
    (h1 : mN name = none) (h2 : mT name = none) (hB : typeLookup (.type "ValueError") name = pure none) (I : h.Inst x C mA)
    (hv : mA name = some v) (hq : Q (.done (.ret v)) ⟨h, gs, dr, tk, os⟩) :
    wpAny (model prog w) A (Builtin.«object.__getattribute__» ⟨[.ref x, .str name kt], []⟩) Q E ⟨h, gs, dr, tk, os⟩ := by
  obtain ⟨nm, q, bs, sn, sb, ab, cl, dd, k0, k1, k2, k3, k5, hC⟩ := id c.c
  obtain ⟨o, hx, hc, hnc, hd⟩ := I
  rcases hd with ⟨_, hmA⟩ | ⟨dx, hdx, hne, hns⟩
  · rw [hmA name] at hv
    cases hv
  repeat (first
    | (with_reducible refine wpAny_loadPart_at hx ?_
       rw [hc])
    | with_reducible refine c.lookB hB h1 h2 ?_
    | wp_step)
  split
  · rename_i cc z
    exact absurd z (hnc cc)
  unfold instanceDict
  repeat (first
    | (with_reducible refine wpAny_loadPart_at hx ?_
       rw [hc])
    | with_reducible refine wpAny_loadPart_at hC ?_
    | wp_step)
  rw [hdx]
  repeat (first
    | (with_reducible refine wpAny_nsGet hns.ns ?_
       rw [hv])
    | wp_step)
  exact hq
theorem checkGa {M : Model} {o : Obj} {nv : Value} {Q : Unit → Shared → Prop} (c : Two h C N T U nid mN mT)
    (hx : h.get? x = some o) (hc : o.cls = .ref C) (hq : Q () ⟨h, gs, dr, tk, os⟩) :
    wpAny M A (checkBuiltinCall "BaseException.__getattribute__" ⟨[.ref x, nv], []⟩) Q E ⟨h, gs, dr, tk, os⟩ := by
  obtain ⟨nm, q, bs, sn, sb, ab, cl, dd, k0, k1, k2, k3, k5, hC⟩ := c.c
  have hk : builtinKind "BaseException.__getattribute__" = some .slot := by
    decide +kernel
  have hs : splitId "BaseException.__getattribute__" = some ("BaseException", "__getattribute__") := by
    decide +kernel
  have hO : (Value.ref C :: Value.ref T :: VE).contains (.type "BaseException") = true := by
    rw [List.contains_cons, List.contains_cons, F.excBase_ValueError.hasBase, Bool.or_true, Bool.or_true]
  have ha := F.args_bexc_ga (.ref x) nv
  simp only [checkBuiltinCall, hk, hs]
  refine wpAny_bind ?_
  unfold isInstance
  repeat (first
    | (with_reducible refine wpAny_loadPart_at hx ?_
       rw [hc])
    | (with_reducible refine wpAny_isSubtype_exc hC ?_
       rw [hO])
    | wp_step)
  exact hq
theorem loadAttr {expr : Bool} {Q : Value → Shared → Prop} (c : Two h C N T U nid mN mT)
    (h1 : mN name = none) (h2 : mT name = none) (hB : typeLookup (.type "ValueError") name = pure none)
    (h3 : mN "__getattribute__" = none) (h4 : mT "__getattribute__" = none) (h5 : mN "__getattr__" = none) (h6 : mT "__getattr__" = none)
    (I : h.Inst x C mA) (hv : mA name = some v) (hh : handedOut v = pure v) (hq : Q v ⟨h, gs, dr, tk + 1, os⟩) :
    wpAny (model prog w) A (getAttr (.ref x) name expr) Q E ⟨h, gs, dr, tk, os⟩ := by
  obtain ⟨o, hx, hc, _⟩ := id I
  have f3 := F.attr_ValueError.ga.bind (.ref x)
  have e0 : (expr && onTheHeap (Value.builtin "BaseException.__getattribute__")) = false := by
    cases expr <;> rfl
  have e2 : (Value.builtin "BaseException.__getattribute__" == Value.builtin "object.__getattribute__") = false := by
    decide +kernel
  have e1 : (onTheHeap (Value.ref C) && Value.builtin "BaseException.__getattribute__" == Value.builtin "object.__getattribute__") = false := by
    rw [e2]
    rfl
  unfold getAttr getAttrBy
  repeat (any_goals (first
    | assumption
    | (with_reducible refine wpAny_loadPart_at hx ?_
       rw [hc])
    | with_reducible refine c.lookB F.attr_ValueError.ga.lookup h3 h4 ?_
    | with_reducible refine c.lookB F.attrBase_ValueError.noGetattr h5 h6 ?_
    | wp_step))
  refine codeAny_call_builtin F.attr_ValueError.ga.plain F.entry_bexc_ga (checkGa c hx hc (loadEntry c h1 h2 hB I hv ?_))
  repeat (any_goals (first
    | assumption
    | wp_step))
end
end PyX
namespace PyX
open PySem
abbrev frs (l : List Env) : List Addr := l.filterMap (·.frame)
def Ex (h : Heap) (e C : Addr) (d : Option Addr) (T : Addr) (fl : Value) : Prop :=
 ∃ vs oT ts, h.get? e = some { cls := .ref C, dict := d, data := .fields vs } ∧ vs[1]? = some (.ref T) ∧
  T ≠ e ∧ h.get? T = some oT ∧ oT.data = .fields ts ∧ ts[3]? = some fl
def Ex0 (h : Heap) (e C : Addr) (d : Option Addr) : Prop :=
 ∃ vs, h.get? e = some { cls := .ref C, dict := d, data := .fields vs } ∧ vs[1]? = some .none
def But (l : List Env) (xs : List Addr) (h h' : Heap) : Prop :=
 (∀ b o, h.get? b = some o → b ∉ frs l → b ∉ xs → h'.get? b = some o) ∧
 (∀ b o, h.get? b = some o → b ∉ xs → ∃ sl, h'.get? b = some { o with slots := sl })
section
variable {M : Model} {A : Around} {E : Value → Shared → Prop} {s : Shared}
variable {base : Heap} {env : Env} {outer : List Env} {L e C T : Addr} {d : Option Addr} {fl : Value} {vs : Array Value}
theorem newEntry {head : Value} {nx : Bool} {Q : Unit → Shared → Prop}
  (fr : A.frames = some (env :: outer)) (hl : s.heap.FunFrames base (env :: outer)) (hf : env.frame = some L)
  (he : s.heap.get? e = some { cls := .ref C, dict := d, data := .fields vs }) (sz : 1 < vs.size)
  (hq : ∀ h' T, s.heap.objs.size ≤ T → Ex h' e C d T (rawInt L) → But (env :: outer) [e] s.heap h' → Q () { s with heap := h' }) :
  wpAny M A (do let a ← frameOf env; let pl ← entryPlaceOf L nx; let b ← EntryCells.newEntry head a .none (rawInt L) .none pl; setField (.ref e) 1 b)
   Q E s := by
 have hne : e ∉ (env :: outer).filterMap (·.frame) := fun hm => by
  obtain ⟨_, o, ho, hnf⟩ := hl.mem hm
  rw [he] at ho
  injection ho with ho
  subst ho
  exact hnf vs rfl
 refine wpAny_bind (wpAny_frameOf_fun fr hl hf fun h1 k1 => ?_)
 refine wpAny_bind (wpAny_entryPlaceOf fun pl hpl => ?_)
 unfold EntryCells.newEntry newFields
 refine wpAny_bind (wpAny_newObj_type ?_ (hpl.sizeOk5 _ _ _ _ _))
 have e1 : h1.get? e = some { cls := .ref C, dict := d, data := .fields vs } := (k1.2.1 e hne).trans he
 generalize hO : ({ cls := .type "traceback", dict := none, data := .fields ([head, .ref L, .none, rawInt L, .none] ++ (if pl.isEmpty then List.replicate 6 Value.none else pl)).toArray } : Obj) = oT
 have e2 := Heap.get?_push_of_some (h := h1) oT e1
 have hfr : oT.isFreed = false := by
  rw [← hO]
  rfl
 refine wpAny_setField e2 rfl sz (hq _ h1.objs.size ?_ ?_ ?_)
 ·rw [k1.1]
  exact Nat.le_refl _
 ·have hTe : h1.objs.size ≠ e := Nat.ne_of_gt (Heap.lt_size e1)
  have e3 := Heap.get?_update_self (Obj.mapFields (·.setIfInBounds 1 (Value.ref h1.objs.size))) e2 rfl
  have t3 := (Heap.get?_update_other (h1.push oT) (Obj.mapFields (·.setIfInBounds 1 (Value.ref h1.objs.size))) (Ne.symm hTe)).trans (Heap.get?_push_size h1 hfr)
  refine ⟨vs.setIfInBounds 1 (.ref h1.objs.size), oT, _, e3, by simp [sz], hTe, t3, (by rw [← hO]), ?_⟩
  simp
 ·refine ⟨fun b o q n m => ?_, fun b o q m => ?_⟩
  ·have hbe : b ≠ e := fun z => m (by simp [z])
   rw [Heap.get?_update_other _ _ (Ne.symm hbe)]
   exact Heap.get?_push_of_some _ ((k1.2.1 b n).trans q)
  ·have hbe : b ≠ e := fun z => m (by simp [z])
   obtain ⟨sl, q'⟩ := k1.2.2 b o q
   refine ⟨sl, ?_⟩
   rw [Heap.get?_update_other _ _ (Ne.symm hbe)]
   exact Heap.get?_push_of_some _ q'
theorem note_first {Q : Unit → Shared → Prop}
  (fr : A.frames = some (env :: outer)) (hl : s.heap.FunFrames base (env :: outer)) (hf : env.frame = some L) (x : Ex0 s.heap e C d)
  (hq : ∀ h' T, s.heap.objs.size ≤ T → Ex h' e C d T (rawInt L) → But (env :: outer) [e] s.heap h' → Q () { s with heap := h' }) :
  wpAny M A (noteFrame (.ref e) env) Q E s := by
 obtain ⟨vs, he, h1⟩ := x
 unfold noteFrame
 simp only [hf]
 refine wpAny_bind (wpAny_field he rfl h1 ?_)
 rw [if_neg (by decide)]
 exact newEntry fr hl hf he (Array.getElem?_eq_some_iff.mp h1).1 hq
theorem note_next {Q : Unit → Shared → Prop}
  (fr : A.frames = some (env :: outer)) (hl : s.heap.FunFrames base (env :: outer)) (hf : env.frame = some L) (x : Ex s.heap e C d T .none)
  (hq : ∀ h' T', s.heap.objs.size ≤ T' → Ex h' e C d T' (rawInt L) → But (env :: outer) [e, T] s.heap h' → Q () { s with heap := h' }) :
  wpAny M A (noteFrame (.ref e) env) Q E s := by
 obtain ⟨vs, oT, ts, he, h1, hTe, hT, hdT, h3⟩ := x
 unfold noteFrame
 simp only [hf]
 refine wpAny_bind (wpAny_field he rfl h1 ?_)
 rw [if_pos (show (Value.ref T != Value.none) = true from by simp)]
 refine wpAny_bind (wpAny_field hT hdT h3 ?_)
 rw [if_neg (show ¬ ((Value.none == rawInt L) = true) from by simp [rawInt])]
 refine wpAny_bind (wpAny_setField hT hdT (Array.getElem?_eq_some_iff.mp h3).1 ?_)
 have other : ∀ b, b ≠ T → (s.heap.update T (Obj.mapFields (·.setIfInBounds 3 Value.none))).get? b = s.heap.get? b :=
  fun b hb => Heap.get?_update_other _ _ (Ne.symm hb)
 have noR : ∀ b o, s.heap.get? b = some o → (∀ ws, o.data ≠ .fields ws) → b ≠ T := fun b o hb hnf z => by
  rw [z, hT] at hb
  injection hb with hb
  subst hb
  exact hnf ts hdT
 refine newEntry fr (hl.of_keeps fun b o hb hnf => ⟨o, (other b (noR b o hb hnf)).trans hb, rfl⟩) hf
  ((other e (Ne.symm hTe)).trans he) (Array.getElem?_eq_some_iff.mp h1).1 fun h' T' n x k => hq h' T' ?_ x ?_
 ·have n' : (s.heap.update T (Obj.mapFields (·.setIfInBounds 3 Value.none))).objs.size ≤ T' := n
  rw [Heap.size_after_update] at n'
  exact n'
 ·refine ⟨fun b o q nf m => ?_, fun b o q m => ?_⟩
  ·have b1 : b ≠ T := fun z => m (by simp [z])
   exact k.1 b o ((other b b1).trans q) nf fun z => m (by simp at z; simp [z])
  ·have b1 : b ≠ T := fun z => m (by simp [z])
   exact k.2 b o ((other b b1).trans q) fun z => m (by simp at z; simp [z])
theorem flight_none {Q : Unit → Shared → Prop} (x : Ex s.heap e C d T fl)
  (hq : ∀ h', Ex h' e C d T .none → But [] [T] s.heap h' → Q () { s with heap := h' }) :
  wpAny M A (setFlight (.ref e) none) Q E s := by
 obtain ⟨vs, oT, ts, he, h1, hTe, hT, hdT, h3⟩ := x
 have sz : 3 < ts.size := (Array.getElem?_eq_some_iff.mp h3).1
 refine wpAny_setFlight_none he rfl h1 hT hdT sz (hq _ ?_ ?_)
 ·exact ⟨vs, _, _, (Heap.get?_update_other _ _ hTe).trans he, h1, hTe,
   Heap.get?_update_self _ hT (Obj.isFreed_of_fields (Obj.data_mapFields hdT _)), Obj.data_mapFields hdT _, by simp [sz]⟩
 ·refine ⟨fun b o q _ m => ?_, fun b o q m => ⟨o.slots, ?_⟩⟩
  ·rw [Heap.get?_update_other _ _ (fun z => m (by simp [z]))]
   exact q
  ·rw [Heap.get?_update_other _ _ (fun z => m (by simp [z]))]
   exact q
theorem But.nil {l : List Env} {xs : List Addr} {h h' : Heap} (a : But [] xs h h') : But l xs h h' :=
 ⟨fun b o q _ m => a.1 b o q (by simp) m, a.2⟩
theorem leave_first {Q : Unit → Shared → Prop}
  (fr : A.frames = some (env :: outer)) (hl : s.heap.FunFrames base (env :: outer)) (hf : env.frame = some L) (x : Ex0 s.heap e C d)
  (hq : ∀ h' T, s.heap.objs.size ≤ T → Ex h' e C d T .none → But (env :: outer) [e] s.heap h' → Q () { s with heap := h' }) :
  wpAny M A (leaving env (.ref e)) Q E s := by
 unfold leaving
 refine wpAny_bind (note_first fr hl hf x fun h1 T n x1 k1 => ?_)
 refine flight_none x1 fun h2 x2 k2 => ?_
 refine hq h2 T n x2 ⟨fun b o q nf m => ?_, fun b o q m => ?_⟩
 ·have hb : b ≠ T := Nat.ne_of_lt (Nat.lt_of_lt_of_le (Heap.lt_size q) n)
  exact k2.1 b o (k1.1 b o q nf m) (by simp) (by simp [hb])
 ·have hb : b ≠ T := Nat.ne_of_lt (Nat.lt_of_lt_of_le (Heap.lt_size q) n)
  obtain ⟨sl, q1⟩ := k1.2 b o q m
  exact ⟨sl, k2.1 b _ q1 (by simp) (by simp [hb])⟩
end
end PyX
namespace L2
open PySem PySem.Spec PyProof.Rows
def CXE (P : Program) (w : World) : CXT := fun outer H s E e s' =>
 ∃ a C d T H', e = .ref a ∧ s'.os = s.os ∧ AllBare s'.gens ∧ Un (frs outer) [] H H' s.heap s'.heap ∧ HOk P w H' s'.heap ∧
  PyX.Ex s'.heap a C d T .none ∧ s.heap.objs.size ≤ a ∧ s.heap.objs.size ≤ T ∧ H' a = none ∧ H' T = none ∧ E (.ref C) d H'
section
variable {X : Cx} {pins : List (Addr × Obj)} {σ : St} {H : Hp} {s : Shared}
def Loose (X : Cx) (pins : List (Addr × Obj)) (H : Hp) (b : Addr) : Prop :=
 X.s₀.heap.objs.size ≤ b ∧ H b = none ∧ b ≠ X.env.locals ∧ (∀ x c, X.env.cells.lookup x = some c → c ≠ b) ∧ ∀ p ∈ X.pn ++ pins, p.1 ≠ b
theorem Inv.loose (I : Inv X pins σ H s) {b : Addr} (h : s.heap.objs.size ≤ b) (n : H b = none) : Loose X pins H b := by
 refine ⟨Nat.le_trans I.sz h, n, ?_, fun x c e z => ?_, fun p hp z => ?_⟩
 ·exact Nat.ne_of_gt (Nat.lt_of_lt_of_le I.lt h)
 ·obtain ⟨v, o, ho, hd⟩ := I.cell x c e
  exact absurd (Nat.lt_of_lt_of_le (Heap.lt_size ho) h) (by rw [z]; exact Nat.lt_irrefl _)
 ·exact absurd (Nat.lt_of_lt_of_le (Heap.lt_size (I.pin p hp).1) h) (by rw [z]; exact Nat.lt_irrefl _)
theorem Inv.but {xs : List Addr} {h' : Heap} {t' : Nat} (I : Inv X pins σ H s) (k : PyX.But X.stack xs s.heap h') (hx : ∀ b ∈ xs, Loose X pins H b) :
  Inv X pins σ H { s with heap := h', toks := t' } := by
 refine I.call (ch := xs) (g' := s.gens) (d' := s.drawn) ⟨fun b o e _ nf nx => k.1 b o e nf nx, fun b o e _ _ nx => k.2 b o e nx, fun _ _ _ n _ => n, fun b o e nx => ?_, fun _ _ q => q, fun _ _ _ q => q,
  fun _ ps q => ⟨#[], by rw [q]; simp⟩⟩ (fun a o e => ?_) I.bare fun b hb => ?_
 ·obtain ⟨sl, q⟩ := k.2 b o e nx
  exact ⟨_, q⟩
 ·have keep : ∀ b u, (∃ o, H b = some o) → s.heap.get? b = some u → h'.get? b = some u := fun b u ⟨o', n⟩ q => by
   refine k.1 b u q (fun hf => ?_) fun hb => ?_
   ·rw [I.stkFree b hf] at n
    cases n
   ·rw [(hx b hb).2.1] at n
    cases n
  refine (I.hok a o e).stay (fun b u hb q => keep b u ?_ q) (fun c r => r) fun c ys r => r
  rcases hb with rfl | hb
  ·exact ⟨o, e⟩
  ·exact ⟨_, hb⟩
 ·obtain ⟨h1, h2, h3, h4, h5⟩ := hx b hb
  exact ⟨.inr h1, h3, h4, h5⟩
theorem Inv.afterX {E : XK} {e : Value} {s' : Shared} (I : Inv X pins σ H s) (h : CXE X.prog X.w X.stack H s E e s') :
  ∃ a C d T H', e = .ref a ∧ Inv X pins σ H' s' ∧ PyX.Ex s'.heap a C d T .none ∧ Loose X pins H' a ∧ Loose X pins H' T ∧ E (.ref C) d H' := by
 obtain ⟨a, C, d, T, H', rfl, ho, hg, u, hok, x, ha, hT, na, nT, q⟩ := h
 have J : Inv X pins σ H' s' := I.call' ho u hok hg fun b hb => absurd hb (by simp)
 have lo : ∀ b, s.heap.objs.size ≤ b → H' b = none → Loose X pins H' b := fun b hb n => by
  obtain ⟨h1, _, h3, h4, h5⟩ := I.loose hb (I.hok.fresh hb)
  exact ⟨h1, n, h3, h4, h5⟩
 exact ⟨a, C, d, T, H', rfl, J, x, lo a ha na, lo T hT nT, q⟩
end
def Throws (X : Cx) (E : XK) : Prop := ∀ (pins : List (Addr × Obj)) (σ : St) (H : Hp) (s : Shared) (a C : Addr) (d : Option Addr),
 Inv X pins σ H s → PyX.Ex0 s.heap a C d → Loose X pins H a → E (.ref C) d H → X.xe (.ref a) s
section
variable {P : Program} {w : World} {K : PySem.W.Frag} {mg : Str → Option Value} {base : Heap} {N : List Str} {qual : Str} {scope : Scope} {f : Addr} {cd : Value}
variable {A : Around} {outer : List Env} {s : Shared} {H : Hp} {E : XK}
theorem un_of {X : Cx} {pins : List (Addr × Obj)} {σ : St} {H' : Hp} {s' : Shared} (I : Inv X pins σ H' s') (hx : X.ex = []) : Un X.fs [] X.H₀ H' X.s₀.heap s'.heap := by
 have := I.base
 rw [hx] at this
 exact this
theorem throws_def : Throws (cxOf (CXE P w) P w K mg base N qual scope f cd A outer s H E) E := by
 intro pins σ H1 s1 a C d I x lo q
 show wpAny _ _ _ _ _ _
 refine PyX.leave_first (base := base) I.ok.frames I.stack rfl x fun h' T nT x' k => ?_
 have lT : Loose (cxOf (CXE P w) P w K mg base N qual scope f cd A outer s H E) pins H1 T := I.loose nT (I.hok.fresh nT)
 have J := I.but (t' := s1.toks) k fun b hb => by
  obtain rfl : b = a := by simpa using hb
  exact lo
 exact ⟨a, C, d, T, H1, rfl, J.os, J.bare, un_of J rfl, J.hok, x', lo.1, lT.1, lo.2.1, lT.2.1, q⟩
end
def exO (a C : Addr) (d : Option Addr) : HO := .ext fun h => ∃ vs, h.get? a = some { cls := .ref C, dict := d, data := .fields vs }
def Cx.suite (X : Cx) (a : Addr) (pins : List (Addr × Obj)) : Cx :=
 { X with A := X.A.mark (some (.ref a)), calm := false, xe := fun _ _ => False, pn := X.pn ++ pins }
def Cx.tryc (X : Cx) (D : Ends) (pins : List (Addr × Obj)) (hs : List ExceptHandler) : Cx :=
 { X with
  pn := X.pn ++ pins
  xe := fun e s1 => wpAny (model X.prog X.w) X.A (noteFrame e X.env) (fun _ s2 => wpAny (model X.prog X.w) X.A (setFlight e none)
   (fun _ s3 => wpAny (model X.prog X.w) X.A (handleBy e X.env hs) (SP X pins D) X.xe s3) X.xe s2) X.xe s1 }
section
variable {X : Cx} {pins : List (Addr × Obj)} {σ : St} {H : Hp} {s : Shared} {D : Ends} {hs : List ExceptHandler} {a : Addr}
theorem Inv.toTry (I : Inv X pins σ H s) : Inv (X.tryc D pins hs) [] σ H s :=
 ⟨⟨I.ok.mod, I.ok.kind, I.ok.glob, I.ok.blt, I.ok.above, I.ok.inj, I.ok.has, I.ok.cab, I.ok.hd, I.ok.frames, I.ok.stk, I.ok.exf, I.ok.bs, I.ok.bsz, I.ok.noex, I.ok.exfs, I.ok.funs, I.ok.frf⟩,
  I.os, I.bare, I.base, I.loc, I.cell, I.free, I.freeC, fun p hp => I.pin p (by
   rw [List.append_nil] at hp
   exact hp), I.hok, I.len⟩
theorem Inv.ofTry {ps : List (Addr × Obj)} (I : Inv (X.tryc D pins hs) ps σ H s) : Inv X pins σ H s :=
 ⟨⟨I.ok.mod, I.ok.kind, I.ok.glob, I.ok.blt, I.ok.above, I.ok.inj, I.ok.has, I.ok.cab, I.ok.hd, I.ok.frames, I.ok.stk, I.ok.exf, I.ok.bs, I.ok.bsz, I.ok.noex, I.ok.exfs, I.ok.funs, I.ok.frf⟩,
  I.os, I.bare, I.base, I.loc, I.cell, I.free, I.freeC, fun p hp => I.pin p (List.mem_append_left _ hp), I.hok, I.len⟩
theorem Inv.toSuite (I : Inv X pins σ H s) : Inv (X.suite a pins) [] σ H s :=
 ⟨⟨I.ok.mod, I.ok.kind, I.ok.glob, I.ok.blt, I.ok.above, I.ok.inj, I.ok.has, I.ok.cab, fun z => (by cases z), I.ok.frames, I.ok.stk, I.ok.exf, I.ok.bs, I.ok.bsz, I.ok.noex, I.ok.exfs, I.ok.funs, I.ok.frf⟩,
  I.os, I.bare, I.base, I.loc, I.cell, I.free, I.freeC, fun p hp => I.pin p (by
   rw [List.append_nil] at hp
   exact hp), I.hok, I.len⟩
theorem Inv.ofSuite (hc : X.calm = true → X.A.handled = none) {ps : List (Addr × Obj)} (I : Inv (X.suite a pins) ps σ H s) : Inv X pins σ H s :=
 ⟨⟨I.ok.mod, I.ok.kind, I.ok.glob, I.ok.blt, I.ok.above, I.ok.inj, I.ok.has, I.ok.cab, hc, I.ok.frames, I.ok.stk, I.ok.exf, I.ok.bs, I.ok.bsz, I.ok.noex, I.ok.exfs, I.ok.funs, I.ok.frf⟩,
  I.os, I.bare, I.base, I.loc, I.cell, I.free, I.freeC, fun p hp => I.pin p (List.mem_append_left _ hp), I.hok, I.len⟩
theorem ps_try {body : List Stmt} {h0 : ExceptHandler} {pos : Pos} {tb : Ends → TS}
  (hb : ∀ D pins, PSs (X.tryc D pins (h0 :: hs)) body (tb D)) : PS X (.Try body (h0 :: hs) [] [] pos) (fun D σ H => tb D D σ H) := by
 intro pins s σ H D I h
 refine wpAny_Try_except (thn (hb D pins [] s σ H D I.toTry h) fun f s1 h1 => ?_)
 cases f with
 | next =>
  obtain ⟨σ', H', J, q⟩ := h1
  exact wpAny_execs_nil ⟨σ', H', J.ofTry, q⟩
 | brk =>
  obtain ⟨σ', H', J, q⟩ := h1
  exact ⟨σ', H', J.ofTry, q⟩
 | cont =>
  obtain ⟨σ', H', J, q⟩ := h1
  exact ⟨σ', H', J.ofTry, q⟩
 | ret u =>
  obtain ⟨v, σ', H', J, r, q⟩ := h1
  exact ⟨v, σ', H', J.ofTry, r, q⟩
theorem Inv.track {C : Addr} {d : Option Addr} {vs : Array Value} (I : Inv X pins σ H s) (he : s.heap.get? a = some { cls := .ref C, dict := d, data := .fields vs }) (lo : Loose X pins H a) :
  Inv X pins σ (upd H a (exO a C d)) s := by
 have ext : ObjOk X.prog X.w (upd H a (exO a C d)) s.heap a (exO a C d) :=
  ⟨⟨vs, he⟩, ⟨_, he⟩, fun h1 h2 ⟨vs', e⟩ k => ⟨vs', k _ e⟩⟩
 obtain ⟨h, g, dr, t, os⟩ := s
 refine I.call (ch := [a]) (h' := h) (g' := g) (d' := dr) (t' := t) ⟨fun b o e _ _ _ => e, fun b o e _ _ _ => ⟨o.slots, e⟩, fun b o e n nx => ?_, fun b o e _ => ⟨o, e⟩, fun b ys q => ?_, fun b o u q => ?_, fun b ps q => ⟨#[], ?_⟩⟩
  (fun b o e => ?_) I.bare fun b hb => ?_
 ·rw [upd_ne (fun z => nx (by simp [z]))]
  exact n
 ·rw [upd_ne (ne_of_none q lo.2.1)]
  exact q
 ·rw [upd_ne (ne_of_none q lo.2.1)]
  exact q
 ·rw [upd_ne (ne_of_none q lo.2.1), q]
  simp
 ·by_cases hb : b = a
  ·subst hb
   rw [upd_same] at e
   cases e
   exact ext
  ·rw [upd_ne hb] at e
   exact (I.hok b o e).stay (fun _ _ _ q => q) (fun c r => by rw [upd_ne (ne_of_none r lo.2.1)]; exact r) fun c ys r => by rw [upd_ne (ne_of_none r lo.2.1)]; exact r
 ·obtain rfl : b = a := by simpa using hb
  exact ⟨.inr lo.1, lo.2.2.1, lo.2.2.2.1, lo.2.2.2.2⟩
end
section
variable {X : Cx} {pins : List (Addr × Obj)} {σ : St} {H : Hp} {s : Shared} {D : Ends} {a : Addr}
theorem goes_ok {M : Model} {A : Around} {E : Value → Shared → Prop} {i : Nat} {n : Str} {pos : Pos} {Q : Unit → Shared → Prop} (I : Inv X pins σ H s) (hN : X.N.Nodup) (hi : X.N[i]? = some n)
  (hk : X.env.kindOf n = some .local) (h : ∀ s', Inv X pins (σ.set i none) H s' → Q () s') : wpAny M A (do bindName X.env n .none; unbindBehindTheSuite X.env n pos) Q E s := by
 obtain ⟨m, hn, hl⟩ := id I.loc
 have hcls : (X.env.scope.kind == .class || (X.env.scope.kind == .module && X.env.locals != X.env.globals)) = false := by
  rw [I.ok.kind]
  rfl
 have hiσ : i < σ.length := by
  rw [I.len]
  exact (List.getElem?_eq_some_iff.mp hi).1
 have cne := I.cne
 refine wpAny_nameGoes_keeps hk hn hcls fun h' v hn' hs => ?_
 obtain ⟨oL, _, _, hoL, _⟩ := id hn
 have up : ∀ {b : Addr} {o : Obj}, X.s₀.heap.get? b = some o → b ≠ X.env.locals := fun {b o} e => Nat.ne_of_lt (Nat.lt_of_lt_of_le (Heap.lt_size e) I.ok.above)
 refine h _ ⟨I.ok, I.os, I.bare, ⟨fun b o e n hb hx => ?_, fun b o e n hb hx => ?_, I.base.free, fun b o e hx => ?_, I.base.tups, I.base.frzs, I.base.tbls⟩, ⟨_, hn', fun j y v' e1 e2 e3 => ?_⟩, fun y c e => ?_, I.free, I.freeC, fun p hp => ?_, fun b ob e => ?_, ?_⟩
 ·exact (hs.2 b (up e)).trans (I.base.keep b o e n hb hx)
 ·obtain ⟨sl, e1⟩ := I.base.slot b o e n hb hx
  exact ⟨sl, (hs.2 b (up e)).trans e1⟩
 ·obtain ⟨o', e1⟩ := I.base.there b o e hx
  exact ⟨o', (hs.2 b (up e)).trans e1⟩
 ·by_cases hj : j = i
  ·subst hj
   rw [List.getElem?_set_self hiσ] at e2
   cases e2
  ·rw [List.getElem?_set_ne (Ne.symm hj)] at e2
   obtain ⟨u', r', q⟩ := hl j y v' e1 e2 e3
   refine ⟨u', r', ?_⟩
   rcases q with ⟨k, e⟩ | ⟨k, c, e, z⟩
   ·refine .inl ⟨k, ?_⟩
    have : y ≠ n := fun e => hj (nodup_ix hN e1 (e ▸ hi))
    simp [this, e]
   ·exact .inr ⟨k, c, e, z.sameBut hs (cne y c e)⟩
 ·obtain ⟨w', z⟩ := I.cell y c e
  exact ⟨w', z.sameBut hs (cne y c e)⟩
 ·obtain ⟨e, n, ne, nf, d⟩ := I.pin p hp
  exact ⟨(hs.2 p.1 ne).trans e, n, ne, nf, d⟩
 ·refine (I.hok b ob e).stay (fun c w' hc q => (hs.2 c ?_).trans q) (fun _ q => q) fun _ _ q => q
  rintro rfl
  rcases hc with rfl | hc
  ·rw [I.free] at e
   cases e
  ·rw [I.free] at hc
   cases hc
 ·simpa using I.len
def endS (D : Ends) (i : Nat) : Ends := { nx := fun σ H => D.nx (σ.set i none) H, rt := D.rt, bk := fun σ H => D.bk (σ.set i none) H, ct := fun σ H => D.ct (σ.set i none) H }
def noSt (X : Cx) : St := List.replicate X.N.length none
theorem Inv.noSt (I : Inv X pins σ H s) : Inv X pins (noSt X) H s :=
 I.weak (by simp [L2.noSt, I.len]) fun i v e => by
  unfold L2.noSt at e
  rw [List.getElem?_replicate] at e
  split at e <;> cases e
def tCatch (X : Cx) (Dc : Addr) (i : Nat) (ts : TS) (D : Ends) : XK := fun cls d H => ∃ C N bm nid ND bD, cls = .ref C ∧ PyX.IsEx X.base C N bm nid ∧ PyX.IsEx X.base Dc ND bD nid ∧
 bD.contains (.type "BaseException") = true ∧ (Value.ref C :: bm).contains (.ref Dc) = true ∧
 ∀ a, H a = none → ts (endS D i) ((noSt X).set i (some (.ref a))) (upd H a (exO a C d))
theorem caught {C T L : Addr} {d : Option Addr} {Dc : Addr} {i : Nat} {n x : Str} {np hp : Pos} {b0 : Stmt} {suite : List Stmt} {ts : TS}
  (I : Inv X pins σ H s) (e : PyX.Ex s.heap a C d T (rawInt L)) (la : Loose X pins H a) (lT : Loose X pins H T)
  (hN : X.N.Nodup) (hi : X.N[i]? = some n) (hk : X.env.kindOf n = some .local) (hg : Gl X x) (hm : X.mg x = some (.ref Dc)) (hdb : (x == ("__debug__" : Str)) = false)
  (hs : PSs (X.suite a pins) (b0 :: suite) ts) (q : tCatch X Dc i ts D (.ref C) d H) :
  wpAny (model X.prog X.w) X.A (setFlight (.ref a) none)
   (fun _ s3 => wpAny (model X.prog X.w) X.A (handleBy (.ref a) X.env [.ExceptHandler (some (.Name x np)) (some n) (b0 :: suite) hp]) (SP X pins D) X.xe s3) X.xe s := by
 obtain ⟨C', N, bm, nid, ND, bD, hC, ic, id', hb, hit, q⟩ := q
 cases hC
 refine PyX.flight_none e fun h1 e1 k1 => ?_
 have I1 : Inv X pins σ H { s with heap := h1 } := I.but (t' := s.toks) k1.nil fun b hb => by
  obtain rfl : b = T := by simpa using hb
  exact lT
 refine wpAny_handleBy_cons (codeAny_handlers_test (ld_glob (X := X.suite a pins) I1.toSuite hg hm ?_ hdb)) (by intro z; cases z)
 obtain ⟨vs, oT, tl, ea, _⟩ := id e1
 refine PyX.matches_ref (ic.keeps I1.bk) (id'.keeps I1.bk) ea rfl hb hit ?_
 simp only [if_true]
 refine codeAny_handlers_suite_as (PyX.flight_none e1 fun h2 e2 k2 => ?_)
 have I2 : Inv X pins σ H { s with heap := h2 } := I1.but (t' := s.toks) k2.nil fun b hb => by
  obtain rfl : b = T := by simpa using hb
  exact lT
 obtain ⟨vs2, oT2, tl2, ea2, _⟩ := id e2
 have I3 := (I2.noSt.track ea2 la).toSuite (a := a)
 refine store_ok (X := X.suite a pins) (v := .ref a) I3 hN hi (.inl hk) rfl (fun s4 I4 => ?_) (.inr hk)
 refine wpAny_mono (hs [] s4 _ _ (endS D i) I4 (q a la.2.1)) (fun f s5 h5 => ?_) fun _ _ z => False.elim z
 have back : ∀ {σ' : St} {H' : Hp}, Inv (X.suite a pins) [] σ' H' s5 → Inv X pins σ' H' s5 := fun J => J.ofSuite I.ok.hd
 cases f with
 | next =>
  obtain ⟨σ', H', J, z⟩ := h5
  exact goes_ok (back J) hN hi hk fun s6 J6 => ⟨_, H', J6, z⟩
 | brk =>
  obtain ⟨σ', H', J, z⟩ := h5
  exact goes_ok (back J) hN hi hk fun s6 J6 => ⟨_, H', J6, z⟩
 | cont =>
  obtain ⟨σ', H', J, z⟩ := h5
  exact goes_ok (back J) hN hi hk fun s6 J6 => ⟨_, H', J6, z⟩
 | ret u =>
  obtain ⟨v, σ', H', J, r, z⟩ := h5
  exact goes_ok (back J) hN hi hk fun s6 J6 => ⟨v, _, H', J6, r, z⟩
section
variable {Dc : Addr} {i : Nat} {n x : Str} {np hp : Pos} {b0 : Stmt} {suite : List Stmt} {ts : TS}
theorem passes_try (hN : X.N.Nodup) (hi : X.N[i]? = some n) (hk : X.env.kindOf n = some .local) (hg : Gl X x) (hm : X.mg x = some (.ref Dc)) (hdb : (x == ("__debug__" : Str)) = false)
  (hst : X.stack = X.env :: X.outer) (hf : X.env.frame = some X.env.locals) (hs : ∀ a, PSs (X.suite a pins) (b0 :: suite) ts) :
  Passes (CXE X.prog X.w) (X.tryc D pins [.ExceptHandler (some (.Name x np)) (some n) (b0 :: suite) hp]) (tCatch X Dc i ts D) := by
 intro ps σ H s e s' I h
 obtain ⟨a, C, d, T, H', rfl, J, z, la, lT, q⟩ := I.afterX h
 show wpAny _ _ _ _ _ _
 have J' := J.ofTry
 have fr := J'.ok.frames
 have st := J'.stack
 have lo : ∀ b, Loose (X.tryc D pins [.ExceptHandler (some (.Name x np)) (some n) (b0 :: suite) hp]) ps H' b → Loose X pins H' b :=
  fun b ⟨h1, h2, h3, h4, h5⟩ => ⟨h1, h2, h3, h4, fun p hp => h5 p (List.mem_append_left _ hp)⟩
 rw [hst] at fr st
 refine PyX.note_next (base := X.base) fr st hf z fun h' T' nT z' k => ?_
 rw [← hst] at k
 have J2 : Inv X pins σ H' { s' with heap := h' } := J'.but (t' := s'.toks) k fun b hb => by
  rcases List.mem_cons.mp hb with rfl | hb
  ·exact lo _ la
  ·obtain rfl : b = T := by simpa using hb
   exact lo _ lT
 exact caught J2 z' (lo _ la) (J'.loose nT (J'.hok.fresh nT)) hN hi hk hg hm hdb (hs a) q
end
end
end L2
namespace PyX
open PySem
section
variable {M : Model} {A : Around} {E : Value → Shared → Prop} {env : Env} {s : Shared}
theorem raiseX {v : Sem Value} {Q : Flow → Shared → Prop} (hh : A.handled = none)
    (h : wpAny M A v (fun u s1 => ∃ e C N bm nid d vs, u = .ref e ∧ IsEx s1.heap C N bm nid ∧ bm.contains (.type "BaseException") = true ∧
      s1.heap.get? e = some { cls := .ref C, dict := d, data := .fields vs } ∧ vs[1]? = some .none ∧ E (.ref e) s1) E s) :
    wpAny M A (raiseStmt env (some v) none) Q E s := by
  unfold raiseStmt
  refine wpAny_bind (wpAny_mono h (fun u s1 h1 => ?_) fun _ _ z => z)
  obtain ⟨e, C, N, bm, nid, d, vs, rfl, x, hb, he, hv, hE⟩ := h1
  obtain ⟨nm, q, bs, hd, sn, sb, ab, cl, dd, k0, k1, k2, k3, k5, hC⟩ := x
  have hcB : (Value.ref C :: bm).contains (.type "BaseException") = true := by
    rw [List.contains_cons, hb, Bool.or_true]
  obtain ⟨hp, g, dr, tk, os⟩ := s1
  repeat (first
    | with_reducible refine wpAny_loadPart_at he ?_
    | with_reducible refine wpAny_loadPart_at hC ?_
    | (with_reducible refine wpAny_isSubtype_exc hC ?_
       rw [hcB])
    | wp_step)
  rw [hv]
  refine wpAny_pure ?_
  rw [if_neg (by decide)]
  exact wpAny_pure (wpAny_raiseNew_none hh hE)
end
end PyX
namespace L2
open PySem PySem.Spec PyProof.Rows
section
variable {X : Cx} {C N T U : Addr} {nid iid : String} {mN mT : Str → Option Value} {x : Str} {p pos cpos : Pos} {e : Expr} {es : List Expr} {t : TA} {E : XK}
end
def exS (a C : Addr) (d : Option Addr) : HO := .ext fun h => ∃ vs, h.get? a = some { cls := .ref C, dict := d, data := .fields vs } ∧ vs[1]? = some .none
def exD (dx : Addr) (fs : List (Str × V)) : HO := .ext fun h => ∃ mA, h.Ns1 dx mA ∧ (∀ f, RelO (fs.lookup f) (mA f)) ∧ PySem.Within mA (fs.map (·.1))
section
variable {X : Cx} {pins : List (Addr × Obj)} {σ : St} {H : Hp} {s : Shared} {a : Addr}
theorem Inv.trackO {o : HO} {ob : Obj} (I : Inv X pins σ H s) (ok : ObjOk X.prog X.w (upd H a o) s.heap a o) (lo : Loose X pins H a) : Inv X pins σ (upd H a o) s := by
 obtain ⟨h, g, dr, t, os⟩ := s
 refine I.call (ch := [a]) (h' := h) (g' := g) (d' := dr) (t' := t) ⟨fun b o e _ _ _ => e, fun b o e _ _ _ => ⟨o.slots, e⟩, fun b o e n nx => ?_, fun b o e _ => ⟨o, e⟩, fun b ys q => ?_, fun b o u q => ?_, fun b ps q => ⟨#[], ?_⟩⟩
  (fun b o' e => ?_) I.bare fun b hb => ?_
 ·rw [upd_ne (fun z => nx (by simp [z]))]
  exact n
 ·rw [upd_ne (ne_of_none q lo.2.1)]
  exact q
 ·rw [upd_ne (ne_of_none q lo.2.1)]
  exact q
 ·rw [upd_ne (ne_of_none q lo.2.1), q]
  simp
 ·by_cases hb : b = a
  ·subst hb
   rw [upd_same] at e
   cases e
   exact ok
  ·rw [upd_ne hb] at e
   exact (I.hok b o' e).stay (fun _ _ _ q => q) (fun c r => by rw [upd_ne (ne_of_none r lo.2.1)]; exact r) fun c ys r => by rw [upd_ne (ne_of_none r lo.2.1)]; exact r
 ·obtain rfl : b = a := by simpa using hb
  exact ⟨.inr lo.1, lo.2.2.1, lo.2.2.2.1, lo.2.2.2.2⟩
theorem exS_ok {H' : Hp} {h : Heap} {C : Addr} {d : Option Addr} {vs : Array Value} (e : h.get? a = some { cls := .ref C, dict := d, data := .fields vs }) (v : vs[1]? = some .none) : ObjOk X.prog X.w H' h a (exS a C d) :=
 ⟨⟨vs, e, v⟩, ⟨_, e⟩, fun h1 h2 ⟨vs', e', v'⟩ k => ⟨vs', k _ e', v'⟩⟩
theorem ns1_at {h1 h2 : Heap} {dx : Addr} {m : Str → Option Value} (n : h1.Ns1 dx m) (k : ∀ o, h1.get? dx = some o → h2.get? dx = some o) : h2.Ns1 dx m := by
 obtain ⟨o, es, ep, e, r⟩ := n
 exact ⟨o, es, ep, k _ e, r⟩
theorem exD_ok {H' : Hp} {h : Heap} {dx : Addr} {fs : List (Str × V)} {mA : Str → Option Value} (n : h.Ns1 dx mA) (r : ∀ f, RelO (fs.lookup f) (mA f)) (wi : PySem.Within mA (fs.map (·.1))) : ObjOk X.prog X.w H' h dx (exD dx fs) :=
 ⟨⟨mA, n, r, wi⟩, (by
  obtain ⟨o, es, ep, e, _⟩ := n
  exact ⟨o, e⟩), fun h1 h2 ⟨m, n', r', w'⟩ k => ⟨m, ns1_at n' k, r', w'⟩⟩
variable {C N T U : Addr} {nid : String} {mN mT : Str → Option Value} {f : Str} {y : V} {u : Value} {A : Around} {E : Value → Shared → Prop} {Q : Unit → Shared → Prop}
structure NoN (mN mT : Str → Option Value) (f : Str) : Prop where
 a : mN f = none
 b : mT f = none
 c : typeLookup (.type "ValueError") f = pure none
 d : mN "__setattr__" = none
 e : mT "__setattr__" = none
theorem setx_first (I : Inv X pins σ H s) (c : PyX.Two X.base C N T U nid mN mT) (n : NoN mN mT f) (hH : H a = some (exS a C none)) (ry : RelV y u)
  (hq : ∀ dx s', H dx = none → dx ≠ a → Inv X pins σ (upd (upd H a (exS a C (some dx))) dx (exD dx [(f, y)])) s' → Q () s') : wpAny (model X.prog X.w) A (setAttr (.ref a) f u) Q E s := by
 obtain ⟨⟨vs, ho, hv⟩, _, _⟩ := I.hok a _ hH
 have J0 := I
 obtain ⟨h, g, dr, t, os⟩ := s
 have fr : H h.objs.size = none := I.hok.fresh (Nat.le_refl _)
 have la : a < h.objs.size := Heap.lt_size ho
 refine PyX.storeAttr (mA := fun _ => none) (ns := []) (c.keeps I.bk) n.a n.b n.c n.d n.e ⟨_, ho, rfl, fun c z => (by cases z), .inl ⟨rfl, fun _ => rfl⟩⟩ PySem.Within.nil (by rw [sizeLine_eq]; decide) fun h' t' In SL => ?_
 obtain ⟨o1, e1, c1, d1, s1, _⟩ := SL.2.1 _ ho
 obtain ⟨o2, e2, dd⟩ := SL.2.2 _ ho rfl
 obtain rfl : o1 = o2 := Option.some.inj (e1.symm.trans e2)
 have he : h'.get? a = some { cls := .ref C, dict := some h.objs.size, data := .fields vs } := by
  rw [e1]
  obtain ⟨oc, od, odt, osl⟩ := o1
  have q1 : oc = .ref C := c1
  have q2 : odt = .fields vs := d1
  have q3 : osl = #[] := s1
  have q4 : od = some h.objs.size := dd
  subst q1 q2 q3 q4
  rfl
 have I1 : Inv X pins σ (upd H a (exS a C (some h.objs.size))) ⟨h', g, dr, t', os⟩ :=
  I.write (x := a) (e := a) (t' := t') (by rw [hH]; exact True.intro) (.inl rfl) (fun b ob hb q => SL.1 b ob hb (fun o0 dx z z' => by
   have : o0 = _ := Option.some.inj (z.symm.trans ho)
   subst this
   cases z') q) ⟨_, he⟩ (exS_ok he hv)
 obtain ⟨oI, eI, _, _, hd⟩ := In
 have : oI = { cls := .ref C, dict := some h.objs.size, data := .fields vs } := Option.some.inj (eI.symm.trans he)
 subst this
 rcases hd with ⟨z, _⟩ | ⟨dx, z, hne, ns⟩
 ·cases z
 ·cases z
  refine hq h.objs.size _ fr hne (I1.trackO (ob := { cls := .none, data := .fields #[] }) (exD_ok ns (fun g => ?_) ?_) ?_)
  ·by_cases q : g = f
   ·subst q
    simp [List.lookup, RelO]
    exact ry
   ·have : (g == f) = false := by simpa using q
    simp [List.lookup, this, q, RelO]
  ·exact PySem.Within.cons f u PySem.Within.nil
  ·have := J0.loose (Nat.le_refl _) fr
   exact ⟨this.1, by rw [upd_ne hne]; exact fr, this.2.2⟩
end
section
variable {X : Cx} {pins : List (Addr × Obj)} {σ : St} {H : Hp} {s : Shared} {a : Addr}
variable {C N T U dx : Addr} {nid : String} {mN mT : Str → Option Value} {f : Str} {y : V} {u : Value} {A : Around} {E : Value → Shared → Prop} {Q : Unit → Shared → Prop} {fs : List (Str × V)}
theorem setx_more (I : Inv X pins σ H s) (c : PyX.Two X.base C N T U nid mN mT) (n : NoN mN mT f) (hH : H a = some (exS a C (some dx))) (hD : H dx = some (exD dx fs)) (hne : dx ≠ a) (hl : fs.length < 100) (ry : RelV y u)
  (hq : ∀ s', Inv X pins σ (upd H dx (exD dx ((f, y) :: fs))) s' → Q () s') : wpAny (model X.prog X.w) A (setAttr (.ref a) f u) Q E s := by
 obtain ⟨⟨vs, ho, hv⟩, _, _⟩ := I.hok a _ hH
 obtain ⟨⟨mA, ns, r, wi⟩, _, _⟩ := I.hok dx _ hD
 obtain ⟨h, g, dr, t, os⟩ := s
 refine PyX.storeAttr (mA := mA) (ns := fs.map (·.1)) (c.keeps I.bk) n.a n.b n.c n.d n.e ⟨_, ho, rfl, fun c z => (by cases z), .inr ⟨dx, rfl, hne, ns⟩⟩ wi (by rw [List.length_map, sizeLine_eq]; omega) fun h' t' In SL => ?_
 obtain ⟨o1, e1, c1, d1, s1, dd⟩ := SL.2.1 _ ho
 have he : h'.get? a = some { cls := .ref C, dict := some dx, data := .fields vs } := by
  rw [e1]
  obtain ⟨oc, od, odt, osl⟩ := o1
  have q1 : oc = .ref C := c1
  have q2 : odt = .fields vs := d1
  have q3 : osl = #[] := s1
  have q4 : od = some dx := dd dx rfl
  subst q1 q2 q3 q4
  rfl
 obtain ⟨oI, eI, _, _, hd⟩ := In
 have : oI = { cls := .ref C, dict := some dx, data := .fields vs } := Option.some.inj (eI.symm.trans he)
 subst this
 rcases hd with ⟨z, _⟩ | ⟨dx', z, _, ns'⟩
 ·cases z
 ·cases z
  have ed : ∃ o, h'.get? dx = some o := by
   obtain ⟨o, es, ep, e, _⟩ := ns'
   exact ⟨o, e⟩
  refine hq _ (I.write (x := dx) (e := dx) (t' := t') (by rw [hD]; exact True.intro) (.inl rfl) (fun b ob hb q => ?_) ed (exD_ok ns' (fun g => ?_) ?_))
  ·by_cases z : b = a
   ·subst z
    have : ob = _ := Option.some.inj (q.symm.trans ho)
    subst this
    exact he
   ·exact SL.1 b ob z (fun o0 dx0 z0 z1 => by
     have : o0 = _ := Option.some.inj (z0.symm.trans ho)
     subst this
     cases z1
     exact hb) q
  ·by_cases q : g = f
   ·subst q
    simp [List.lookup, RelO]
    exact ry
   ·have hb : (g == f) = false := by simpa using q
    simp only [List.lookup, hb, if_neg q]
    exact r g
  ·exact PySem.Within.cons f u wi
def sX1 (C : Addr) (ta tv : TE) (f : Str) : TS := fun D σ H => tv σ H fun y H1 => ta σ H1 fun x H2 => ∃ a, x = .ref a ∧ H2 a = some (exS a C none) ∧
 ∀ dx, H2 dx = none → dx ≠ a → D.nx σ (upd (upd H2 a (exS a C (some dx))) dx (exD dx [(f, y)]))
def sX2 (C : Addr) (ta tv : TE) (f : Str) : TS := fun D σ H => tv σ H fun y H1 => ta σ H1 fun x H2 => ∃ a dx fs, x = .ref a ∧ H2 a = some (exS a C (some dx)) ∧ H2 dx = some (exD dx fs) ∧ dx ≠ a ∧ fs.length < 100 ∧
 D.nx σ (upd H2 dx (exD dx ((f, y) :: fs)))
variable {o value : Expr} {ta tv : TE} {pos pos' : Pos}
theorem ps_x1 (c : PyX.Two X.base C N T U nid mN mT) (n : NoN mN mT f) (ha : PE X o ta) (hv : PE X value tv) (hs : swapsWith value (some (.Attribute o f pos')) pos.line X.env = pure false) :
  PS X (.Assign [.Attribute o f pos'] value pos) (sX1 C ta tv f) := by
 intro pins s σ H D I h
 refine plainObj_wpAny_Assign_Attribute (thn (hv pins s σ H _ I h) fun u s1 ⟨y, H1, I1, ry, q⟩ => thn (ha pins s1 σ H1 _ I1 q) fun ov s2 ⟨x, H2, I2, rx, a, ex, ea, q2⟩ => ?_) hs
 subst ex
 obtain rfl : ov = Value.ref a := rx
 exact setx_first I2 c n ea ry fun dx s3 h1 h2 I3 => ⟨σ, _, I3, q2 dx h1 h2⟩
theorem ps_x2 (c : PyX.Two X.base C N T U nid mN mT) (n : NoN mN mT f) (ha : PE X o ta) (hv : PE X value tv) (hs : swapsWith value (some (.Attribute o f pos')) pos.line X.env = pure false) :
  PS X (.Assign [.Attribute o f pos'] value pos) (sX2 C ta tv f) := by
 intro pins s σ H D I h
 refine plainObj_wpAny_Assign_Attribute (thn (hv pins s σ H _ I h) fun u s1 ⟨y, H1, I1, ry, q⟩ => thn (ha pins s1 σ H1 _ I1 q) fun ov s2 ⟨x, H2, I2, rx, a, dx, fs, ex, ea, ed, ne, l, q2⟩ => ?_) hs
 subst ex
 obtain rfl : ov = Value.ref a := rx
 exact setx_more I2 c n ea ed ne l ry fun s3 I3 => ⟨σ, _, I3, q2⟩
end
def del (H : Hp) (a : Addr) : Hp := fun b => if b = a then none else H b
theorem del_same {H : Hp} {a : Addr} : del H a a = none := by
 unfold del
 rw [if_pos rfl]
theorem del_ne {H : Hp} {a b : Addr} (h : b ≠ a) : del H a b = H b := by
 unfold del
 rw [if_neg h]
section
variable {X : Cx} {pins : List (Addr × Obj)} {σ : St} {H : Hp} {s : Shared} {a : Addr} {φ : Heap → Prop}
theorem Inv.untrack (I : Inv X pins σ H s) (hH : H a = some (.ext φ)) (h1 : X.s₀.heap.objs.size ≤ a) (h3 : a ≠ X.env.locals) (h4 : ∀ x c, X.env.cells.lookup x = some c → c ≠ a) (h5 : ∀ p ∈ X.pn ++ pins, p.1 ≠ a) : Inv X pins σ (del H a) s := by
 obtain ⟨h, g, dr, t, os⟩ := s
 have ne : ∀ {b : Addr} {o : HO}, H b = some o → (∀ ψ, o ≠ .ext ψ) → b ≠ a := fun {b o} e d z => by
  rw [z, hH] at e
  exact d φ (Option.some.inj e).symm
 refine I.call (ch := []) (h' := h) (g' := g) (d' := dr) (t' := t) ⟨fun b o e _ _ _ => e, fun b o e _ _ _ => ⟨o.slots, e⟩, fun b o e n _ => ?_, fun b o e _ => ⟨o, e⟩, fun b ys q => ?_, fun b o u q => ?_, fun b ps q => ⟨#[], ?_⟩⟩
  (fun b o' e => ?_) I.bare fun b hb => absurd hb (by simp)
 ·unfold del
  split
  ·rfl
  ·exact n
 ·rw [del_ne (ne q fun _ z => by cases z)]
  exact q
 ·rw [del_ne (ne q fun _ z => by cases z)]
  exact q
 ·rw [del_ne (ne q fun _ z => by cases z), q]
  simp
 ·by_cases hb : b = a
  ·subst hb
   rw [del_same] at e
   cases e
  ·rw [del_ne hb] at e
   exact (I.hok b o' e).stay (fun _ _ _ q => q) (fun c r => by rw [del_ne (ne r fun _ z => by cases z)]; exact r) fun c ys r => by rw [del_ne (ne r fun _ z => by cases z)]; exact r
end
section
variable {X : Cx} {C N T U fI : Addr} {nid iid : String} {mN mT : Str → Option Value} {x : Str} {p pos cpos : Pos} {e : Expr} {es : List Expr} {t : TA} {E : XK} {k : Nat} {fd : FuncData} {ps : List Str} {sp : Sp} {oI : Obj}
theorem ps_raise1 (hc : X.calm = true) (c : PyX.Two X.base C N T U nid mN mT) (hi : mN "__init__" = some (.ref fI)) (hf : X.base.get? fI = some oI) (hfc : oI.cls = .type "function") (F : ExcBaseFacts "ValueError" nid iid PyX.VE)
  (G : FnOk X.prog X.w X.K X.mg X.base CX0 k fI fd ps sp) (hr : Room (k + 1) X.A) (hb : Binds X.K fd ps [])
  (hg : Gl X x) (hm : X.mg x = some (.ref C)) (kp : PySem.W.keepIn X.K (.ref C) = true) (ha : PA X (e :: es) t) (hx : Throws X E)
  (hdb : (x == ("__debug__" : Str)) = false := by decide) (he : starEach (e :: es) X.env = (false, eval e X.env) :: starEach es X.env := by rfl) (hpl : (backTo cpos (starEach es X.env)).any (·.1) = false := by rfl) :
  PS X (.Raise (some (.Call (.Name x p) (e :: es) [] cpos)) none pos) (fun D σ H => t σ H fun vs H1 => vs.length ≤ sizeLine ∧ ∀ a, H1 a = none →
   sp (.ref a :: vs) (upd H1 a (exS a C none)) (fun v H2 => v = .non ∧ ∃ d, H2 a = some (exS a C d) ∧ E (.ref C) d (del H2 a)) fun _ _ _ => False) := by
 intro pins s σ H D I h
 rw [arm_exec_Raise]
 refine wpAny_bind (wpAny_standAt (PyX.raiseX (I.ok.hd hc) ?_))
 refine wpAny_bind (wpAny_mono (wpAny_Call_Name_kw (ld_glob I hg hm ?_ hdb)) (fun v s3 h3 => wpAny_bind (wpAny_standAt (wpAny_pure h3))) fun _ _ z => z)
 refine PySem.W.callWith_K (h₀ := X.base) I.ok.mod.kin kp (thn (ha cpos pins s σ H _ I h) fun us s1 ⟨vs, H1, I1, r, hl, q⟩ => ⟨I1.kIn, ?_⟩) he hpl
 have c1 := c.keeps I1.bk
 have hl' : us.length ≤ sizeLine := by
  rw [← r.length]
  exact hl
 obtain ⟨h1, g1, d1, t1, o1⟩ := s1
 refine PyX.call_initT F c1.tail c1.c.ex c1.nsC hi (I1.bk _ _ hf) hfc (fun h' a mk hz => ?_) hl'
 have J : Inv X pins σ H1 ⟨h', g1, d1, t1, o1⟩ := I1.kept (t' := t1) mk.keeps
 obtain ⟨ta, ho, _, _⟩ := mk.there
 have lo := I1.loose hz (I1.hok.fresh hz)
 have J2 : Inv X pins σ (upd H1 a (exS a C none)) ⟨h', g1, d1, t1, o1⟩ := J.trackO (ob := { cls := .none, data := .fields #[] }) (exS_ok ho rfl) lo
 have hq := q a lo.2.1
 have r2 : Vals (V.ref a :: vs) (Value.ref a :: us) := .cons rfl r
 have hlen : (Value.ref a :: us ++ []).length = ps.length := by
  have e1 := r2.length
  rw [G.len _ _ _ _ hq] at e1
  rw [List.append_nil]
  exact e1.symm
 have bb := hb ⟨h', g1, d1, t1, o1⟩ (Value.ref a :: us) J2.kIn hlen
 rw [List.append_nil] at bb
 refine wpAny_call (codeAny_mono (G.run _ X.stack _ _ ⟨Value.ref a :: us, []⟩ (Value.ref a :: us) _ _ _ (hr.make C us []) (J2.env0.make C us []) bb r2 hq) fun res s' hq' => ?_)
 cases res with
 | error z => exact False.elim hq'
 | ok fl =>
  cases fl with
  | ret u =>
   obtain ⟨v, H2, I3, rv, ev, d, h2, q3⟩ := J2.after hq'
   subst ev
   obtain ⟨⟨ws, he3, hv3⟩, _, _⟩ := I3.hok a _ h2
   have I4 := I3.untrack h2 lo.1 lo.2.2.1 lo.2.2.2.1 lo.2.2.2.2
   exact ⟨rv, a, C, N, _, nid, d, ws, rfl, (c.keeps I3.bk).c.ex, rfl, he3, hv3, hx pins σ _ s' a C d I4 ⟨ws, he3, hv3⟩ ⟨lo.1, del_same, lo.2.2⟩ q3⟩
  | next => exact False.elim hq'
  | brk => exact False.elim hq'
  | cont => exact False.elim hq'
end
section
variable {X : Cx} {f : Str} {e : Expr} {ta : TE} {pos : Pos}
structure NoR (mN mT : Str → Option Value) (f : Str) : Prop where
 a : mN f = none
 b : mT f = none
 c : typeLookup (.type "ValueError") f = pure none
 d : mN "__getattribute__" = none
 e : mT "__getattribute__" = none
 g : mN "__getattr__" = none
 h : mT "__getattr__" = none
def tXf (X : Cx) (ta : TE) (f : Str) : TE := fun σ H Q => ta σ H fun x H1 => ∃ a C dx fs y N T U nid mN mT, x = .ref a ∧ H1 a = some (exO a C (some dx)) ∧ H1 dx = some (exD dx fs) ∧ dx ≠ a ∧
 PyX.Two X.base C N T U nid mN mT ∧ NoR mN mT f ∧ fs.lookup f = some y ∧ Q y H1
theorem pe_xf (he : PE X e ta) (hb : attributeBase e f X.env (eval e X.env) = eval e X.env) : PE X (.Attribute e f pos) (tXf X ta f) := by
 intro pins s σ H Q I h
 refine attr_of hb (thn (he pins s σ H _ I h) fun u s1 ⟨x, H1, I1, rx, a, C, dx, fs, y, N, T, U, nid, mN, mT, ex, ea, ed, ne, c, n, l, q⟩ => ?_)
 subst ex
 obtain rfl : u = Value.ref a := rx
 obtain ⟨⟨vs, ho⟩, _, _⟩ := I1.hok a _ ea
 obtain ⟨⟨mA, ns, r, wi⟩, _, _⟩ := I1.hok dx _ ed
 have rf := r f
 rw [l] at rf
 cases hv : mA f with
 | none =>
  rw [hv] at rf
  exact False.elim rf
 | some w0 =>
  rw [hv] at rf
  have rw0 : RelV y w0 := rf
  obtain ⟨h1, g1, d1, t1, o1⟩ := s1
  refine PyX.loadAttr (c.keeps I1.bk) n.a n.b n.c n.d n.e n.g n.h ⟨_, ho, rfl, fun c z => (by cases z), .inr ⟨dx, rfl, ne, ns⟩⟩ hv (PySem.W.handedOut_of (handed_of rw0)) ?_
  exact ⟨y, H1, I1.tok _, rw0, q⟩
end
end L2
namespace PyX
open PySem
theorem veClass : typeLookup (.type "ValueError") "__class__" = pure (some (.builtin "object.__class__")) := by
 rw [typeLookup_type, builtinLookup_eq_fast]
 kernel_rfl
section
variable {prog : Program} {w : World} {h : Heap} {C N T U x : Addr} {nid : String} {mN mT : Str → Option Value} {o : Obj}
variable {A : Around} {E : Value → Shared → Prop} {gs : Array GenState} {dr : Drawn} {tk : Nat} {os : OsState}
theorem classGet {R : Result → Shared → Prop} (c : Two h C N T U nid mN mT) (hx : h.get? x = some o) (hc : o.cls = .ref C) (hq : R (.ok (.ret (.ref C))) ⟨h, gs, dr, tk, os⟩) :
    codeAny (model prog w) A (.call (.builtin "getset_descriptor.__get__") ⟨[.builtin "object.__class__", .ref x, .ref C], []⟩) R ⟨h, gs, dr, tk, os⟩ := by
  obtain ⟨nm, q, bs, sn, sb, ab, cl, dd, k0, k1, k2, k3, k5, hC⟩ := c.c
  have h5 : (⟨h, gs, dr, tk, os⟩ : Shared).TypeIs (.builtin "object.__class__") "getset_descriptor" := F.typeOf_object_class
  have hO : (Value.ref C :: Value.ref T :: VE).contains (.type (".".intercalate ("object.__class__".cutAt '.').dropLast)) = true := by
    rw [F.owner_object_class, List.contains_cons, List.contains_cons, SF.hasOwner, Bool.or_true, Bool.or_true]
  refine codeAny_call_builtin F.slot_gs_get.plain F.entry_gs_get (F.slot_gs_get.check _ _ _ _ _ _ _ _ h5 (F.args_gs_get _ _ _) ?_)
  repeat (any_goals (first
    | assumption
    | (with_reducible refine wpAny_loadPart_at hx ?_
       rw [hc])
    | (with_reducible refine wpAny_isSubtype_exc hC ?_
       rw [hO])
    | wp_step))
  refine ⟨Code.quiet_builtin _ (by decide +kernel), codeAny_builtin F.entry_object_class ?_⟩
  repeat (any_goals (first
    | assumption
    | (with_reducible refine wpAny_loadPart_at hx ?_
       rw [hc])
    | wp_step))
theorem classEntry {kt : Tok} {Q : Fin → Shared → Prop} (c : Two h C N T U nid mN mT) (h1 : mN "__class__" = none) (h2 : mT "__class__" = none) (hx : h.get? x = some o) (hc : o.cls = .ref C)
    (hq : Q (.done (.ret (.ref C))) ⟨h, gs, dr, tk, os⟩) :
    wpAny (model prog w) A (Builtin.«object.__getattribute__» ⟨[.ref x, .str "__class__" kt], []⟩) Q E ⟨h, gs, dr, tk, os⟩ := by
  have h5 : (⟨h, gs, dr, tk, os⟩ : Shared).TypeIs (.builtin "object.__class__") "getset_descriptor" := F.typeOf_object_class
  have f5 := F.typeOf_object_class
  have f6 := F.slot_gs_get.lookup
  have f7 := F.slot_gs_set.lookup
  repeat (any_goals (first
    | assumption
    | (with_reducible refine wpAny_loadPart_at hx ?_
       rw [hc])
    | with_reducible refine c.lookB veClass h1 h2 ?_
    | wp_step))
  refine classGet c hx hc ?_
  repeat (any_goals (first
    | assumption
    | wp_step))
theorem classAttr {Q : Option Value → Shared → Prop} (c : Two h C N T U nid mN mT) (h1 : mN "__class__" = none) (h2 : mT "__class__" = none)
    (h3 : mN "__getattribute__" = none) (h4 : mT "__getattribute__" = none) (h5 : mN "__getattr__" = none) (h6 : mT "__getattr__" = none)
    (hx : h.get? x = some o) (hc : o.cls = .ref C) (hq : Q (some (.ref C)) ⟨h, gs, dr, tk + 1, os⟩) :
    wpAny (model prog w) A (getAttr? (.ref x) "__class__") Q E ⟨h, gs, dr, tk, os⟩ := by
  have f3 := F.attr_ValueError.ga.bind (.ref x)
  have e2 : (Value.builtin "BaseException.__getattribute__" == Value.builtin "object.__getattribute__") = false := by
    decide +kernel
  have e1 : (onTheHeap (Value.ref C) && Value.builtin "BaseException.__getattribute__" == Value.builtin "object.__getattribute__") = false := by
    rw [e2]
    rfl
  unfold getAttr? getAttrBy? getAttrBy
  repeat (any_goals (first
    | assumption
    | (with_reducible refine wpAny_loadPart_at hx ?_
       rw [hc])
    | with_reducible refine c.lookB F.attr_ValueError.ga.lookup h3 h4 ?_
    | with_reducible refine c.lookB F.attrBase_ValueError.noGetattr h5 h6 ?_
    | wp_step))
  refine codeAny_call_builtin F.attr_ValueError.ga.plain F.entry_bexc_ga (checkGa c hx hc (classEntry c h1 h2 hx hc ?_))
  repeat (any_goals (first
    | assumption
    | wp_step))
end
end PyX
namespace L2
open PySem PySem.Spec PyProof.Rows
structure NoC (mN mT : Str → Option Value) : Prop where
 a : mN "__class__" = none
 b : mT "__class__" = none
 d : mN "__getattribute__" = none
 e : mT "__getattribute__" = none
 g : mN "__getattr__" = none
 h : mT "__getattr__" = none
theorem kitx_ex {K : PySem.W.Frag} {x C N T U : Addr} {nid : String} {mN mT : Str → Option Value} {cd : ClassData} (hk : PySem.W.clsIn K C = some cd) (n : NoC mN mT) :
  PySem.W.KitX K (.ref x) (.ref C) (fun h => PyX.Two h C N T U nid mN mT ∧ ∃ o, h.get? x = some o ∧ o.cls = .ref C) where
 ty := fun M h _ ⟨_, o, e, c⟩ => by
  intro A Q E s k q
  unfold typeOf
  refine wpAny_bind (wpAny_loadPart (k _ _ e) (wpAny_pure ?_))
  rw [c]
  exact q
 it := fun M h X _ => by
  unfold PySem.W.clsIn at hk
  split at hk
  ·rename_i c' d' cd' sl' ho
   intro A' Q' E' s' k q
   unfold isType loadHead
   exact wpAny_bind (wpAny_loadPart (k _ _ (X _ _ ho)) (wpAny_pure q))
  ·cases hk
 ne := fun h tp dd its m sl X htp => by
  refine Bool.eq_false_iff.mpr fun q => ?_
  have e : C = tp := Value.ref.inj (beq_iff_eq.mp q)
  subst e
  unfold PySem.W.clsIn at hk
  split at hk
  ·rename_i c' d' cd' sl' ho
   have z := (X _ _ ho).symm.trans htp
   cases z
  ·cases hk
 ca := fun {prog w A E Q s} X ⟨c, o, e, cc⟩ k => by
  obtain ⟨h, g, d, t, os⟩ := s
  exact PyX.classAttr c n.a n.b n.d n.e n.g n.h e cc k
section
variable {X : Cx} {C N T U : Addr} {nid : String} {mN mT : Str → Option Value} {cd : ClassData}
theorem call_isx : CallR X (.builtin "isinstance") (fun xs H Q => ∃ a C d N T U nid mN mT cd c b, xs = [.ref a, c] ∧ H a = some (exO a C d) ∧ PySem.W.clsIn X.K C = some cd ∧ NoC mN mT ∧ PyX.Two X.base C N T U nid mN mT ∧
  (∀ cv, RelV c cv → PySem.W.kitOne X.K (.ref C) cv = some b) ∧ Q (.bl b) H) := by
 intro pins s σ H xs us Q I r h
 obtain ⟨a, C, d, N, T, U, nid, mN, mT, cd, c, b, rfl, ha, hk, n, two, e, q⟩ := h
 cases r with
 | cons r1 r =>
  cases r with
  | cons r2 r =>
   cases r
   cases (show _ = Value.ref a from r1)
   obtain ⟨⟨vs, ho⟩, _, _⟩ := I.hok a _ ha
   exact PySem.W.kia_one (kitx_ex hk n) I.kIn ⟨two.keeps I.bk, _, ho, rfl⟩ (e _ r2) (fun z => nomatch z) fun tk => ⟨.bl b, H, I.tok _, rfl, q⟩
theorem call_isxT : CallR X (.builtin "isinstance") (fun xs H Q => ∃ a C d N T U nid mN mT cd tp cs b, xs = [.ref a, .ref tp] ∧ H a = some (exO a C d) ∧ H tp = some (.tup cs) ∧ PySem.W.clsIn X.K C = some cd ∧ NoC mN mT ∧ PyX.Two X.base C N T U nid mN mT ∧
  (∀ its, Vals cs its → PySem.W.kitAny X.K (.ref C) its = some b) ∧ Q (.bl b) H) := by
 intro pins s σ H xs us Q I r h
 obtain ⟨a, C, d, N, T, U, nid, mN, mT, cd, tp, cs, b, rfl, ha, ht, hk, n, two, e, q⟩ := h
 cases r with
 | cons r1 r =>
  cases r with
  | cons r2 r =>
   cases r
   cases (show _ = Value.ref a from r1)
   cases (show _ = Value.ref tp from r2)
   obtain ⟨⟨vs, ho⟩, _, _⟩ := I.hok a _ ha
   obtain ⟨_, its, rv, o, h1, h2, m, h3⟩ := I.hok tp _ ht
   obtain ⟨oc, od, odt, osl⟩ := o
   cases h2
   cases h3
   exact PySem.W.kia_tup (kitx_ex hk n) I.kIn ⟨two.keeps I.bk, _, ho, rfl⟩ h1 (e _ rv) (fun z => nomatch z) fun tk => ⟨.bl b, H, I.tok _, rfl, q⟩
end
def strKeysB (es : Array DictEntry) : Bool := es.toList.all fun e => match e.key with | .str _ _ => true | _ => false
theorem strKeys_of {es : Array DictEntry} (h : strKeysB es = true) : StrKeys es := by
 intro e he
 unfold strKeysB at h
 have := List.all_eq_true.mp h e (Array.mem_toList_iff.mpr he)
 split at this
 ·rename_i n t q; exact ⟨n, t, q⟩
 ·cases this
def lacksB (es : Array DictEntry) (ns : List Str) : Bool := ns.all fun n => (nsFind es n).isNone
theorem lacks_of {es : Array DictEntry} {ns : List Str} (h : lacksB es ns = true) {n : Str} (hn : n ∈ ns) : nsFind es n = none := by
 have := List.all_eq_true.mp h n hn
 exact Option.isNone_iff_eq_none.mp this
structure ExcAt (K : PySem.W.Frag) (x : Str) (C N : Addr) (bm : List Value) (es : Array DictEntry) : Prop where
 at_ : PySem.W.nsIn K mainGlobals x = some (some (.ref C))
 ob : ∃ nm q bs sn sb ab cl dd k0 k1 k2 k3 k5, K.lookup C = some (excClassObj nm q C N bs bm true sn sb ab cl dd k0 k1 k2 k3 k5 PyX.veNew)
 ns : ∃ c d ep sl, K.lookup N = some ⟨c, d, .dict es ep, sl⟩
 kp : PySem.W.keepIn K (.ref C) = true
 sk : strKeysB es = true
theorem ExcAt.mk' {K : PySem.W.Frag} {x : Str} {C N : Addr} {bm : List Value} {es : Array DictEntry} {nm q : Str} {bs : List Value} {sn : List Str} {sb : List Value} {ab : Bool} {cl : Option Bool} {dd : Option Addr} {k0 k1 k2 k3 k5 : Option Value} {c : Value} {d : Option Addr} {ep : Nat} {sl : Array (Option Value)}
  (a : PySem.W.nsIn K mainGlobals x = some (some (.ref C))) (l : K.lookup C = some (excClassObj nm q C N bs bm true sn sb ab cl dd k0 k1 k2 k3 k5 PyX.veNew)) (n : K.lookup N = some ⟨c, d, .dict es ep, sl⟩) (kp : PySem.W.keepIn K (.ref C) = true) (sk : strKeysB es = true) : ExcAt K x C N bm es :=
 ⟨a, ⟨nm, q, bs, sn, sb, ab, cl, dd, k0, k1, k2, k3, k5, l⟩, ⟨c, d, ep, sl, n⟩, kp, sk⟩
section
variable {K : PySem.W.Frag} {x y : Str} {C N T U D M : Addr} {bm : List Value} {es et ez : Array DictEntry} {h : Heap} {mg : Str → Option Value}
theorem ExcAt.ed (e : ExcAt K x C N bm es) (X : K.In h) : PyX.IsEd h C N bm PyX.veNew := by
 obtain ⟨nm, q, bs, sn, sb, ab, cl, dd, k0, k1, k2, k3, k5, l⟩ := e.ob
 exact ⟨nm, q, bs, sn, sb, ab, cl, dd, k0, k1, k2, k3, k5, X _ _ l⟩
theorem ExcAt.nsx (e : ExcAt K x C N bm es) (X : K.In h) : h.Ns N (nsFind es) := by
 obtain ⟨c, d, ep, sl, l⟩ := e.ns
 exact ⟨_, es, ep, X _ _ l, rfl, strKeys_of e.sk, fun _ => rfl⟩
theorem ExcAt.cls (e : ExcAt K x C N bm es) : ∃ cd : ClassData, PySem.W.clsIn K C = some cd ∧ cd.mro = .ref C :: bm := by
 obtain ⟨nm, q, bs, sn, sb, ab, cl, dd, k0, k1, k2, k3, k5, l⟩ := e.ob
 have q : PySem.W.clsIn K C = some { name := nm, bases := bs, mro := .ref C :: bm, ns := N, qualname := q, hasDict := true, slotNames := sn, subclasses := sb, abstract := ab, collection := cl, hasDel := false } := by
  unfold PySem.W.clsIn
  rw [l]
 exact ⟨_, q, rfl⟩
theorem ExcAt.ty (e : ExcAt K x C N bm es) : PySem.W.typeIn K (.ref C) = some (.type "type") := by
 obtain ⟨nm, q, bs, sn, sb, ab, cl, dd, k0, k1, k2, k3, k5, l⟩ := e.ob
 show (K.lookup C).map (·.cls) = _
 rw [l]
 rfl
theorem ExcAt.sub (e : ExcAt K x C N bm es) (v : Value) : PySem.W.subIn K (.ref C) v = some ((Value.ref C :: bm).contains v) := by
 obtain ⟨cd, h1, h2⟩ := e.cls
 show PySem.W.mroIn K C v = _
 unfold PySem.W.mroIn
 rw [h1]
 show (if cd.mro.isEmpty = true then none else some (cd.mro.contains v)) = _
 rw [h2]
 rfl
theorem ExcAt.kitR (e : ExcAt K x C N bm es) {bm' : List Value} (f : ExcAt K y D M bm' ez) : PySem.W.kitOne K (.ref C) (.ref D) = some ((Value.ref C :: bm).contains (.ref D)) := by
 unfold PySem.W.kitOne
 by_cases q : (Value.ref C == Value.ref D) = true
 ·rw [if_pos q]
  have : C = D := Value.ref.inj (beq_iff_eq.mp q)
  subst this
  simp [List.contains_cons]
 ·rw [if_neg q]
  obtain ⟨cd, h1, _⟩ := f.cls
  show (if ((PySem.W.clsIn K D).isSome && PySem.W.typeIn K (.ref D) == some (.type "type")) = true then PySem.W.subIn K (.ref C) (.ref D) else none) = _
  rw [if_pos, e.sub]
  rw [h1, f.ty]
  rfl
theorem kitMetaVE : PySem.W.kitMeta "ValueError" = true := by kernel_rfl
theorem ExcAt.kitV (e : ExcAt K x C N (.ref T :: PyX.VE) es) : PySem.W.kitOne K (.ref C) (.type "ValueError") = some true := by
 unfold PySem.W.kitOne
 rw [if_neg (by simp)]
 show (if PySem.W.kitMeta "ValueError" = true then PySem.W.subIn K (.ref C) (.type "ValueError") else none) = _
 rw [if_pos kitMetaVE, e.sub]
 rfl
theorem ExcAt.two (e : ExcAt K x C N (.ref T :: PyX.VE) es) (t : ExcAt K y T U PyX.VE et) (i : nsFind et "__init__" = none) (X : K.In h) : PyX.Two h C N T U PyX.veNew (nsFind es) (nsFind et) :=
 ⟨e.ed X, t.ed X, e.nsx X, t.nsx X, i⟩
end
def sysNames : List Str := ["__setattr__", "__class__", "__getattribute__", "__getattr__"]
def fldNames : List Str := ["word", "thing", "number", "row", "name"]
def fldOk : List Str → Bool := fun l => l.all fun n => match fastLookup "ValueError" n with | some none => true | _ => false
theorem fldLook {f : Str} (hf : f ∈ fldNames) : typeLookup (.type "ValueError") f = pure none := by
 have h : fldOk fldNames = true := by kernel_rfl
 have := List.all_eq_true.mp h f hf
 rw [typeLookup_type, builtinLookup_eq_fast]
 split at this
 ·rename_i q; rw [q]
 ·cases this
structure Ec where
 C : Addr
 N : Addr
 es : Array DictEntry
structure EcOk (K : PySem.W.Frag) (x : Str) (T U : Addr) (et : Array DictEntry) (e : Ec) : Prop where
 c : ExcAt K x e.C e.N (.ref T :: PyX.VE) e.es
 no : lacksB e.es (sysNames ++ fldNames) = true
structure TbOk (K : PySem.W.Frag) (T U : Addr) (et : Array DictEntry) : Prop where
 t : ExcAt K "TableError" T U PyX.VE et
 no : lacksB et ("__init__" :: (sysNames ++ fldNames)) = true
section
variable {K : PySem.W.Frag} {x : Str} {T U : Addr} {et : Array DictEntry} {e : Ec} {f : Str} {h : Heap}
theorem EcOk.two (E : EcOk K x T U et e) (B : TbOk K T U et) (X : K.In h) : PyX.Two h e.C e.N T U PyX.veNew (nsFind e.es) (nsFind et) := E.c.two B.t (lacks_of B.no (by simp)) X
theorem EcOk.noN (E : EcOk K x T U et e) (B : TbOk K T U et) (hf : f ∈ fldNames) : NoN (nsFind e.es) (nsFind et) f :=
 ⟨lacks_of E.no (List.mem_append_right _ hf), lacks_of B.no (List.mem_cons_of_mem _ (List.mem_append_right _ hf)), fldLook hf, lacks_of E.no (by simp [sysNames]), lacks_of B.no (by simp [sysNames])⟩
theorem EcOk.noR (E : EcOk K x T U et e) (B : TbOk K T U et) (hf : f ∈ fldNames) : NoR (nsFind e.es) (nsFind et) f :=
 ⟨lacks_of E.no (List.mem_append_right _ hf), lacks_of B.no (List.mem_cons_of_mem _ (List.mem_append_right _ hf)), fldLook hf, lacks_of E.no (by simp [sysNames]), lacks_of B.no (by simp [sysNames]), lacks_of E.no (by simp [sysNames]), lacks_of B.no (by simp [sysNames])⟩
theorem EcOk.noC (E : EcOk K x T U et e) (B : TbOk K T U et) : NoC (nsFind e.es) (nsFind et) :=
 ⟨lacks_of E.no (by simp [sysNames]), lacks_of B.no (by simp [sysNames]), lacks_of E.no (by simp [sysNames]), lacks_of B.no (by simp [sysNames]), lacks_of E.no (by simp [sysNames]), lacks_of B.no (by simp [sysNames])⟩
end
def spIni2 (C : Addr) (f g : Str) : Sp := fun vs H Q _ => ∃ (a : Addr) (y z : V), vs = [.ref a, y, z] ∧ H a = some (exS a C none) ∧
 ∀ dx, H dx = none → dx ≠ a → Q .non (upd (upd (upd H a (exS a C (some dx))) dx (exD dx [(f, y)])) dx (exD dx [(g, z), (f, y)]))
section
variable {P : Program} {w : World} {K : PySem.W.Frag} {mg : Str → Option Value} {base : Heap} {C N T U : Addr} {mN mT : Str → Option Value} {qual : Str} {st : Stmt} {fI : Addr} {fd : FuncData} {f g u v : Str}
theorem ok_ini2 {p1 p2 p3 p4 q1 q2 q3 q4 : Pos} (F : Fun K "__init__" qual st fI fd) (c : PyX.Two base C N T U PyX.veNew mN mT) (n1 : NoN mN mT f) (n2 : NoN mN mT g) (hS : FnScope ["self", u, v] ["self", u, v] (defScope st))
  (hb : defBody st = [.Assign [.Attribute (.Name "self" p1) f p2] (.Name u p3) p4, .Assign [.Attribute (.Name "self" q1) g q2] (.Name v q3) q4]) (v0 : isVis (defScope st) "self" = true) (v1 : isVis (defScope st) u = true) (v2 : isVis (defScope st) v = true)
  (d1 : (u == ("__debug__" : Str)) = false) (d2 : (u == ("__classdict__" : Str)) = false) (d3 : (v == ("__debug__" : Str)) = false) (d4 : (v == ("__classdict__" : Str)) = false) :
  FnOk P w K mg base CX0 1 fI fd ["self", u, v] (spIni2 C f g) := by
 refine F.ok hS (fun vs H Q E h => ?_) (fun cdv A outer s H vs Q E hr h => ?_)
 ·obtain ⟨a, y, z, rfl, _⟩ := h; rfl
 ·obtain ⟨a, y, z, rfl, ha, k⟩ := h
  rw [hb]
  refine ⟨_, pss_cons (ps_x1 c n1 (vn 0 rfl v0) (vn 1 rfl v1 d1 d2) rfl) (pss_one (ps_x2 c n2 (vn 0 rfl v0) (vn 2 rfl v2 d3 d4) rfl)), ?_⟩
  refine ⟨_, rfl, _, rfl, a, rfl, ha, fun dx h1 h2 => ⟨_, rfl, _, rfl, a, dx, [(f, y)], rfl, ?_, upd_same, h2, (by show 1 < 100; decide), k dx h1 h2⟩⟩
  rw [upd_ne (Ne.symm h2), upd_same]
end
def IniOk (P : Program) (w : World) (K : PySem.W.Frag) (mg : Str → Option Value) (base : Heap) (e : Ec) (ps : List Str) (sp : Sp) : Prop :=
 ∃ fI oI fd, nsFind e.es "__init__" = some (.ref fI) ∧ base.get? fI = some oI ∧ oI.cls = .type "function" ∧ FnOk P w K mg base CX0 1 fI fd ps sp ∧ Binds K fd ps []
def IniIn (K : PySem.W.Frag) (e : Ec) (qual : Str) (st : Stmt) : Prop :=
 ∃ (f : Addr) (od an : Option Addr) (osl : Array (Option Value)) (kV doc pm cdv ct : Value), nsFind e.es "__init__" = some (.ref f) ∧
  K.lookup f = some ⟨.type "function", od, .func (PySem.W.fnOf "__init__" qual (defArgs st) (defBody st) (defScope st) .none kV doc pm an cdv ct), osl⟩ ∧ PySem.W.codeIn K cdv qual = true ∧ PySem.W.keepIn K (.ref f) = true
theorem IniIn.mk {K : PySem.W.Frag} {e : Ec} {qual : Str} {st : Stmt} {f : Addr} {od an : Option Addr} {osl : Array (Option Value)} {kV doc pm cdv ct : Value} (a : nsFind e.es "__init__" = some (.ref f))
  (l : K.lookup f = some ⟨.type "function", od, .func (PySem.W.fnOf "__init__" qual (defArgs st) (defBody st) (defScope st) .none kV doc pm an cdv ct), osl⟩) (c : PySem.W.codeIn K cdv qual = true) (k : PySem.W.keepIn K (.ref f) = true) : IniIn K e qual st :=
 ⟨f, od, an, osl, kV, doc, pm, cdv, ct, a, l, c, k⟩
theorem IniIn.ok {P : Program} {w : World} {K : PySem.W.Frag} {mg : Str → Option Value} {base : Heap} {e : Ec} {qual : Str} {st : Stmt} {ps : List Str} {sp : Sp} (I : IniIn K e qual st) (X : K.In base)
  (hok : ∀ f fd, Fun K "__init__" qual st f fd → FnOk P w K mg base CX0 1 f fd ps sp)
  (hb : ∀ (kV doc pm : Value) (an : Option Addr) (cdv ct : Value) (us : List Value), us.length = ps.length → bindArgs (PySem.W.fnOf "__init__" qual (defArgs st) (defBody st) (defScope st) .none kV doc pm an cdv ct) ⟨us, []⟩ = pure (ps.zip us)) :
  IniOk P w K mg base e ps sp := by
 obtain ⟨f, od, an, osl, kV, doc, pm, cdv, ct, a, l, c, k⟩ := I
 exact ⟨f, _, _, a, X _ _ l, rfl, hok f _ (fun_mk l c k), (fun_mk l c k).binds hb⟩
end L2
namespace C6
open PySem L2 PySem.Spec PyProof.Rows
open Tb
abbrev sWhole : Stmt := top 16
abbrev sThings : Stmt := top 17
abbrev sShape : Stmt := top 19
abbrev sLawSh : Stmt := top 33
inductive Ti (K : PySem.W.Frag) (H : Hp) : V → Option (List V) → Prop where
 | tup {a : Addr} {xs : List V} (h : H a = some (.tup xs)) (hl : xs.length ≤ 1000) (he : ∀ y ∈ xs, ∃ n, Kd K H y n) : Ti K H (.ref a) (some xs)
 | other {x : V} {n : String} (h : Kd K H x n) (hn : n ≠ "tuple") : Ti K H x none
theorem Ti.mono {K : PySem.W.Frag} {H H' : Hp} {x : V} {o : Option (List V)} (s : Same H H') (h : Ti K H x o) : Ti K H' x o := by
 cases h with
 | tup h hl he => exact .tup (s _ _ h) hl fun y hy => let ⟨n, e⟩ := he y hy; ⟨n, e.mono s⟩
 | other h hn => exact .other (h.mono s) hn
theorem Ti.kd {K : PySem.W.Frag} {H : Hp} {x : V} {o : Option (List V)} (h : Ti K H x o) : ∃ n, Kd K H x n ∧ (isaB n "tuple" = o.isSome) := by
 cases h with
 | tup h hl he => exact ⟨"tuple", ⟨.tup h, by decide⟩, rfl⟩
 | other h hn => exact ⟨_, h, by rw [kd_isTup h]; simp [hn]⟩
inductive T2 (K : PySem.W.Frag) (H : Hp) : V → Option (List (Option (List V))) → Prop where
 | tup {a : Addr} {xs : List V} {os : List (Option (List V))} (h : H a = some (.tup xs)) (hl : xs.length ≤ 1000) (ho : os.length = xs.length) (he : ∀ (i : Nat) y, xs[i]? = some y → Ti K H y (os.getD i none)) : T2 K H (.ref a) (some os)
 | other {x : V} {n : String} (h : Kd K H x n) (hn : n ≠ "tuple") : T2 K H x none
theorem T2.mono {K : PySem.W.Frag} {H H' : Hp} {x : V} {o : Option (List (Option (List V)))} (s : Same H H') (h : T2 K H x o) : T2 K H' x o := by
 cases h with
 | tup h hl ho he => exact .tup (s _ _ h) hl ho fun i y hy => (he i y hy).mono s
 | other h hn => exact .other (h.mono s) hn
theorem T2.kd {K : PySem.W.Frag} {H : Hp} {x : V} {o : Option (List (Option (List V)))} (h : T2 K H x o) : ∃ n, Kd K H x n ∧ (isaB n "tuple" = o.isSome) := by
 cases h with
 | tup h hl ho he => exact ⟨"tuple", ⟨.tup h, by decide⟩, rfl⟩
 | other h hn => exact ⟨_, h, by rw [kd_isTup h]; simp [hn]⟩
def thB (o : Option (List V)) (c : Int) : Bool := match o with
 | none => false
 | some xs => xs.all (elB c)
def rowB (c : Nat) (o : Option (List V)) : Bool := thB o c && (match o with | none => false | some xs => decide (xs.length = c))
def shB (o : Option (List (Option (List V)))) : Bool := match o with
 | none => false
 | some os => decide (1 ≤ os.length) && (decide (os.length ≤ 60) && os.all (rowB os.length))
def spThings (K : PySem.W.Frag) : Sp := fun vs H Q _ => ∃ x o c, vs = [x, .int c] ∧ Ti K H x o ∧ ∀ H', Same H H' → Q (.bl (thB o c)) H'
def spShape (K : PySem.W.Frag) : Sp := fun vs H Q _ => ∃ x o, vs = [x] ∧ T2 K H x o ∧ ∀ H', Same H H' → Q (.bl (shB o)) H'
section
variable {P : Program} {w : World} {K : PySem.W.Frag} {mg : Str → Option Value} {base : Heap}
theorem scWhole : FnScope ["thing"] ["thing"] (defScope sWhole) := FS
theorem ok_whole {f : Addr} {fd : FuncData} (F : Fun K "is_whole" "is_whole" sWhole f fd) (T : Bl mg) : FnOk P w K mg base CX0 1 f fd ["thing"] (spWhole K) := by
 refine F.ok scWhole (fun vs H Q E h => ?_) (fun cdv A outer s H vs Q E hr h => ?_)
 ·obtain ⟨x, n, rfl, _⟩ := h; rfl
 ·obtain ⟨x, n, rfl, hk, q⟩ := h
  refine ⟨_, pss_one (ps_ret (pe_and (cb (isaK K "int") T.isi (pc (vn 0) (pc (tyv "int" T.int) pa_nil))) (pe_one (pe_not (cb (isaK K "bool") T.isi (pc (vn 0) (pc (tyv "bool" T.bool) pa_nil))))))), ?_⟩
  refine ⟨_, rfl, x, n, rfl, hk, _, rfl, ?_⟩
  have e := kd_whole hk
  unfold wholeB at e
  refine ite2 (fun h1 => ?_) (fun h1 => ?_)
  ·refine ⟨_, rfl, x, n, rfl, hk, _, rfl, ?_⟩
   rw [h1, Bool.true_and] at e
   rw [e]; exact q
  ·have h1 : isaB n "int" = false := by simpa using h1
   rw [h1, Bool.false_and] at e
   show Q (.bl false) H
   rw [e]; exact q
theorem scThings : FnScope ["thing", "count"] ["thing", "count"] (defScope sThings) := FS
theorem ok_things {f : Addr} {fd : FuncData} (F : Fun K "are_things" "are_things" sThings f fd) (T : Bl mg) (GW : Fn P w K mg base CX0 1 "is_whole" ["thing"] (spWhole K)) : FnOk P w K mg base CX0 2 f fd ["thing", "count"] (spThings K) := by
 refine F.ok scThings (fun vs H Q E h => ?_) (fun cdv A outer s H vs Q E hr h => ?_)
 ·obtain ⟨x, o, c, rfl, _⟩ := h; rfl
 ·obtain ⟨x, o, c, rfl, hx, q⟩ := h
  refine ⟨_, pss_one (ps_ret (pe_and (cb (isaK K "tuple") T.isi (pc (vn 0) (pc (tyv "tuple" T.tuple) pa_nil)))
   (pe_one (cb (call_all rfl) T.all (pc (cmp ["x"] [1] ["x", "count"] rfl (itT K (vn 0)) (fun _ _ _ _ _ => gn 0) (fun _ _ _ _ _ => pif_nil)
    (fun _ _ _ _ _ => pe_and (fnc GW hr pass0 (pc (vn 0) pa_nil)) (pe_one (pe_chain op_le op_lt pe_int (vn 0) (vn 1))))) pa_nil))))), ?_⟩
  obtain ⟨n, hk, ht⟩ := hx.kd
  refine ⟨_, rfl, x, n, rfl, hk, _, rfl, ?_⟩
  rw [ht]
  cases hx with
  | other h hn => exact q H (Same.refl H)
  | @tup a xs ha hl he =>
   show if true = true then _ else _
   refine iteT ?_
   refine ⟨_, rfl, a, rfl, ⟨xs, .of ha⟩, ?_⟩
   refine comp_map (seq_tup (SqT.of ha)) [some (.int c)] rfl (fun y => .bl (elB c y)) (by omega) ?_ ?_
   ·intro i y H' hy s R h1
    have hm : y ∈ xs := List.mem_of_getElem? hy
    obtain ⟨n', hk0⟩ := he y hm
    have hk' := hk0.mono s
    refine ⟨_, rfl, y, n', rfl, hk', _, rfl, ?_⟩
    cases y with
    | int z =>
     refine iteT ?_
     refine ⟨_, rfl, _, _, rfl, rfl, _, rfl, ?_⟩
     refine ite2 (fun h0 => ?_) (fun h0 => ?_)
     ·refine ⟨_, rfl, _, _, rfl, rfl, ?_⟩
      have h2 := h1 H' (Same.refl _)
      have e : elB c (.int z) = decide (z < c) := by show (decide (0 ≤ z) && decide (z < c)) = _; rw [h0]; rfl
      rw [e] at h2; exact h2
     ·have h2 := h1 H' (Same.refl _)
      have h0 : decide (0 ≤ z) = false := by simpa using h0
      have e : elB c (.int z) = false := by show (decide (0 ≤ z) && decide (z < c)) = _; rw [h0]; rfl
      rw [e] at h2; exact h2
    | _ => exact h1 H' (Same.refl _)
   ·intro D H' hD s hl'
    refine ⟨D, xs.map (elB c), rfl, .of ?_, ?_⟩
    ·rw [hl', List.map_map]; rfl
    ·have : (xs.map (elB c)).all id = xs.all (elB c) := by rw [List.all_map]; rfl
     rw [this]
     exact q H' s
theorem scShape : FnScope ["thing", "count"] ["thing"] (defScope sShape) := FS
theorem ok_shape {f : Addr} {fd : FuncData} {tk : Tok} (F : Fun K "has_shape" "has_shape" sShape f fd) (T : Bl mg) (hM : mg "MOST_THINGS" = some (.int 60 tk)) (GT : Fn P w K mg base CX0 2 "are_things" ["thing", "count"] (spThings K)) :
  FnOk P w K mg base CX0 3 f fd ["thing"] (spShape K) := by
 refine F.ok scShape (fun vs H Q E h => ?_) (fun cdv A outer s H vs Q E hr h => ?_)
 ·obtain ⟨x, o, rfl, _⟩ := h; rfl
 ·obtain ⟨x, o, rfl, hx, q⟩ := h
  refine ⟨_, pss_cons (ps_if (pw_or (pt_not (pt_val (cb (isaK K "tuple") T.isi (pc (vn 0) (pc (tyv "tuple" T.tuple) pa_nil)))))
    (pw_or (pt_cmpR op_lt (cb (lenK K) T.len (pc (vn 0) pa_nil)) pe_int (nomark _)) (pw_or1 (pt_cmpR op_gt (cb (lenK K) T.len (pc (vn 0) pa_nil)) (gint hM) (nomark _))))).pt (pss_one (ps_ret pe_bl)) pss_nil)
   (pss_cons (sset 1 rfl (cb (lenK K) T.len (pc (vn 0) pa_nil)))
   (pss_one (ps_ret (cb (call_all rfl) T.all (pc (cmp ["row"] [1] ["row", "count"] rfl (itT K (vn 0)) (fun _ _ _ _ _ => gn 0) (fun _ _ _ _ _ => pif_nil)
    (fun _ _ _ _ _ => pe_and (fnc GT hr pass0 (pc (vn 0) (pc (vn 1) pa_nil))) (pe_one (pe_cmpR op_eq (cb (lenK K) T.len (pc (vn 0) pa_nil)) (vn 1) (nomark _))))) pa_nil))))), ?_⟩
  obtain ⟨n, hk, ht⟩ := hx.kd
  refine ⟨_, rfl, x, n, rfl, hk, _, rfl, ?_⟩
  rw [ht]
  have bq : ∀ {b : Bool}, shB o = b → ∀ H', Same H H' → Q (.bl b) H' := fun {b} e H' s' => by rw [← e]; exact q H' s'
  cases hx with
  | other h hn => exact iteP (by decide) (bq rfl H (Same.refl H))
  | @tup a xs os ha hl ho he =>
   refine iteN (by simp) ?_
   refine ⟨_, rfl, a, _, rfl, .inr (.of ha), _, _, rfl, rfl, _, rfl, ?_⟩
   refine ite2 (fun h1 => ?_) (fun h1 => ?_)
   ·refine bq ?_ H (Same.refl H)
    have h1 := of_decide_eq_true h1
    show (decide (1 ≤ os.length) && _) = false
    rw [decide_eq_false (by omega), Bool.false_and]
   have h1 : ¬ (xs.length : Int) < 1 := fun z => h1 (decide_eq_true z)
   refine ⟨_, rfl, a, _, rfl, .inr (.of ha), _, _, rfl, rfl, _, rfl, ?_⟩
   refine ite2 (fun h2 => ?_) (fun h2 => ?_)
   ·refine bq ?_ H (Same.refl H)
    have h2 := of_decide_eq_true h2
    show (decide (1 ≤ os.length) && (decide (os.length ≤ 60) && _)) = false
    rw [decide_eq_false (p := os.length ≤ 60) (by omega), Bool.false_and, Bool.and_false]
   have h2 : ¬ (60 : Int) < (xs.length : Int) := fun z => h2 (decide_eq_true z)
   refine ⟨_, rfl, a, _, rfl, .inr (.of ha), _, rfl, a, rfl, ⟨_, .of ha⟩, ?_⟩
   refine comp_gen (xs := xs) (fun D i ys H' => Same H H' ∧ ys = (os.take i).map fun o => V.bl (rowB os.length o)) [some (.int (xs.length : Nat))] rfl (by omega) ?_ ?_ ?_ ?_
   ·intro D i ys H' hD hD' p
    have S := seq_tup (K := K) (H := H') (.of (p.1 _ _ ha))
    exact ⟨fun hi => ⟨S.go i H' (Same.refl _) hi, fun x H3 y => S.yld i H' x H3 (Same.refl _) hi y⟩, fun e => e ▸ S.stop H' (Same.refl _)⟩
   ·intro D hD
    exact ⟨Same.upd hD, rfl⟩
   ·rintro D i y ys H' hD hD' hy ⟨sm, rfl⟩ R k
    have hi : i < os.length := by rw [ho]; exact (List.getElem?_eq_some_iff.mp hy).1
    have ei : os[i]? = some (os.getD i none) := by rw [List.getD_eq_getElem?_getD, List.getElem?_eq_getElem hi]; rfl
    have hti := (he i y hy).mono sm
    generalize hoy : os.getD i none = oy at *
    have fin : ∀ (b : Bool) H5, rowB os.length oy = b → Same H' H5 → R (.bl b) H5 := fun b H5 e s5 => by
     refine k _ H5 (s5 _ _ hD') ⟨(sm.trans s5).updr hD, ?_⟩
     rw [List.take_add_one, ei, List.map_append, ← e]
     rfl
    refine ⟨_, rfl, _, rfl, y, oy, _, rfl, hti, fun H5 s5 => ⟨_, rfl, ?_⟩⟩
    refine ite2 (fun h3 => ?_) (fun h3 => ?_)
    ·cases hti with
     | other _ _ => cases h3
     | @tup b zs hb hbl hbe =>
      refine ⟨_, rfl, b, _, rfl, .inr (.of (s5 _ _ hb)), _, rfl, rfl, ?_⟩
      refine fin _ H5 ?_ s5
      show (thB (some zs) (os.length : Int) && decide (zs.length = os.length)) = decide (V.int (zs.length : Int) = V.int (xs.length : Int))
      rw [ho, h3, Bool.true_and, dec_int]
      by_cases e : zs.length = xs.length
      ·rw [decide_eq_true e, e]; simp
      ·rw [decide_eq_false e]
       exact (beq_eq_false_iff_ne.mpr (by omega)).symm
    ·refine fin _ H5 ?_ s5
     have h3 : thB oy (xs.length : Int) = false := by simpa using h3
     unfold rowB
     rw [ho, h3, Bool.false_and]
   ·rintro D ys H5 hD hD' hyl ⟨sm, rfl⟩
    have et : os.take xs.length = os := by rw [← ho, List.take_length]
    rw [et] at hD'
    refine ⟨D, os.map (rowB os.length), rfl, .of ?_, ?_⟩
    ·rw [hD', List.map_map]; rfl
    ·refine bq ?_ H5 sm
     show (decide (1 ≤ os.length) && (decide (os.length ≤ 60) && os.all (rowB os.length))) = _
     rw [decide_eq_true (p := 1 ≤ os.length) (by omega), decide_eq_true (p := os.length ≤ 60) (by omega), Bool.true_and, Bool.true_and, List.all_map]
     rfl
end
theorem shB_no {os : List (Option (List V))} {i : Nat} (hi : i < os.length) (h : rowB os.length (os.getD i none) = false) : shB (some os) = false := by
 have hm : os.getD i none ∈ os := by
  rw [List.getD_eq_getElem?_getD, List.getElem?_eq_getElem hi]
  exact List.getElem_mem hi
 have : os.all (rowB os.length) = false := by
  cases e : os.all (rowB os.length) with
  | false => rfl
  | true => rw [List.all_eq_true.mp e _ hm] at h; cases h
 show (decide (1 ≤ os.length) && (decide (os.length ≤ 60) && os.all (rowB os.length))) = false
 rw [this, Bool.and_false, Bool.and_false]
theorem rowB_no {n : Nat} {zs : List V} {y : V} (hm : y ∈ zs) (h : elB (n : Int) y = false) : rowB n (some zs) = false := by
 have : zs.all (elB (n : Int)) = false := by
  cases e : zs.all (elB (n : Int)) with
  | false => rfl
  | true => rw [List.all_eq_true.mp e _ hm] at h; cases h
 show (zs.all (elB (n : Int)) && decide (zs.length = n)) = false
 rw [this, Bool.false_and]
section
variable {P : Program} {w : World} {K : PySem.W.Frag} {mg : Str → Option Value} {base : Heap}
theorem scLawSh : FnScope ["_law_thing", "_law_row", "_law_one"] ["_law_thing"] (defScope sLawSh) := FS
theorem ok_lawSh {f : Addr} {fd : FuncData} (F : Fun K "_law_shaped" "_law_shaped" sLawSh f fd) (T : Bl mg) : FnOk P w K mg base CX0 1 f fd ["_law_thing"] (spShape K) := by
 refine F.ok scLawSh (fun vs H Q E h => ?_) (fun cdv A outer s H vs Q E hr h => ?_)
 ·obtain ⟨x, o, rfl, _⟩ := h; rfl
 ·obtain ⟨x, o, rfl, hx, q⟩ := h
  refine ⟨_, pss_cons (ps_if (pw_or (pt_not (pt_val (cb (isaK K "tuple") T.isi (pc (vn 0) (pc (tyv "tuple" T.tuple) pa_nil)))))
    (pw_or1 (pt_not (pt_chain op_le op_le pe_int (cb (lenK K) T.len (pc (vn 0) pa_nil)) pe_int)))).pt (pss_one (ps_ret pe_bl)) pss_nil)
   (pss_cons (ps_for PassesOwn.never rfl (itT K (vn 0)) (gn 1)
    (pss_cons (ps_if (pw_or (pt_not (pt_val (cb (isaK K "tuple") T.isi (pc (vn 1) (pc (tyv "tuple" T.tuple) pa_nil)))))
      (pw_or1 (pt_cmpR op_ne (cb (lenK K) T.len (pc (vn 1) pa_nil)) (cb (lenK K) T.len (pc (vn 0) pa_nil)) (nomark _)))).pt (pss_one (ps_ret pe_bl)) pss_nil)
    (pss_one (ps_for PassesOwn.never rfl (itT K (vn 1)) (gn 2)
     (pss_one (ps_if (pw_or (pt_not (pt_val (cb (isaK K "int") T.isi (pc (vn 2) (pc (tyv "int" T.int) pa_nil)))))
      (pw_or (pt_val (cb (isaK K "bool") T.isi (pc (vn 2) (pc (tyv "bool" T.bool) pa_nil)))) (pw_or1 (pt_not (pt_chain op_le op_lt pe_int (vn 2) (cb (lenK K) T.len (pc (vn 0) pa_nil))))))).pt (pss_one (ps_ret pe_bl)) pss_nil))))))
   (pss_one (ps_ret pe_bl))), ?_⟩
  obtain ⟨n, hk, ht⟩ := hx.kd
  refine ⟨_, rfl, x, n, rfl, hk, _, rfl, ?_⟩
  rw [ht]
  have bq : ∀ (b : Bool), shB o = b → Q (.bl b) H := fun b e => by rw [← e]; exact q H (Same.refl H)
  cases hx with
  | other h hn => exact iteP rfl (iteP rfl (bq false rfl))
  | @tup a xs os ha hl ho he =>
   refine iteN (by simp) ?_
   refine ⟨_, rfl, a, xs, rfl, .inr (.of ha), _, _, rfl, rfl, _, rfl, ?_⟩
   refine ite2 (fun h1 => ?_) (fun h1 => ?_)
   rotate_left
   ·refine ⟨_, rfl, iteP rfl (bq false ?_)⟩
    have h1 : ¬ 1 ≤ os.length := fun z => h1 (decide_eq_true (by omega))
    show (decide (1 ≤ os.length) && _) = false
    rw [decide_eq_false h1, Bool.false_and]
   have h1 : 1 ≤ xs.length := by have := of_decide_eq_true h1; omega
   refine ⟨_, _, rfl, rfl, _, rfl, ?_⟩
   refine ite2 (fun h2 => ?_) (fun h2 => ?_)
   ·refine bq false ?_
    have h2 : ¬ os.length ≤ 60 := fun z => by
     have : decide ((xs.length : Int) ≤ 60) = true := decide_eq_true (by omega)
     rw [this] at h2; cases h2
    show (decide (1 ≤ os.length) && (decide (os.length ≤ 60) && _)) = false
    rw [decide_eq_false h2, Bool.false_and, Bool.and_false]
   have h2 : xs.length ≤ 60 := by
    cases e : decide ((xs.length : Int) ≤ 60) with
    | true => have := of_decide_eq_true e; omega
    | false => rw [e] at h2; exact absurd rfl h2
   refine ⟨_, rfl, a, rfl, ⟨xs, .of ha⟩, ?_⟩
   refine for_seq (H0 := H) (seq_tup (K := K) (.of ha)) (fun i σ' H' => ∃ v1 v2 : Option V, σ' = [some (.ref a), v1, v2] ∧ H' = H ∧ ∀ j, j < i → rowB os.length (os.getD j none) = true)
    ⟨_, _, rfl, rfl, fun j hj => absurd hj (Nat.not_lt_zero _)⟩ (fun i σ' H' h => by obtain ⟨_, _, _, rfl, _⟩ := h; exact Same.refl _) ?_ ?_
   ·rintro i y σ' H' hy ⟨v1, v2, rfl, rfl, hal⟩
    have hi : i < os.length := by rw [ho]; exact (List.getElem?_eq_some_iff.mp hy).1
    have hti := he i y hy
    generalize hoy : os.getD i none = oy at *
    have no : rowB os.length oy = false → shB (some os) = false := fun e => shB_no hi (by rw [hoy]; exact e)
    obtain ⟨n', hk', ht'⟩ := hti.kd
    refine ⟨_, rfl, y, n', rfl, hk', _, rfl, ?_⟩
    rw [ht']
    cases hti with
    | other h hn => exact iteP rfl (bq false (no rfl))
    | @tup b zs hb hbl hbe =>
     refine iteN (by simp) ?_
     refine ⟨_, rfl, b, zs, rfl, .inr (.of hb), _, rfl, a, xs, rfl, .inr (.of ha), rfl, _, rfl, ?_⟩
     refine ite2 (fun h3 => ?_) (fun h3 => ?_)
     ·refine bq false (no ?_)
      have h3 : zs.length ≠ os.length := fun z => by
       rw [dec_int, z, ho] at h3
       simp at h3
      show (_ && decide (zs.length = os.length)) = false
      rw [decide_eq_false h3, Bool.and_false]
     have h3 : zs.length = os.length := by
      apply Classical.byContradiction
      intro z
      apply h3
      rw [dec_int]
      simp
      omega
     refine ⟨_, rfl, b, rfl, ⟨zs, .of hb⟩, ?_⟩
     refine for_seq (H0 := H') (seq_tup (K := K) (.of hb)) (fun j τ HH => ∃ w2 : Option V, τ = [some (.ref a), some (.ref b), w2] ∧ HH = H' ∧ ∀ z ∈ zs.take j, elB (os.length : Int) z = true)
      ⟨_, rfl, rfl, fun z hz => by cases hz⟩ (fun j τ HH h => by obtain ⟨_, _, rfl, _⟩ := h; exact Same.refl _) ?_ ?_
     ·rintro j z τ HH hz ⟨w2, rfl, rfl, hel⟩
      have hm : z ∈ zs := List.mem_of_getElem? hz
      obtain ⟨n2, hk2⟩ := hbe z hm
      have ew := kd_whole hk2
      unfold wholeB at ew
      have no2 : elB (os.length : Int) z = false → shB (some os) = false := fun e => no (rowB_no hm e)
      have elF : isI z = false → elB (os.length : Int) z = false := fun e => by cases z <;> first | rfl | cases e
      refine ⟨_, rfl, z, n2, rfl, hk2, _, rfl, ?_⟩
      refine ite2 (fun b1 => ?_) (fun b1 => ?_)
      ·have b1 : isaB n2 "int" = false := by simpa using b1
       rw [b1, Bool.false_and] at ew
       exact bq false (no2 (elF ew.symm))
      have b1 : isaB n2 "int" = true := by simpa using b1
      rw [b1, Bool.true_and] at ew
      refine ⟨_, rfl, z, n2, rfl, hk2, _, rfl, ?_⟩
      refine ite2 (fun b2 => ?_) (fun b2 => ?_)
      ·rw [b2] at ew
       exact bq false (no2 (elF ew.symm))
      have b2 : isaB n2 "bool" = false := by simpa using b2
      rw [b2] at ew
      obtain ⟨k, rfl⟩ : ∃ k, z = .int k := by cases z <;> first | exact ⟨_, rfl⟩ | cases ew
      have eE : elB (os.length : Int) (.int k) = (decide (0 ≤ k) && decide (k < (os.length : Int))) := rfl
      refine ⟨_, rfl, _, _, rfl, rfl, _, rfl, ?_⟩
      refine ite2 (fun b3 => ?_) (fun b3 => ?_)
      rotate_left
      ·refine ⟨_, rfl, iteP rfl (bq false (no2 ?_))⟩
       have b3 : decide (0 ≤ k) = false := by simpa using b3
       rw [eE, b3, Bool.false_and]
      refine ⟨_, rfl, a, xs, rfl, .inr (.of ha), _, _, rfl, rfl, _, rfl, ?_⟩
      refine ite2 (fun b4 => ?_) (fun b4 => ?_)
      ·refine bq false (no2 ?_)
       have b4 : decide (k < (xs.length : Int)) = false := by simpa using b4
       rw [eE, ho, b4, Bool.and_false]
      have b4 : decide (k < (xs.length : Int)) = true := by simpa using b4
      refine ⟨_, rfl, rfl, fun z' hz' => ?_⟩
      rw [List.take_add_one, hz] at hz'
      rcases List.mem_append.mp hz' with h | h
      ·exact hel z' h
      ·have : z' = .int k := by simpa using h
       rw [this, eE, ho, b4, Bool.and_true]
       exact b3
     ·rintro τ HH ⟨w2, rfl, rfl, hel⟩
      rw [List.take_length] at hel
      refine ⟨_, _, rfl, rfl, fun j hj => ?_⟩
      by_cases e : j = i
      ·rw [e, hoy]
       show (zs.all (elB (os.length : Int)) && decide (zs.length = os.length)) = true
       rw [List.all_eq_true.mpr hel, decide_eq_true h3]
       rfl
      ·exact hal j (by omega)
   ·rintro σ' H' ⟨v1, v2, rfl, rfl, hal⟩
    refine bq true ?_
    show (decide (1 ≤ os.length) && (decide (os.length ≤ 60) && os.all (rowB os.length))) = true
    rw [decide_eq_true (p := 1 ≤ os.length) (by omega), decide_eq_true (p := os.length ≤ 60) (by omega), Bool.true_and, Bool.true_and, List.all_eq_true]
    intro oy hoy
    obtain ⟨j, hj⟩ := List.getElem?_of_mem hoy
    have hjl := (List.getElem?_eq_some_iff.mp hj).1
    have := hal j (by omega)
    rw [List.getD_eq_getElem?_getD, hj] at this
    exact this
end
end C6
namespace L2
open PySem PySem.Spec PyProof.Rows
theorem eqDK {X : Cx} (K : PySem.W.Frag) (hu : X.A.units + 64 < cLine) (hK : X.K = K := by rfl) : OpR X (compareOp .Eq) (fun x y H Q => ∃ dx dy, RdD K H x dx ∧ RdD K H y dy ∧ SeqAt.shaped dx = true ∧ SeqAt.shaped dy = true ∧ Q (.bl (PyData.eqv dx dy)) H) := hK ▸ op_eqD hu
theorem neDK {X : Cx} (K : PySem.W.Frag) (hu : X.A.units + 64 < cLine) (hK : X.K = K := by rfl) : OpR X (compareOp .NotEq) (fun x y H Q => ∃ dx dy, RdD K H x dx ∧ RdD K H y dy ∧ SeqAt.shaped dx = true ∧ SeqAt.shaped dy = true ∧ Q (.bl (!PyData.eqv dx dy)) H) := hK ▸ op_neD hu
end L2
namespace C6
open PySem L2 PySem.Spec PyProof.Rows
open Tb
abbrev sHasB : Stmt := top 20
abbrev sThrees : Stmt := top 21
structure Bl2 (mg : Str → Option Value) : Prop where
 enumerate : mg "enumerate" = none
 max : mg "max" = none
structure Sh (t : List (List Nat)) : Prop where
 n1 : 1 ≤ t.length
 n60 : t.length ≤ 60
 len : ∀ row ∈ t, row.length = t.length
 lt : ∀ row ∈ t, ∀ x ∈ row, x < t.length
theorem Sh.row {t : List (List Nat)} (S : Sh t) {a : Nat} (ha : a < t.length) : t.getD a [] ∈ t := by
 rw [List.getD_eq_getElem?_getD, List.getElem?_eq_getElem ha]
 exact List.getElem_mem ha
theorem Sh.rlen {t : List (List Nat)} (S : Sh t) {a : Nat} (ha : a < t.length) : (t.getD a []).length = t.length := S.len _ (S.row ha)
theorem Sh.mlt {t : List (List Nat)} (S : Sh t) {a b : Nat} (ha : a < t.length) (hb : b < t.length) : mul t a b < t.length := by
 have hl := S.rlen ha
 have hx := S.lt _ (S.row ha)
 unfold mul
 generalize t.getD a [] = row at *
 have hb' : b < row.length := by omega
 refine hx _ ?_
 rw [List.getD_eq_getElem?_getD, List.getElem?_eq_getElem hb']
 exact List.getElem_mem hb'
theorem Sh.at {H : Hp} {g : Addr} {t : List (List Nat)} (S : Sh t) (G : GT H g t) {a : Nat} (ha : a < t.length) : ∃ (rs : List Addr) (r : Addr), H g = some (.tup (rs.map V.ref)) ∧ rs.length = t.length ∧ rs[a]? = some r ∧ atI (rs.map V.ref) (a : Int) = some (.ref r) ∧ H r = some (.tup ((t.getD a []).map nV)) ∧ ∀ b, b < t.length → atI ((t.getD a []).map nV) (b : Int) = some (.int (mul t a b : Nat)) := by
 obtain ⟨rs, h1, h2, h3⟩ := G
 have hr : rs[a]? = some (rs[a]'(by omega)) := List.getElem?_eq_getElem (by omega)
 refine ⟨rs, _, h1, h2, hr, atI_nat (by rw [List.getElem?_map, hr]; rfl), h3 a _ hr, fun b hb => atI_nat ?_⟩
 have hl := S.rlen ha
 unfold mul
 generalize t.getD a [] = row at *
 rw [List.getElem?_map, List.getElem?_eq_getElem (show b < row.length by omega), List.getD_eq_getElem?_getD, List.getElem?_eq_getElem (show b < row.length by omega)]
 rfl
theorem shapedTI (ns : List Int) : SeqAt.shaped (.tuple (ns.map PyData.int)) = true := by
 unfold SeqAt.shaped
 have h1 := canLay_tup ns
 have h2 := depth_tup ns
 simp only [h1, Bool.true_and, Bool.and_true, decide_eq_true_eq]
 omega
def hasB (t : List (List Nat)) (a : Nat) : Bool := (List.range t.length).any fun b => decide (mul t a b = 0) && decide (mul t b a = 0)
def thrB (t : List (List Nat)) (a : Nat) : Bool := (List.range t.length).all fun b => decide (t.getD (mul t a b) [] = (t.getD b []).map (mul t a))
def spTab (f : List (List Nat) → Nat → Bool) : Sp := fun vs H Q _ => ∃ (g : Addr) (t : List (List Nat)) (a : Nat), vs = [.ref g, .int a] ∧ GT H g t ∧ Sh t ∧ a < t.length ∧ ∀ H', Same H H' → Q (.bl (f t a)) H'
section
variable {P : Program} {w : World} {K : PySem.W.Frag} {mg : Str → Option Value} {base : Heap}
theorem scHasB : FnScope ["table", "a"] ["table", "a"] (defScope sHasB) := FS
theorem ok_hasB {f : Addr} {fd : FuncData} (F : Fun K "has_back" "has_back" sHasB f fd) (T : Bl mg) : FnOk P w K mg base CX0 1 f fd ["table", "a"] (spTab hasB) := by
 refine F.ok scHasB (fun vs H Q E h => ?_) (fun cdv A outer s H vs Q E hr h => ?_)
 ·obtain ⟨g, t, a, rfl, _⟩ := h; rfl
 ·obtain ⟨g, t, a, rfl, G, S, ha, q⟩ := h
  refine ⟨_, pss_one (ps_ret (cb (call_any rfl) T.any (pc (cmp ["b"] [0, 1] ["b", "table", "a"] rfl (rng1 T.range (pc (cb (lenK K) T.len (pc (vn 0) pa_nil)) pa_nil)) (fun _ _ _ _ _ => gn 0) (fun _ _ _ _ _ => pif_nil)
   (fun _ _ _ _ _ => pe_and (pe_cmpR op_eq (pe_ix (ixT K) (pe_ix (ixT K) (vn 1) (vn 2) (fun _ _ => rfl)) (vn 0) (fun _ _ => rfl)) pe_int (nomark _))
    (pe_one (pe_cmpR op_eq (pe_ix (ixT K) (pe_ix (ixT K) (vn 1) (vn 0) (fun _ _ => rfl)) (vn 2) (fun _ _ => rfl)) pe_int (nomark _))))) pa_nil))), ?_⟩
  have n60 := S.n60
  obtain ⟨gs, u1, u2, _⟩ := id G
  have el : (gs.map V.ref).length = t.length := by rw [List.length_map, u2]
  refine ⟨_, rfl, g, _, rfl, .inr (.of u1), _, rfl, by rw [el]; omega, by rw [el]; omega, ?_⟩
  rw [el, Int.toNat_natCast]
  refine comp_map (seq_rng 0 t.length) [some (.ref g), some (.int a)] rfl (fun y => match y with | .int z => .bl (decide (mul t a z.toNat = 0) && decide (mul t z.toNat a = 0)) | y => y) (by rw [List.length_map, rngI_len]; omega) (fun i x H' hx sm R gg => ?_) (fun D H' hD sm hD' => ?_)
  ·have hi : i < t.length := by
    have := (List.getElem?_eq_some_iff.mp hx).1
    rw [List.length_map, rngI_len] at this
    exact this
   rw [List.getElem?_map, rngI_get hi] at hx
   have hx : x = .int (i : Int) := by
    have := Option.some.inj hx
    rw [← this, Int.zero_add]
   subst hx
   obtain ⟨r1, r2, q1, _, _, q2, q3, q4⟩ := S.at (G.mono sm) ha
   obtain ⟨p1, p2, k1, _, _, k2, k3, k4⟩ := S.at (G.mono sm) hi
   have fin := gg H' (Same.refl _)
   dsimp only at fin
   rw [Int.toNat_natCast] at fin
   refine ⟨_, rfl, _, rfl, g, _, _, _, rfl, rfl, .of q1, q2, _, rfl, r2, _, _, _, rfl, rfl, .of q3, q4 i hi, rfl, _, rfl, ?_⟩
   have d1 : decide (V.int ((mul t a i : Nat) : Int) = V.int 0) = decide (mul t a i = 0) := by
    rw [dec_int]
    by_cases e : mul t a i = 0
    ·rw [decide_eq_true e, e]; rfl
    ·rw [decide_eq_false e]; exact beq_eq_false_iff_ne.mpr (by omega)
   have d2 : decide (V.int ((mul t i a : Nat) : Int) = V.int 0) = decide (mul t i a = 0) := by
    rw [dec_int]
    by_cases e : mul t i a = 0
    ·rw [decide_eq_true e, e]; rfl
    ·rw [decide_eq_false e]; exact beq_eq_false_iff_ne.mpr (by omega)
   rw [d1]
   refine ite2 (fun h1 => ?_) (fun h1 => ?_)
   ·refine ⟨_, rfl, _, rfl, g, _, _, _, rfl, rfl, .of k1, k2, _, rfl, p2, _, _, _, rfl, rfl, .of k3, k4 a ha, rfl, ?_⟩
    rw [h1, Bool.true_and] at fin
    rw [d2]
    exact fin
   ·have h1 : decide (mul t a i = 0) = false := by simpa using h1
    rw [h1, Bool.false_and] at fin
    exact fin
  ·refine ⟨D, (List.range t.length).map fun b => decide (mul t a b = 0) && decide (mul t b a = 0), rfl, .of ?_, ?_⟩
   ·rw [hD']
    unfold rngI
    rw [List.map_map, List.map_map, List.map_map]
    congr 2
    refine List.map_congr_left fun i _ => ?_
    show V.bl (decide (mul t a ((0 : Int) + (i : Int)).toNat = 0) && decide (mul t ((0 : Int) + (i : Int)).toNat a = 0)) = V.bl _
    rw [Int.zero_add, Int.toNat_natCast]
   ·have e : ((List.range t.length).map fun b => decide (mul t a b = 0) && decide (mul t b a = 0)).any id = hasB t a := by
     unfold hasB
     rw [List.any_map]
     rfl
    rw [e]
    exact q H' sm
theorem scThr : FnScope ["table", "a", "row", "b", "row_of_b"] ["table", "a"] (defScope sThrees) := FS
theorem ok_thr {f : Addr} {fd : FuncData} (F : Fun K "goes_by_threes" "goes_by_threes" sThrees f fd) (T : Bl mg) (T2 : Bl2 mg) : FnOk P w K mg base CX0 1 f fd ["table", "a"] (spTab thrB) := by
 refine F.ok scThr (fun vs H Q E h => ?_) (fun cdv A outer s H vs Q E hr h => ?_)
 ·obtain ⟨g, t, a, rfl, _⟩ := h; rfl
 ·obtain ⟨g, t, a, rfl, G, S, ha, q⟩ := h
  refine ⟨_, pss_cons (sset 2 rfl (pe_ix (ixT K) (vn 0) (vn 1) (fun _ _ => rfl)))
   (pss_cons (ps_for PassesOwn.never rfl (enumK K T2.enumerate (pc (vn 0) pa_nil)) (g2 K 3 4 rfl (gn 3) (gn 4))
    (pss_one (ps_if (pt_cmpR (neDK K hr.units) (pe_ix (ixT K) (vn 0) (pe_ix (ixT K) (vn 2) (vn 3) (fun _ _ => rfl)) (fun _ _ => rfl))
     (ct call_tuple_of T.tuple (pc (cmp ["x"] [2] ["x", "row"] rfl (itT K (vn 4)) (fun _ _ _ _ _ => gn 0) (fun _ _ _ _ _ => pif_nil) (fun _ _ _ _ _ => pe_ix (ixT K) (vn 1) (vn 0) (fun _ _ => rfl))) pa_nil)) (nomark _)) (pss_one (ps_ret pe_bl)) pss_nil)))
   (pss_one (ps_ret pe_bl))), ?_⟩
  have n60 := S.n60
  obtain ⟨rs, r, q1, rl, q1b, q2, q3, q4⟩ := S.at G ha
  have ral := S.rlen ha
  refine ⟨_, rfl, _, rfl, g, _, _, _, rfl, rfl, .of q1, q2, ?_⟩
  refine ⟨_, rfl, g, rfl, .inr ⟨⟨_, .of q1⟩, ?_⟩⟩
  refine for_enum (en_tup (K := K) (xs := rs.map V.ref)) (fun i σ' H' => ∃ v3 v4 : Option V, σ' = [some (.ref g), some (.int a), some (.ref r), v3, v4] ∧ Same H H' ∧ ∀ j, j < i → t.getD (mul t a j) [] = (t.getD j []).map (mul t a))
   ⟨_, _, rfl, Same.refl _, fun j hj => absurd hj (Nat.not_lt_zero _)⟩ (fun i σ' H' h => h.choose_spec.choose_spec.2.1.tup (.of q1)) ?_ ?_
  ·rintro i y σ' H' T' hy ⟨v3, v4, rfl, sm, hal⟩ nT
   have hi : i < t.length := by
    have := (List.getElem?_eq_some_iff.mp hy).1
    rw [List.length_map, rl] at this
    exact this
   obtain ⟨rs', rb, k1, kl, k1b, k2, k3, k4⟩ := S.at G hi
   have ers : rs' = rs := by
    rw [q1] at k1
    have hh := Option.some.inj k1
    injection hh with hh
    exact ((List.map_inj_right (fun x y e => by injection e)).mp hh).symm
   subst ers
   have hy : y = .ref rb := by
    rw [List.getElem?_map, k1b] at hy
    exact (Option.some.inj hy).symm
   subst hy
   have hm := S.mlt ha hi
   obtain ⟨rs2, rc, m1, ml, m1b, m2, m3, _⟩ := S.at G hm
   have ers : rs2 = rs' := by
    rw [q1] at m1
    have hh := Option.some.inj m1
    injection hh with hh
    exact ((List.map_inj_right (fun x y e => by injection e)).mp hh).symm
   subst ers
   have sT := sm.trans (Same.upd (o := .tup [.int i, .ref rb]) nT)
   refine ⟨T', _, rfl, .of upd_same, rfl, _, _, rfl, _, _, rfl, rfl, ?_⟩
   generalize upd H' T' (.tup [.int i, .ref rb]) = H2 at sT ⊢
   have rbl := S.rlen hi
   refine ⟨_, rfl, _, rfl, _, rfl, r, _, _, _, rfl, rfl, .of (sT _ _ q3), q4 i hi, g, _, _, _, rfl, rfl, .of (sT _ _ q1), m2, _, rfl, rb, rfl, ⟨_, .of (sT _ _ k3)⟩, ?_⟩
   refine comp_map (seq_tup (.of (sT _ _ k3))) [some (.ref r)] rfl (fAft (t.getD a [])) (by rw [List.length_map, rbl]; omega) (fun j x HC hx sC R'' g2 => ?_) (fun D HD nD sD hD => ?_)
   ·obtain ⟨c, hc, rfl⟩ := nV_get hx
    have hck : c < t.length := S.lt _ (S.row hi) c (List.mem_of_getElem? hc)
    refine ⟨_, rfl, _, rfl, r, _, _, _, rfl, rfl, .of ((sT.trans sC) _ _ q3), nv_at (by omega), ?_⟩
    have := g2 HC (Same.refl _)
    have e : fAft (t.getD a []) (.int (c : Nat)) = nV ((t.getD a []).getD c 0) := by
     show nV ((t.getD a []).getD (c : Int).toNat 0) = _
     rw [Int.toNat_natCast]
    rw [e] at this
    exact this
   ·rw [fAft_map] at hD
    refine ⟨D, _, rfl, .inl ⟨.of hD, fun tp ntp => ?_⟩⟩
    have sE := (sT.trans sD).trans (Same.upd (o := .tup ((aft (t.getD a []) (t.getD i [])).map nV)) ntp)
    have hE : upd HD tp (.tup ((aft (t.getD a []) (t.getD i [])).map nV)) tp = some (.tup ((aft (t.getD a []) (t.getD i [])).map nV)) := upd_same
    generalize upd HD tp (.tup ((aft (t.getD a []) (t.getD i [])).map nV)) = HE at sE hE ⊢
    refine ⟨.tuple ((nI (t.getD (mul t a i) [])).map PyData.int), .tuple ((nI (aft (t.getD a []) (t.getD i []))).map PyData.int), .tup (.of (by rw [nI_V]; exact sE _ _ m3)) (RdDs.ints _), .tup (.of (by rw [nI_V]; exact hE)) (RdDs.ints _), shapedTI _, shapedTI _, _, rfl, ?_⟩
    rw [eqvTN]
    have ea : aft (t.getD a []) (t.getD i []) = (t.getD i []).map (mul t a) := rfl
    rw [ea]
    refine ite2 (fun h1 => ?_) (fun h1 => ?_)
    ·have h1 : ¬ t.getD (mul t a i) [] = (t.getD i []).map (mul t a) := by simpa using h1
     have : thrB t a = false := by
      unfold thrB
      cases e : (List.range t.length).all fun b => decide (t.getD (mul t a b) [] = (t.getD b []).map (mul t a)) with
      | false => rfl
      | true => exact absurd (of_decide_eq_true (List.all_eq_true.mp e i (List.mem_range.mpr hi))) h1
     have := this ▸ q HE sE
     exact this
    ·have h1 : t.getD (mul t a i) [] = (t.getD i []).map (mul t a) := by simpa using h1
     refine ⟨_, _, rfl, sE, fun j hj => ?_⟩
     by_cases e : j = i
     ·rw [e]; exact h1
     ·exact hal j (by omega)
  ·rintro σ' H' ⟨v3, v4, rfl, sm, hal⟩
   rw [List.length_map, rl] at hal
   have : thrB t a = true := by
    unfold thrB
    rw [List.all_eq_true]
    intro b hb
    exact decide_eq_true (hal b (List.mem_range.mp hb))
   have := this ▸ q H' sm
   exact this
end
abbrev sDue : Stmt := top 34
def natV : V → Nat
 | .int k => k.toNat
 | _ => 0
def tabO (os : List (Option (List V))) : List (List Nat) := os.map fun o => match o with | none => [] | some zs => zs.map natV
theorem el_nat {n : Nat} {z : V} (h : elB (n : Int) z = true) : z = nV (natV z) ∧ natV z < n := by
 cases z with
 | int k =>
  have h : (decide (0 ≤ k) && decide (k < (n : Int))) = true := h
  rw [Bool.and_eq_true, decide_eq_true_eq, decide_eq_true_eq] at h
  obtain ⟨m, rfl⟩ := Int.eq_ofNat_of_zero_le h.1
  exact ⟨rfl, by show (m : Int).toNat < n; rw [Int.toNat_natCast]; omega⟩
 | _ => cases h
theorem row_of {n : Nat} {o : Option (List V)} (h : rowB n o = true) : ∃ zs, o = some zs ∧ zs.length = n ∧ zs = (zs.map natV).map nV ∧ ∀ x ∈ zs.map natV, x < n := by
 cases o with
 | none => cases h
 | some zs =>
  have h : (zs.all (elB (n : Int)) && decide (zs.length = n)) = true := h
  rw [Bool.and_eq_true, decide_eq_true_eq, List.all_eq_true] at h
  refine ⟨zs, rfl, h.2, ?_, fun x hx => ?_⟩
  ·rw [List.map_map]
   conv => lhs; rw [← List.map_id zs]
   refine List.map_congr_left fun z hz => ?_
   exact (el_nat (h.1 z hz)).1
  ·obtain ⟨z, hz, rfl⟩ := List.mem_map.mp hx
   exact (el_nat (h.1 z hz)).2
theorem T2.tab {K : PySem.W.Frag} {H : Hp} {x : V} {os : List (Option (List V))} (h : T2 K H x (some os)) (hs : shB (some os) = true) : ∃ a, x = .ref a ∧ GT H a (tabO os) ∧ Sh (tabO os) := by
 have hs : (decide (1 ≤ os.length) && (decide (os.length ≤ 60) && os.all (rowB os.length))) = true := hs
 rw [Bool.and_eq_true, Bool.and_eq_true, decide_eq_true_eq, decide_eq_true_eq, List.all_eq_true] at hs
 obtain ⟨n1, n60, hall⟩ := hs
 have tl : (tabO os).length = os.length := by unfold tabO; rw [List.length_map]
 cases h with
 | @tup a xs _ ha hl ho he =>
  have key : ∀ i, i < os.length → ∃ y b zs, xs[i]? = some y ∧ y = .ref b ∧ os[i]? = some (some zs) ∧ H b = some (.tup zs) ∧ zs.length = os.length ∧ zs = (zs.map natV).map nV ∧ ∀ x ∈ zs.map natV, x < os.length := fun i hi => by
   have ex : xs[i]? = some (xs[i]'(by omega)) := List.getElem?_eq_getElem (by omega)
   have eo : os[i]? = some os[i] := List.getElem?_eq_getElem hi
   have hr := hall _ (List.getElem_mem hi)
   have ht := he i _ ex
   rw [List.getD_eq_getElem?_getD, eo] at ht
   have ht : Ti K H xs[i] os[i] := ht
   obtain ⟨zs, e1, e2, e3, e4⟩ := row_of hr
   rw [e1] at ht eo
   generalize hy : xs[i] = y at *
   cases ht with
   | @tup b _ hb _ _ => exact ⟨_, b, zs, ex, rfl, eo, hb, e2, e3, e4⟩
  refine ⟨a, rfl, ⟨xs.map fun y => match y with | .ref b => b | _ => 0, ?_, ?_, ?_⟩, ⟨by omega, by omega, fun row hr => ?_, fun row hr => ?_⟩⟩
  ·rw [ha, List.map_map]
   congr 2
   refine List.ext_getElem? fun i => ?_
   rw [List.getElem?_map]
   by_cases hi : i < os.length
   ·obtain ⟨y, b, zs, k1, rfl, _⟩ := key i hi
    rw [k1]
    rfl
   ·rw [List.getElem?_eq_none (by omega)]
    rfl
  ·rw [List.length_map, tl, ho]
  ·intro i r hr
   have hi : i < os.length := by
    have := (List.getElem?_eq_some_iff.mp hr).1
    rw [List.length_map] at this
    omega
   obtain ⟨y, b, zs, k1, rfl, k2, k3, k4, k5, k6⟩ := key i hi
   rw [List.getElem?_map, k1] at hr
   have hr : b = r := Option.some.inj hr
   subst hr
   have e : (tabO os).getD i [] = zs.map natV := by
    unfold tabO
    rw [List.getD_eq_getElem?_getD, List.getElem?_map, k2]
    rfl
   rw [e, ← k5]
   exact k3
  ·obtain ⟨o, ho', rfl⟩ := List.mem_map.mp hr
   obtain ⟨zs, rfl, e2, _, _⟩ := row_of (hall o ho')
   show (zs.map natV).length = _
   rw [List.length_map, tl, e2]
  ·obtain ⟨o, ho', rfl⟩ := List.mem_map.mp hr
   obtain ⟨zs, rfl, _, _, e4⟩ := row_of (hall o ho')
   rw [tl]
   exact e4
def oneB (t : List (List Nat)) (a : Nat) : Bool := decide (mul t 0 a = a) && decide (mul t a 0 = a)
def firstNo (n : Nat) (p : Nat → Bool) : Option Nat := (List.range n).find? fun a => !p a
def dueT (t : List (List Nat)) : Option (Str × Nat) := match firstNo t.length (oneB t) with
 | some a => some ("one", a)
 | none => match firstNo t.length (hasB t) with
  | some a => some ("back", a)
  | none => match firstNo t.length (thrB t) with
   | some a => some ("three", a)
   | none => none
def dueO (o : Option (List (Option (List V)))) : Option (Str × Nat) := if shB o = true then dueT (tabO (o.getD [])) else some ("shape", 0)
def dueD : Option (Str × Nat) → PyData
 | none => .bool true
 | some (w, a) => .tuple [.str w, .int a]
theorem firstNo_some {n a : Nat} {p : Nat → Bool} (ha : a < n) (h : p a = false) (hb : ∀ j, j < a → p j = true) : firstNo n p = some a := by
 unfold firstNo
 rw [List.find?_range_eq_some]
 exact ⟨by rw [h]; rfl, List.mem_range.mpr ha, fun j hj => by rw [hb j hj]; rfl⟩
theorem firstNo_none {n : Nat} {p : Nat → Bool} (h : ∀ j, j < n → p j = true) : firstNo n p = none := by
 unfold firstNo
 rw [List.find?_eq_none]
 intro x hx
 rw [h x (List.mem_range.mp hx)]
 decide
theorem dueT_one {t : List (List Nat)} {a : Nat} (ha : a < t.length) (h : oneB t a = false) (hb : ∀ j, j < a → oneB t j = true) : dueT t = some (("one" : Str), a) := by
 unfold dueT
 rw [firstNo_some ha h hb]
theorem dueT_back {t : List (List Nat)} {a : Nat} (h1 : ∀ j, j < t.length → oneB t j = true) (ha : a < t.length) (h : hasB t a = false) (hb : ∀ j, j < a → hasB t j = true) : dueT t = some (("back" : Str), a) := by
 unfold dueT
 rw [firstNo_none h1, firstNo_some ha h hb]
theorem dueT_three {t : List (List Nat)} {a : Nat} (h1 : ∀ j, j < t.length → oneB t j = true) (h2 : ∀ j, j < t.length → hasB t j = true) (ha : a < t.length) (h : thrB t a = false) (hb : ∀ j, j < a → thrB t j = true) : dueT t = some (("three" : Str), a) := by
 unfold dueT
 rw [firstNo_none h1, firstNo_none h2, firstNo_some ha h hb]
theorem dueT_no {t : List (List Nat)} (h1 : ∀ j, j < t.length → oneB t j = true) (h2 : ∀ j, j < t.length → hasB t j = true) (h3 : ∀ j, j < t.length → thrB t j = true) : dueT t = none := by
 unfold dueT
 rw [firstNo_none h1, firstNo_none h2, firstNo_none h3]
theorem thr_iff {t : List (List Nat)} (S : Sh t) {a : Nat} (ha : a < t.length) : thrB t a = true ↔ ∀ b c, b < t.length → c < t.length → mul t (mul t a b) c = mul t a (mul t b c) := by
 unfold thrB
 rw [List.all_eq_true]
 constructor
 ·intro h b c hb hc
  have := of_decide_eq_true (h b (List.mem_range.mpr hb))
  have e : mul t (mul t a b) c = (t.getD (mul t a b) []).getD c 0 := rfl
  have hl := S.rlen hb
  rw [e, this, List.getD_eq_getElem?_getD, List.getElem?_map, List.getElem?_eq_getElem (by omega)]
  show mul t a _ = mul t a ((t.getD b []).getD c 0)
  rw [List.getD_eq_getElem?_getD (l := t.getD b []), List.getElem?_eq_getElem (by omega)]
  rfl
 ·intro h b hb
  have hb := List.mem_range.mp hb
  have hl := S.rlen hb
  have hl2 := S.rlen (S.mlt ha hb)
  refine decide_eq_true (List.ext_getElem? fun c => ?_)
  by_cases hc : c < t.length
  ·have := h b c hb hc
   have e1 : (t.getD (mul t a b) [])[c]? = some (mul t (mul t a b) c) := getD_lt (by omega)
   have e2 : (t.getD b [])[c]? = some (mul t b c) := getD_lt (by omega)
   rw [e1, List.getElem?_map, e2, this]
   rfl
  ·rw [List.getElem?_eq_none (by omega), List.getElem?_eq_none (by rw [List.length_map]; omega)]
def spDue (K : PySem.W.Frag) : Sp := fun vs H Q _ => ∃ x o, vs = [x] ∧ T2 K H x o ∧ ∀ v H', Same H H' → RdD K H' v (dueD (dueO o)) → Q v H'
theorem rd_word {K : PySem.W.Frag} {H : Hp} {b : Addr} {w : Str} {a : Nat} (h : H b = some (.tup [.str w, .int a])) : RdD K H (.ref b) (dueD (some (w, a))) := .tup (.of h) (.cons (.str _) (.cons (.int _) .nil))
theorem filt_mapN (p : V → Bool) (p' : Nat → Bool) (h : ∀ i, p (nV i) = p' i) : ∀ xs : List Nat, ((xs.map nV).filter p).map (fun y => y) = (xs.filter p').map nV
 | [] => rfl
 | x :: r => by
  have ih := filt_mapN p p' h r
  rw [List.map_cons, List.filter_cons, List.filter_cons, h x]
  cases p' x with
  | true => rw [if_pos rfl, if_pos rfl, List.map_cons, List.map_cons, ih]
  | false => rw [if_neg Bool.false_ne_true, if_neg Bool.false_ne_true, ih]
def fN (p : Nat → Bool) : V → Bool
 | .int i => p i.toNat
 | _ => false
theorem fN_nV (p : Nat → Bool) (i : Nat) : fN p (nV i) = p i := by
 show p (i : Int).toNat = p i
 rw [Int.toNat_natCast]
theorem shapedI (ns : List Int) : SeqAt.shaped (.list (ns.map PyData.int)) = true := shapedL fun d hd => by
 obtain ⟨z, _, rfl⟩ := List.mem_map.mp hd
 exact ⟨rfl, Nat.zero_le _⟩
theorem decN {i j : Nat} : decide (V.int (i : Int) = V.int (j : Int)) = decide (i = j) := by
 rw [dec_int]
 by_cases e : i = j
 ·rw [decide_eq_true e, e]; simp
 ·rw [decide_eq_false e]; exact beq_eq_false_iff_ne.mpr (by omega)
section
variable {P : Program} {w : World} {K : PySem.W.Frag} {mg : Str → Option Value} {base : Heap}
theorem scDue : FnScope ["_law_thing", "_law_things", "_law_a", "_law_b", "_law_both"] ["_law_thing"] (defScope sDue) := FS
theorem ok_due {f : Addr} {fd : FuncData} (F : Fun K "_law_due" "_law_due" sDue f fd) (T : Bl mg) (GS : Fn P w K mg base CX0 1 "_law_shaped" ["_law_thing"] (spShape K)) : FnOk P w K mg base CX0 2 f fd ["_law_thing"] (spDue K) := by
 refine F.ok scDue (fun vs H Q E h => ?_) (fun cdv A outer s H vs Q E hr h => ?_)
 ·obtain ⟨x, o, rfl, _⟩ := h; rfl
 ·obtain ⟨x, o, rfl, hx, q⟩ := h
  refine ⟨_, pss_cons (ps_if (pt_not (pt_val (fnc GS hr pass0 (pc (vn 0) pa_nil)))) (pss_one (ps_ret (pe_tup (pc pe_str (pc pe_int pa_nil))))) pss_nil)
   (pss_cons (sset 1 rfl (ct (call_list_rng rfl) T.list (pc (ct call_range1 T.range (pc (cb (lenK K) T.len (pc (vn 0) pa_nil)) pa_nil)) pa_nil)))
   (pss_cons (ps_for PassesOwn.never rfl (itL K (vn 1)) (gnf 2 rfl)
    (pss_one (ps_if (pw_or (pt_cmpR op_ne (pe_ix (ixT K) (pe_ix (ixT K) (vn 0) pe_int (fun _ _ => rfl)) (vn 2) (fun _ _ => rfl)) (vn 2) (nomark _))
     (pw_or1 (pt_cmpR op_ne (pe_ix (ixT K) (pe_ix (ixT K) (vn 0) (vn 2) (fun _ _ => rfl)) pe_int (fun _ _ => rfl)) (vn 2) (nomark _)))).pt (pss_one (ps_ret (pe_tup (pc pe_str (pc (vn 2) pa_nil))))) pss_nil)))
   (pss_cons (ps_for PassesOwn.never rfl (itL K (vn 1)) (gnf 2 rfl)
    (pss_one (ps_if (pt_cmpR (eqDK K hr.units) (cmp ["_law_b"] [0, 2] ["_law_b", "_law_thing", "_law_a"] rfl (itL K (vn 1)) (fun _ _ _ _ _ => gn 0)
     (fun _ _ _ _ _ => pif_one (pw_and (pt_cmpR op_eq (pe_ix (ixT K) (pe_ix (ixT K) (vn 1) (vn 2) (fun _ _ => rfl)) (vn 0) (fun _ _ => rfl)) pe_int (nomark _))
      (pw_and1 (pt_cmpR op_eq (pe_ix (ixT K) (pe_ix (ixT K) (vn 1) (vn 0) (fun _ _ => rfl)) (vn 2) (fun _ _ => rfl)) pe_int (nomark _)))).pt) (fun _ _ _ _ _ => vn 0)) (pe_lst pa_nil) (nomark _)) (pss_one (ps_ret (pe_tup (pc pe_str (pc (vn 2) pa_nil))))) pss_nil)))
   (pss_cons (ps_for PassesOwn.never rfl (itL K (vn 1)) (gnf 2 rfl)
    (pss_one (ps_for PassesOwn.never rfl (itL K (vn 1)) (gnf 3 rfl)
     (pss_cons (sset 4 rfl (pe_ix (ixT K) (vn 0) (pe_ix (ixT K) (pe_ix (ixT K) (vn 0) (vn 2) (fun _ _ => rfl)) (vn 3) (fun _ _ => rfl)) (fun _ _ => rfl)))
     (pss_one (ps_if (pt_cmpR (neDK K hr.units) (cmp ["_law_c"] [0, 2, 3, 4] ["_law_c", "_law_thing", "_law_a", "_law_b", "_law_both"] rfl (itL K (vn 1)) (fun _ _ _ _ _ => gn 0)
      (fun _ _ _ _ _ => pif_one (pt_cmpR op_ne (pe_ix (ixT K) (vn 4) (vn 0) (fun _ _ => rfl)) (pe_ix (ixT K) (pe_ix (ixT K) (vn 1) (vn 2) (fun _ _ => rfl)) (pe_ix (ixT K) (pe_ix (ixT K) (vn 1) (vn 3) (fun _ _ => rfl)) (vn 0) (fun _ _ => rfl)) (fun _ _ => rfl)) (nomark _))) (fun _ _ _ _ _ => vn 0)) (pe_lst pa_nil) (nomark _)) (pss_one (ps_ret (pe_tup (pc pe_str (pc (vn 2) pa_nil))))) pss_nil))))))
   (pss_one (ps_ret pe_bl)))))), ?_⟩
  have sz : (16777216 : Nat) = sizeLine := by decide
  refine ⟨_, rfl, x, o, rfl, hx, fun H1 s1 => ⟨_, rfl, ?_⟩⟩
  refine ite2 (fun h1 => ?_) (fun h1 => ?_)
  ·have h1 : shB o = false := by simpa using h1
   refine ⟨(by show 2 ≤ sizeLine; decide), fun b nb => ?_⟩
   refine q _ _ (s1.trans (Same.upd nb)) ?_
   unfold dueO
   rw [if_neg (by rw [h1]; decide)]
   exact rd_word (a := 0) upd_same
  have h1 : shB o = true := by simpa using h1
  cases o with
  | none => cases h1
  | some os =>
   obtain ⟨g, rfl, G0, S⟩ := hx.tab h1
   have eD : dueO (some os) = dueT (tabO os) := by unfold dueO; rw [if_pos h1]; rfl
   rw [eD] at q
   generalize tabO os = t at *
   have G := G0.mono s1
   have n1 := S.n1
   have n60 := S.n60
   obtain ⟨gs, u1, u2, _⟩ := id G
   have el : (gs.map V.ref).length = t.length := by rw [List.length_map, u2]
   refine ⟨_, rfl, g, _, rfl, .inr (.of u1), _, rfl, fun r0 hr0 => ⟨r0, 0, _, rfl, upd_same, ⟨by omega, by omega, by rw [el]; omega, by rw [el]; omega⟩, by rw [el]; omega, fun l hl => ?_⟩⟩
   rw [el] at hl ⊢
   have ek : ((t.length : Int) - 0).toNat = t.length := by omega
   rw [ek] at *
   have s2 : Same H1 (upd (upd H1 r0 (.rng 0 (t.length : Int))) l (.lst ((rngI 0 t.length).map V.int))) := (Same.upd hr0).trans (Same.upd hl)
   have eL : (rngI 0 t.length).map V.int = (List.range t.length).map nV := by
    unfold rngI
    rw [List.map_map]
    refine List.map_congr_left fun i _ => ?_
    show V.int (0 + (i : Int)) = nV i
    rw [Int.zero_add]
    rfl
   have hL : upd (upd H1 r0 (.rng 0 (t.length : Int))) l (.lst ((rngI 0 t.length).map V.int)) l = some (.lst ((List.range t.length).map nV)) := by rw [upd_same, eL]
   generalize upd (upd H1 r0 (.rng 0 (t.length : Int))) l (.lst ((rngI 0 t.length).map V.int)) = H2 at s2 hL ⊢
   have G2 := G.mono s2
   have ll : ((List.range t.length).map nV).length = t.length := by rw [List.length_map, List.length_range]
   have gi : ∀ {i : Nat} {y : V}, ((List.range t.length).map nV)[i]? = some y → i < t.length ∧ y = .int (i : Nat) := fun {i y} h => by
    obtain ⟨k, hk, rfl⟩ := nV_get h
    have hi : i < t.length := by
     have := (List.getElem?_eq_some_iff.mp hk).1
     rw [List.length_range] at this
     exact this
    rw [List.getElem?_range hi] at hk
    have := Option.some.inj hk
    subst this
    exact ⟨hi, rfl⟩
   refine ⟨_, rfl, l, rfl, ⟨_, .of hL⟩, ?_⟩
   refine for_seq (H0 := H2) (seq_lst (K := K) (.of hL)) (fun i σ' H' => ∃ v2 : Option V, σ' = [some (.ref g), some (.ref l), v2, none, none] ∧ Same H2 H' ∧ ∀ j, j < i → oneB t j = true)
    ⟨_, rfl, Same.refl _, fun j hj => absurd hj (Nat.not_lt_zero _)⟩ (fun i σ' H' h => h.choose_spec.2.1) ?_ ?_
   ·rintro i y σ' H' hy ⟨v2, rfl, sm, hal⟩
    obtain ⟨hi, rfl⟩ := gi hy
    obtain ⟨r1, r2, q1, _, _, q2, q3, q4⟩ := S.at (G2.mono sm) n1
    obtain ⟨p1, p2, k1, _, _, k2, k3, k4⟩ := S.at (G2.mono sm) hi
    have no : oneB t i = false → ∀ b nb, Q (.ref b) (upd H' b (.tup [.str "one", .int (i : Nat)])) := fun e b nb => by
     refine q _ _ ((s1.trans s2).trans (sm.trans (Same.upd nb))) ?_
     rw [dueT_one hi e hal]
     exact rd_word upd_same
    refine ⟨_, rfl, g, _, _, _, rfl, rfl, .of q1, q2, _, rfl, r2, _, _, _, rfl, rfl, .of q3, q4 i hi, _, rfl, rfl, _, rfl, ?_⟩
    rw [decN]
    refine ite2 (fun h2 => ?_) (fun h2 => ?_)
    ·have h2 : ¬ mul t 0 i = i := by simpa using h2
     refine ⟨_, rfl, (by show 2 ≤ sizeLine; decide), fun b nb => no ?_ b nb⟩
     unfold oneB
     rw [decide_eq_false h2, Bool.false_and]
    have h2 : mul t 0 i = i := by simpa using h2
    refine ⟨_, rfl, _, rfl, g, _, _, _, rfl, rfl, .of k1, k2, p2, _, _, _, rfl, rfl, .of k3, k4 0 n1, _, rfl, rfl, _, rfl, ?_⟩
    rw [decN]
    refine ite2 (fun h3 => ?_) (fun h3 => ?_)
    ·have h3 : ¬ mul t i 0 = i := by simpa using h3
     refine ⟨_, rfl, (by show 2 ≤ sizeLine; decide), fun b nb => no ?_ b nb⟩
     unfold oneB
     rw [decide_eq_false h3, Bool.and_false]
    have h3 : mul t i 0 = i := by simpa using h3
    refine ⟨_, rfl, sm, fun j hj => ?_⟩
    by_cases e : j = i
    ·rw [e]
     unfold oneB
     rw [decide_eq_true h2, decide_eq_true h3]
     rfl
    ·exact hal j (by omega)
   rintro σ' H3 ⟨v2, rfl, s3, hone⟩
   rw [ll] at hone
   have hL3 := s3 _ _ hL
   have G3 := G2.mono s3
   have sA := (s1.trans s2).trans s3
   refine ⟨_, rfl, l, rfl, ⟨_, .of hL3⟩, ?_⟩
   refine for_seq (H0 := H3) (seq_lst (K := K) (.of hL3)) (fun i σ' H' => ∃ v2 : Option V, σ' = [some (.ref g), some (.ref l), v2, none, none] ∧ Same H3 H' ∧ ∀ j, j < i → hasB t j = true)
    ⟨_, rfl, Same.refl _, fun j hj => absurd hj (Nat.not_lt_zero _)⟩ (fun i σ' H' h => h.choose_spec.2.1) ?_ ?_
   ·rintro i y σ' H' hy ⟨v2, rfl, sm, hal⟩
    obtain ⟨hi, rfl⟩ := gi hy
    have hL' := sm _ _ hL3
    refine ⟨_, rfl, l, rfl, ⟨_, .of hL'⟩, ?_⟩
    refine comp_filt (seq_lst (K := K) (.of hL')) [some (.ref g), some (.int (i : Nat))] rfl (fN fun b => decide (mul t i b = 0) && decide (mul t b i = 0)) (fun y => y) (by rw [ll]; omega) ?_ ?_
    ·intro j z HC hz sC R R' g1 g2
     obtain ⟨hj, rfl⟩ := gi hz
     obtain ⟨r1, r2, q1, _, _, q2, q3, q4⟩ := S.at (G3.mono (sm.trans sC)) hi
     obtain ⟨p1, p2, k1, _, _, k2, k3, k4⟩ := S.at (G3.mono (sm.trans sC)) hj
     have ef : fN (fun b => decide (mul t i b = 0) && decide (mul t b i = 0)) (.int (j : Nat)) = (decide (mul t i j = 0) && decide (mul t j i = 0)) := fN_nV _ j
     rw [ef] at g1 g2
     refine ⟨_, rfl, _, rfl, g, _, _, _, rfl, rfl, .of q1, q2, _, rfl, r2, _, _, _, rfl, rfl, .of q3, q4 j hj, rfl, _, rfl, ?_⟩
     have d1 : decide (V.int ((mul t i j : Nat) : Int) = V.int 0) = decide (mul t i j = 0) := decN (j := 0)
     have d2 : decide (V.int ((mul t j i : Nat) : Int) = V.int 0) = decide (mul t j i = 0) := decN (j := 0)
     rw [d1]
     refine ite2 (fun h1 => ?_) (fun h1 => ?_)
     ·refine ⟨_, rfl, _, rfl, g, _, _, _, rfl, rfl, .of k1, k2, _, rfl, p2, _, _, _, rfl, rfl, .of k3, k4 i hi, rfl, _, rfl, ?_⟩
      rw [h1, Bool.true_and] at g1 g2
      rw [d2]
      exact ite2 (fun h2 => ⟨_, rfl, g1 h2 HC (Same.refl _)⟩) (fun h2 => g2 (by simpa using h2) HC (Same.refl _))
     ·have h1 : decide (mul t i j = 0) = false := by simpa using h1
      rw [h1, Bool.false_and] at g2
      exact iteN (by decide) (g2 rfl HC (Same.refl _))
    ·intro D HD nD sD hD
     rw [filt_mapN _ _ (fN_nV _)] at hD
     have eV : (List.filter (fun b => decide (mul t i b = 0) && decide (mul t b i = 0)) (List.range t.length)).map nV = (nI (List.filter (fun b => decide (mul t i b = 0) && decide (mul t b i = 0)) (List.range t.length))).map V.int := (nI_V _).symm
     rw [eV] at hD
     refine ⟨Nat.zero_le _, fun e0 he0 => ⟨_, _, .lst (.of (Same.upd he0 _ _ hD)) (RdDs.ints _), .lst (.of upd_same) .nil, shapedI _, rfl, _, rfl, ?_⟩⟩
     have e : PyData.eqv (.list ((nI (List.filter (fun b => decide (mul t i b = 0) && decide (mul t b i = 0)) (List.range t.length))).map PyData.int)) (.list []) = !hasB t i := by
      rw [eqvNil]
      unfold hasB nI
      rw [List.isEmpty_map, List.isEmpty_map]
      generalize List.range t.length = ls
      induction ls with
      | nil => rfl
      | cons c ls ih =>
       rw [List.filter_cons, List.any_cons]
       cases (decide (mul t i c = 0) && decide (mul t c i = 0)) with
       | true => rfl
       | false => rw [if_neg Bool.false_ne_true, ih]; rfl
     rw [e]
     have sE := (sm.trans sD).trans (Same.upd (o := .lst []) he0)
     refine ite2 (fun h2 => ?_) (fun h2 => ?_)
     ·have h2 : hasB t i = false := by simpa using h2
      refine ⟨_, rfl, (by show 2 ≤ sizeLine; decide), fun b nb => ?_⟩
      refine q _ _ (sA.trans (sE.trans (Same.upd nb))) ?_
      rw [dueT_back hone hi h2 hal]
      exact rd_word upd_same
     ·have h2 : hasB t i = true := by simpa using h2
      refine ⟨_, rfl, sE, fun j hj => ?_⟩
      by_cases e : j = i
      ·rw [e]; exact h2
      ·exact hal j (by omega)
   rintro σ' H4 ⟨v2', rfl, s4, hback⟩
   rw [ll] at hback
   have hL4 := s4 _ _ hL3
   have G4 := G3.mono s4
   have sB := sA.trans s4
   refine ⟨_, rfl, l, rfl, ⟨_, .of hL4⟩, ?_⟩
   refine for_seq (H0 := H4) (seq_lst (K := K) (.of hL4)) (fun i σ' H' => ∃ v2 v3 v4 : Option V, σ' = [some (.ref g), some (.ref l), v2, v3, v4] ∧ Same H4 H' ∧ ∀ j, j < i → thrB t j = true)
    ⟨_, _, _, rfl, Same.refl _, fun j hj => absurd hj (Nat.not_lt_zero _)⟩ (fun i σ' H' h => h.choose_spec.choose_spec.choose_spec.2.1) ?_ ?_
   ·rintro i y σ' H' hy ⟨v2, v3, v4, rfl, sm, hal⟩
    obtain ⟨hi, rfl⟩ := gi hy
    have hL' := sm _ _ hL4
    refine ⟨_, rfl, l, rfl, ⟨_, .of hL'⟩, ?_⟩
    refine for_seq (H0 := H') (seq_lst (K := K) (.of hL')) (fun b τ HH => ∃ v3 v4 : Option V, τ = [some (.ref g), some (.ref l), some (.int (i : Nat)), v3, v4] ∧ Same H' HH ∧ ∀ b', b' < b → ∀ c, c < t.length → mul t (mul t i b') c = mul t i (mul t b' c))
     ⟨_, _, rfl, Same.refl _, fun j hj => absurd hj (Nat.not_lt_zero _)⟩ (fun b τ HH h => h.choose_spec.choose_spec.2.1) ?_ ?_
    ·rintro b y τ HH hy ⟨v3', v4', rfl, sH, hb'⟩
     obtain ⟨hb, rfl⟩ := gi hy
     have GH := G4.mono (sm.trans sH)
     have hm := S.mlt hi hb
     obtain ⟨r1, r2, q1, _, _, q2, q3, q4⟩ := S.at GH hi
     obtain ⟨c1, rc, m1, _, _, m2, m3, m4⟩ := S.at GH hm
     refine ⟨_, rfl, _, rfl, _, rfl, g, _, _, _, rfl, rfl, .of q1, q2, _, rfl, r2, _, _, _, rfl, rfl, .of q3, q4 b hb, g, _, _, _, rfl, rfl, .of m1, m2, ?_⟩
     have hLH := sH _ _ hL'
     refine ⟨_, rfl, l, rfl, ⟨_, .of hLH⟩, ?_⟩
     refine comp_filt (seq_lst (K := K) (.of hLH)) [some (.ref g), some (.int (i : Nat)), some (.int (b : Nat)), some (.ref rc)] rfl (fN fun c => !decide (mul t (mul t i b) c = mul t i (mul t b c))) (fun y => y) (by rw [ll]; omega) ?_ ?_
     ·intro j z HC hz sC R R' g1 g2
      obtain ⟨hj, rfl⟩ := gi hz
      have ef : fN (fun c => !decide (mul t (mul t i b) c = mul t i (mul t b c))) (.int (j : Nat)) = !decide (mul t (mul t i b) j = mul t i (mul t b j)) := fN_nV _ j
      rw [ef] at g1 g2
      have GC := GH.mono sC
      obtain ⟨e1, e2, x1, _, _, x2, x3, x4⟩ := S.at GC hb
      refine ⟨_, rfl, _, rfl, rc, _, _, _, rfl, rfl, .of (sC _ _ m3), m4 j hj, _, rfl, _, rfl, g, _, _, _, rfl, rfl, .of (sC _ _ q1), q2, _, rfl, _, rfl, g, _, _, _, rfl, rfl, .of x1, x2, _, rfl, e2, _, _, _, rfl, rfl, .of x3, x4 j hj, r2, _, _, _, rfl, rfl, .of (sC _ _ q3), q4 _ (S.mlt hb hj), rfl, _, rfl, ?_⟩
      rw [decN]
      exact ite2 (fun h2 => ⟨_, rfl, g1 h2 HC (Same.refl _)⟩) (fun h2 => g2 (by simpa using h2) HC (Same.refl _))
     ·intro D HD nD sD hD
      rw [filt_mapN _ _ (fN_nV _)] at hD
      have eV : (List.filter (fun c => !decide (mul t (mul t i b) c = mul t i (mul t b c))) (List.range t.length)).map nV = (nI (List.filter (fun c => !decide (mul t (mul t i b) c = mul t i (mul t b c))) (List.range t.length))).map V.int := (nI_V _).symm
      rw [eV] at hD
      refine ⟨Nat.zero_le _, fun e0 he0 => ⟨_, _, .lst (.of (Same.upd he0 _ _ hD)) (RdDs.ints _), .lst (.of upd_same) .nil, shapedI _, rfl, _, rfl, ?_⟩⟩
      have e : PyData.eqv (.list ((nI (List.filter (fun c => !decide (mul t (mul t i b) c = mul t i (mul t b c))) (List.range t.length))).map PyData.int)) (.list []) = (List.filter (fun c => !decide (mul t (mul t i b) c = mul t i (mul t b c))) (List.range t.length)).isEmpty := by
       rw [eqvNil]
       unfold nI
       rw [List.isEmpty_map, List.isEmpty_map]
      rw [e]
      have sE := (sH.trans sD).trans (Same.upd (o := .lst []) he0)
      refine ite2 (fun h2 => ?_) (fun h2 => ?_)
      ·have h2 : (List.filter (fun c => !decide (mul t (mul t i b) c = mul t i (mul t b c))) (List.range t.length)).isEmpty = false := by simpa using h2
       have h3 : thrB t i = false := by
        cases e : thrB t i with
        | false => rfl
        | true =>
         have h4 := (thr_iff S hi).mp e
         have : List.filter (fun c => !decide (mul t (mul t i b) c = mul t i (mul t b c))) (List.range t.length) = [] := by
          rw [List.filter_eq_nil_iff]
          intro c hc
          rw [decide_eq_true (h4 b c hb (List.mem_range.mp hc))]
          decide
         rw [this] at h2
         cases h2
       refine ⟨_, rfl, (by show 2 ≤ sizeLine; decide), fun bb nb => ?_⟩
       refine q _ _ (sB.trans ((sm.trans sE).trans (Same.upd nb))) ?_
       rw [dueT_three hone hback hi h3 hal]
       exact rd_word upd_same
      ·have h2 : (List.filter (fun c => !decide (mul t (mul t i b) c = mul t i (mul t b c))) (List.range t.length)).isEmpty = true := by simpa using h2
       refine ⟨_, _, rfl, sE, fun b2 hb2 c hc => ?_⟩
       by_cases e : b2 = b
       ·subst e
        rw [List.isEmpty_iff, List.filter_eq_nil_iff] at h2
        have := h2 c (List.mem_range.mpr hc)
        simpa using this
       ·exact hb' b2 (by omega) c hc
    ·rintro τ HH ⟨v3', v4', rfl, sH, hb'⟩
     rw [ll] at hb'
     refine ⟨_, _, _, rfl, sm.trans sH, fun j hj => ?_⟩
     by_cases e : j = i
     ·rw [e]
      exact (thr_iff S hi).mpr fun b c hb hc => hb' b hb c hc
     ·exact hal j (by omega)
   rintro σ' H5 ⟨v2', v3, v4, rfl, s5, hthr⟩
   rw [ll] at hthr
   refine q _ _ (sB.trans s5) ?_
   rw [dueT_no hone hback hthr]
   exact .bl true
end
abbrev sAsk : Stmt := top 22
def cname : Nat → Str
 | 0 => "NoGroup" | 1 => "NoTable" | 2 => "NoShares" | 3 => "NoPerm" | 4 => "NoLines" | 5 => "NoAlike" | 6 => "NoName" | 7 => "TooMany" | 8 => "NoOrder" | 9 => "NoPart" | 10 => "NoText" | _ => "NoRow"
structure Cs (K : PySem.W.Frag) (mg : Str → Option Value) (T U : Addr) (et : Array DictEntry) (c : Nat → Ec) : Prop where
 tb : TbOk K T U et
 ok : ∀ k, k < 12 → EcOk K (cname k) T U et (c k)
 mgT : mg "TableError" = some (.ref T)
 mgC : ∀ k, k < 12 → mg (cname k) = some (.ref (c k).C)
 inj : ∀ j k, j < 12 → k < 12 → (c j).C = (c k).C → j = k
 neT : ∀ k, k < 12 → (c k).C ≠ T
 pl : ∀ k, 7 ≤ k → k < 12 → nsFind (c k).es "__init__" = none
abbrev fVE : ExcBaseFacts "ValueError" PyX.veNew "ValueError.__init__" PyX.VE := F.excBase_ValueError
theorem updupd {H : Hp} {a : Addr} {x y : HO} : upd (upd H a x) a y = upd H a y := by
 funext b
 by_cases h : b = a
 ·subst h; rw [upd_same, upd_same]
 ·rw [upd_ne h, upd_ne h, upd_ne h]
theorem raise_fin {H : Hp} {a dx C : Addr} {f g : Str} {y z : V} (ha : H a = none) (hd : (upd H a (exS a C none)) dx = none) (hne : dx ≠ a) :
  Same H (del (upd (upd (upd (upd H a (exS a C none)) a (exS a C (some dx))) dx (exD dx [(f, y)])) dx (exD dx [(g, z), (f, y)])) a) ∧
   del (upd (upd (upd (upd H a (exS a C none)) a (exS a C (some dx))) dx (exD dx [(f, y)])) dx (exD dx [(g, z), (f, y)])) a dx = some (exD dx [(g, z), (f, y)]) := by
 rw [updupd, updupd]
 rw [upd_ne hne] at hd
 refine ⟨fun r o e => ?_, by rw [del_ne hne, upd_same]⟩
 have n1 : r ≠ a := fun q => by rw [q, ha] at e; cases e
 have n2 : r ≠ dx := fun q => by rw [q, hd] at e; cases e
 rw [del_ne n1, upd_ne n2, upd_ne n1]
 exact e
def spAsk (K : PySem.W.Frag) (c : Nat → Ec) : Sp := fun vs H Q E => ∃ x o, vs = [x] ∧ T2 K H x o ∧ (dueO o = none → ∀ H', Same H H' → Q (.bl true) H') ∧
 (∀ wd n, dueO o = some (wd, n) → ∀ dx H', Same H H' → H' dx = some (exD dx [("thing", .int (n : Nat)), ("word", .str wd)]) → E (.ref (c 0).C) (some dx) H')
section
variable {P : Program} {w : World} {K : PySem.W.Frag} {mg : Str → Option Value} {base : Heap} {T U : Addr} {et : Array DictEntry} {c : Nat → Ec}
theorem scAsk : FnScope ["thing", "a"] ["thing"] (defScope sAsk) := FS
theorem ok_ask {f : Addr} {fd : FuncData} (F : Fun K "ask_group" "ask_group" sAsk f fd) (B : Bl mg) (S : Cs K mg T U et c) (hI : K.In base) (I0 : IniOk P w K mg base (c 0) ["self", "word", "thing"] (spIni2 (c 0).C "word" "thing"))
  (GS : Fn P w K mg base CX0 3 "has_shape" ["thing"] (spShape K)) (GH : Fn P w K mg base CX0 1 "has_back" ["table", "a"] (spTab hasB)) (GT' : Fn P w K mg base CX0 1 "goes_by_threes" ["table", "a"] (spTab thrB)) :
  FnOk P w K mg base (CXE P w) 4 f fd ["thing"] (spAsk K c) := by
 obtain ⟨oc, od, kV, doc, pm, an, cdv, ct, osl, rfl, lk, hcd⟩ := F.ex
 refine fn_of lk hcd scAsk (fun vs H Q E h => ?_) fun A outer s H vs Q E hr h => ?_
 ·obtain ⟨x, o, rfl, _⟩ := h; rfl
 ·obtain ⟨x, o, rfl, hx, q, qE⟩ := h
  have two : PyX.Two base (c 0).C (c 0).N T U PyX.veNew (nsFind (c 0).es) (nsFind et) := (S.ok 0 (by decide)).two S.tb hI
  obtain ⟨f0, o0, d0, a0, b0, e0, F0, g0⟩ := I0
  refine ⟨_, pss_cons (ps_if (pt_not (pt_val (fnc GS hr pass0 (pc (vn 0) pa_nil)))) (pss_one (ps_raise1 rfl two a0 b0 e0 fVE F0 (hr.mono (by decide)) g0 (gl_of (by kernel_rfl)) (S.mgC 0 (by decide)) (S.ok 0 (by decide)).c.kp (pc pe_str (pc pe_int pa_nil)) throws_def (by kernel_rfl))) pss_nil)
   (pss_cons (ps_for PassesOwn.leaving rfl (rng1 B.range (pc (cb (lenK K) B.len (pc (vn 0) pa_nil)) pa_nil)) (gn 1)
    (pss_one (ps_if (pw_or (pt_cmpR op_ne (pe_ix (ixT K) (pe_ix (ixT K) (vn 0) pe_int (fun _ _ => rfl)) (vn 1) (fun _ _ => rfl)) (vn 1) (nomark _))
     (pw_or1 (pt_cmpR op_ne (pe_ix (ixT K) (pe_ix (ixT K) (vn 0) (vn 1) (fun _ _ => rfl)) pe_int (fun _ _ => rfl)) (vn 1) (nomark _)))).pt
     (pss_one (ps_raise1 rfl two a0 b0 e0 fVE F0 (hr.mono (by decide)) g0 (gl_of (by kernel_rfl)) (S.mgC 0 (by decide)) (S.ok 0 (by decide)).c.kp (pc pe_str (pc (vn 1) pa_nil)) throws_def (by kernel_rfl))) pss_nil)))
   (pss_cons (ps_for PassesOwn.leaving rfl (rng1 B.range (pc (cb (lenK K) B.len (pc (vn 0) pa_nil)) pa_nil)) (gn 1)
    (pss_one (ps_if (pt_not (pt_val (fnc GH hr pass0 (pc (vn 0) (pc (vn 1) pa_nil)))))
     (pss_one (ps_raise1 rfl two a0 b0 e0 fVE F0 (hr.mono (by decide)) g0 (gl_of (by kernel_rfl)) (S.mgC 0 (by decide)) (S.ok 0 (by decide)).c.kp (pc pe_str (pc (vn 1) pa_nil)) throws_def (by kernel_rfl))) pss_nil)))
   (pss_cons (ps_for PassesOwn.leaving rfl (rng1 B.range (pc (cb (lenK K) B.len (pc (vn 0) pa_nil)) pa_nil)) (gn 1)
    (pss_one (ps_if (pt_not (pt_val (fnc GT' hr pass0 (pc (vn 0) (pc (vn 1) pa_nil)))))
     (pss_one (ps_raise1 rfl two a0 b0 e0 fVE F0 (hr.mono (by decide)) g0 (gl_of (by kernel_rfl)) (S.mgC 0 (by decide)) (S.ok 0 (by decide)).c.kp (pc pe_str (pc (vn 1) pa_nil)) throws_def (by kernel_rfl))) pss_nil)))
   (pss_one (ps_ret pe_bl))))), ?_⟩
  have sz : (16777216 : Nat) = sizeLine := by decide
  refine ⟨_, rfl, x, o, rfl, hx, fun H1 s1 => ⟨_, rfl, ?_⟩⟩
  refine ite2 (fun h1 => ?_) (fun h1 => ?_)
  ·have h1 : shB o = false := by simpa using h1
   have eD : dueO o = some (("shape" : Str), 0) := by unfold dueO; rw [if_neg (by rw [h1]; decide)]
   refine ⟨(by show 2 ≤ sizeLine; decide), fun a ha => ⟨a, _, _, rfl, upd_same, fun dx h1 h2 => ⟨rfl, some dx, ?_, ?_⟩⟩⟩
   ·rw [upd_ne (Ne.symm h2), upd_ne (Ne.symm h2), upd_same]
   ·obtain ⟨u1, u2⟩ := raise_fin (f := "word") (g := "thing") (y := .str "shape") (z := .int 0) ha h1 h2
    exact qE _ _ eD dx _ (s1.trans u1) u2
  have h1 : shB o = true := by simpa using h1
  cases o with
  | none => cases h1
  | some os =>
   obtain ⟨g, rfl, G0, Sh'⟩ := hx.tab h1
   have eD : dueO (some os) = dueT (tabO os) := by unfold dueO; rw [if_pos h1]; rfl
   rw [eD] at q qE
   generalize tabO os = t at *
   have G := G0.mono s1
   have n1 := Sh'.n1
   have n60 := Sh'.n60
   have raise : ∀ (wd : Str) (i : Nat) (H' : Hp), Same H H' → dueT t = some (wd, i) → ∀ a, H' a = none → spIni2 (c 0).C "word" "thing" [.ref a, .str wd, .int (i : Nat)] (upd H' a (exS a (c 0).C none)) (fun v H2 => v = .non ∧ ∃ d, H2 a = some (exS a (c 0).C d) ∧ E (.ref (c 0).C) d (del H2 a)) (fun _ _ _ => False) := fun wd i H' sH e a ha => by
    refine ⟨a, _, _, rfl, upd_same, fun dx h1 h2 => ⟨rfl, some dx, ?_, ?_⟩⟩
    ·rw [upd_ne (Ne.symm h2), upd_ne (Ne.symm h2), upd_same]
    ·obtain ⟨u1, u2⟩ := raise_fin (f := "word") (g := "thing") (y := .str wd) (z := .int (i : Nat)) ha h1 h2
     exact qE _ _ e dx _ (sH.trans u1) u2
   obtain ⟨gs, u1, u2, _⟩ := id G
   have el : (gs.map V.ref).length = t.length := by rw [List.length_map, u2]
   refine ⟨_, rfl, g, _, rfl, .inr (.of u1), _, rfl, by rw [el]; omega, by rw [el]; omega, ?_⟩
   rw [el, Int.toNat_natCast]
   refine for_range (fun i σ' H' => ∃ v1 : Option V, σ' = [some (.ref g), v1] ∧ Same H1 H' ∧ ∀ j, j < i → oneB t j = true) ⟨_, rfl, Same.refl _, fun j hj => absurd hj (Nat.not_lt_zero _)⟩ ?_ ?_
   ·rintro i σ' H' hi ⟨v1, rfl, sm, hal⟩
    rw [show (0 : Int) + (i : Int) = (i : Int) by omega]
    obtain ⟨r1, r2, q1, _, _, q2, q3, q4⟩ := Sh'.at (G.mono sm) n1
    obtain ⟨p1, p2, k1, _, _, k2, k3, k4⟩ := Sh'.at (G.mono sm) hi
    refine ⟨_, rfl, g, _, _, _, rfl, rfl, .of q1, q2, _, rfl, r2, _, _, _, rfl, rfl, .of q3, q4 i hi, _, rfl, rfl, _, rfl, ?_⟩
    rw [decN]
    refine ite2 (fun h2 => ?_) (fun h2 => ?_)
    ·have h2 : ¬ mul t 0 i = i := by simpa using h2
     refine ⟨_, rfl, (by show 2 ≤ sizeLine; decide), raise "one" i H' (s1.trans sm) (dueT_one hi ?_ hal)⟩
     unfold oneB
     rw [decide_eq_false h2, Bool.false_and]
    have h2 : mul t 0 i = i := by simpa using h2
    refine ⟨_, rfl, _, rfl, g, _, _, _, rfl, rfl, .of k1, k2, p2, _, _, _, rfl, rfl, .of k3, k4 0 n1, _, rfl, rfl, _, rfl, ?_⟩
    rw [decN]
    refine ite2 (fun h3 => ?_) (fun h3 => ?_)
    ·have h3 : ¬ mul t i 0 = i := by simpa using h3
     refine ⟨_, rfl, (by show 2 ≤ sizeLine; decide), raise "one" i H' (s1.trans sm) (dueT_one hi ?_ hal)⟩
     unfold oneB
     rw [decide_eq_false h3, Bool.and_false]
    have h3 : mul t i 0 = i := by simpa using h3
    refine ⟨_, rfl, sm, fun j hj => ?_⟩
    by_cases e : j = i
    ·rw [e]
     unfold oneB
     rw [decide_eq_true h2, decide_eq_true h3]
     rfl
    ·exact hal j (by omega)
   rintro σ' H3 ⟨v1, rfl, s3, hone⟩
   have G3 := G.mono s3
   have u3 := s3 _ _ u1
   refine ⟨_, rfl, g, _, rfl, .inr (.of u3), _, rfl, by rw [el]; omega, by rw [el]; omega, ?_⟩
   rw [el, Int.toNat_natCast]
   refine for_range (fun i σ' H' => ∃ v1 : Option V, σ' = [some (.ref g), v1] ∧ Same H3 H' ∧ ∀ j, j < i → hasB t j = true) ⟨_, rfl, Same.refl _, fun j hj => absurd hj (Nat.not_lt_zero _)⟩ ?_ ?_
   ·rintro i σ' H' hi ⟨v1, rfl, sm, hal⟩
    rw [show (0 : Int) + (i : Int) = (i : Int) by omega]
    refine ⟨_, rfl, _, rfl, g, t, i, rfl, G3.mono sm, Sh', hi, fun H'' s'' => ⟨_, rfl, ?_⟩⟩
    refine ite2 (fun h2 => ?_) (fun h2 => ?_)
    ·have h2 : hasB t i = false := by simpa using h2
     exact ⟨_, rfl, (by show 2 ≤ sizeLine; decide), raise "back" i H'' ((s1.trans s3).trans (sm.trans s'')) (dueT_back hone hi h2 hal)⟩
    ·have h2 : hasB t i = true := by simpa using h2
     refine ⟨_, rfl, sm.trans s'', fun j hj => ?_⟩
     by_cases e : j = i
     ·rw [e]; exact h2
     ·exact hal j (by omega)
   rintro σ' H4 ⟨v1, rfl, s4, hback⟩
   have G4 := G3.mono s4
   have u4 := s4 _ _ u3
   refine ⟨_, rfl, g, _, rfl, .inr (.of u4), _, rfl, by rw [el]; omega, by rw [el]; omega, ?_⟩
   rw [el, Int.toNat_natCast]
   refine for_range (fun i σ' H' => ∃ v1 : Option V, σ' = [some (.ref g), v1] ∧ Same H4 H' ∧ ∀ j, j < i → thrB t j = true) ⟨_, rfl, Same.refl _, fun j hj => absurd hj (Nat.not_lt_zero _)⟩ ?_ ?_
   ·rintro i σ' H' hi ⟨v1, rfl, sm, hal⟩
    rw [show (0 : Int) + (i : Int) = (i : Int) by omega]
    refine ⟨_, rfl, _, rfl, g, t, i, rfl, G4.mono sm, Sh', hi, fun H'' s'' => ⟨_, rfl, ?_⟩⟩
    refine ite2 (fun h2 => ?_) (fun h2 => ?_)
    ·have h2 : thrB t i = false := by simpa using h2
     exact ⟨_, rfl, (by show 2 ≤ sizeLine; decide), raise "three" i H'' (((s1.trans s3).trans s4).trans (sm.trans s'')) (dueT_three hone hback hi h2 hal)⟩
    ·have h2 : thrB t i = true := by simpa using h2
     refine ⟨_, rfl, sm.trans s'', fun j hj => ?_⟩
     by_cases e : j = i
     ·rw [e]; exact h2
     ·exact hal j (by omega)
   rintro σ' H5 ⟨v1, rfl, s5, hthr⟩
   exact q (dueT_no hone hback hthr) H5 (((s1.trans s3).trans s4).trans s5)
end
end C6
namespace L2
open PySem PySem.Spec PyProof.Rows
def tXfB (base : Heap) (ta : TE) (f : Str) : TE := fun σ H Q => ta σ H fun x H1 => ∃ a C dx fs y N T U nid mN mT, x = .ref a ∧ H1 a = some (exO a C (some dx)) ∧ H1 dx = some (exD dx fs) ∧ dx ≠ a ∧
 PyX.Two base C N T U nid mN mT ∧ NoR mN mT f ∧ fs.lookup f = some y ∧ Q y H1
theorem pe_xfB {X : Cx} {e : Expr} {ta : TE} {f : Str} {pos : Pos} (base : Heap) (he : PE X e ta) (hb : attributeBase e f X.env (eval e X.env) = eval e X.env) (hB : X.base = base := by rfl) : PE X (.Attribute e f pos) (tXfB base ta f) := by
 subst hB
 exact pe_xf he hb
end L2
namespace C6
open PySem L2 PySem.Spec PyProof.Rows
open Tb
abbrev sTold : Stmt := top 35
structure BlV (mg : Str → Option Value) : Prop where
 ve : mg "ValueError" = none
section
variable {P : Program} {w : World} {K : PySem.W.Frag} {mg : Str → Option Value} {base : Heap} {T U : Addr} {et : Array DictEntry} {c : Nat → Ec}
theorem Cs.kit (S : Cs K mg T U et c) {j k : Nat} (hj : j < 12) (hk : k < 12) : PySem.W.kitOne K (.ref (c k).C) (.ref (c j).C) = some (decide (j = k)) := by
 rw [(S.ok k hk).c.kitR (S.ok j hj).c]
 have e1 : (Value.ref (c j).C == Value.ref T) = false := by
  refine Bool.eq_false_iff.mpr fun q => S.neT j hj (Value.ref.inj (beq_iff_eq.mp q))
 congr 1
 rw [List.contains_cons, List.contains_cons, e1]
 by_cases q : j = k
 ·subst q; simp
 ·have e2 : (Value.ref (c j).C == Value.ref (c k).C) = false := Bool.eq_false_iff.mpr fun z => q (S.inj j k hj hk (Value.ref.inj (beq_iff_eq.mp z)))
  rw [e2, decide_eq_false q]
  rfl
def rIsE (c : Nat → Ec) : List V → Hp → VK → Prop := fun xs H Q => ∃ a k j d, xs = [.ref a, .ref (c j).C] ∧ k < 12 ∧ j < 12 ∧ H a = some (exO a (c k).C d) ∧ Q (.bl (decide (j = k))) H
theorem isE {X : Cx} (S : Cs K mg T U et c) (hI : K.In base) (hK : X.K = K := by rfl) (hB : X.base = base := by rfl) : CallR X (.builtin "isinstance") (rIsE c) := by
 subst hK hB
 intro pins s σ H xs us Q I r h
 obtain ⟨a, k, j, d, rfl, hk, hj, ha, q⟩ := h
 obtain ⟨cd, h1, _⟩ := (S.ok k hk).c.cls
 refine call_isx pins s σ H _ us Q I r ⟨a, _, d, _, T, U, _, _, _, cd, _, _, rfl, ha, h1, (S.ok k hk).noC S.tb, (S.ok k hk).two S.tb hI, fun cv rc => ?_, q⟩
 cases (show cv = Value.ref _ from rc)
 exact S.kit hj hk
def rIsV (c : Nat → Ec) : List V → Hp → VK → Prop := fun xs H Q => ∃ a k d, xs = [.ref a, .ty "ValueError"] ∧ k < 12 ∧ H a = some (exO a (c k).C d) ∧ Q (.bl true) H
theorem isV {X : Cx} (S : Cs K mg T U et c) (hI : K.In base) (hK : X.K = K := by rfl) (hB : X.base = base := by rfl) : CallR X (.builtin "isinstance") (rIsV c) := by
 subst hK hB
 intro pins s σ H xs us Q I r h
 obtain ⟨a, k, d, rfl, hk, ha, q⟩ := h
 obtain ⟨cd, h1, _⟩ := (S.ok k hk).c.cls
 refine call_isx pins s σ H _ us Q I r ⟨a, _, d, _, T, U, _, _, _, cd, _, _, rfl, ha, h1, (S.ok k hk).noC S.tb, (S.ok k hk).two S.tb hI, fun cv rc => ?_, q⟩
 cases (show cv = Value.type "ValueError" from rc)
 exact (S.ok k hk).c.kitV
theorem Cs.any (S : Cs K mg T U et c) {k : Nat} (hk : k < 12) : ∀ (js : List Nat) (its : List Value), (∀ j ∈ js, j < 12) → Vals (js.map fun j => V.ref (c j).C) its → PySem.W.kitAny K (.ref (c k).C) its = some (js.any fun j => decide (j = k))
 | [], its, _, h => by cases h; rfl
 | j :: js, its, hl, h => by
  cases h with
  | cons r rs =>
   cases (show _ = Value.ref (c j).C from r)
   have ih := S.any hk js _ (fun i hi => hl i (List.mem_cons_of_mem _ hi)) rs
   have h1 := S.kit (hl j List.mem_cons_self) hk
   unfold PySem.W.kitAny
   rw [h1, List.any_cons]
   by_cases e : j = k
   ·rw [decide_eq_true e]; rfl
   ·rw [decide_eq_false e]; exact ih
def rIsT (c : Nat → Ec) : List V → Hp → VK → Prop := fun xs H Q => ∃ (a : Addr) (k : Nat) (d : Option Addr) (tp : Addr) (js : List Nat), xs = [.ref a, .ref tp] ∧ k < 12 ∧ (∀ j ∈ js, j < 12) ∧ H a = some (exO a (c k).C d) ∧ H tp = some (.tup (js.map fun j => V.ref (c j).C)) ∧ Q (.bl (js.any fun j => decide (j = k))) H
theorem isT {X : Cx} (S : Cs K mg T U et c) (hI : K.In base) (hK : X.K = K := by rfl) (hB : X.base = base := by rfl) : CallR X (.builtin "isinstance") (rIsT c) := by
 subst hK hB
 intro pins s σ H xs us Q I r h
 obtain ⟨a, k, d, tp, js, rfl, hk, hj, ha, ht, q⟩ := h
 obtain ⟨cd, h1, _⟩ := (S.ok k hk).c.cls
 exact call_isxT pins s σ H _ us Q I r ⟨a, _, d, _, T, U, _, _, _, cd, tp, _, _, rfl, ha, ht, h1, (S.ok k hk).noC S.tb, (S.ok k hk).two S.tb hI, fun its rv => S.any hk js its hj rv, q⟩
theorem clv {X : Cx} {x : Str} {C : Addr} {pos : Pos} (hm : X.mg x = some (.ref C)) (hg : isGlob X.env.scope x = true := by kernel_rfl) (hd : (x == ("__debug__" : Str)) = false := by kernel_rfl) : PE X (.Name x pos) (tC (.ref C)) := pe_glob (gl_of hg) hm rfl hd
theorem Cs.catchR {X : Cx} (S : Cs K mg T U et c) (hI : K.In base) {k : Nat} (hk : k < 12) {i : Nat} {ts : TS} {D : Ends} {d : Option Addr} {H : Hp} (hB : X.base = base)
  (h : ∀ a, H a = none → ts (endS D i) ((noSt X).set i (some (.ref a))) (upd H a (exO a (c k).C d))) : tCatch X T i ts D (.ref (c k).C) d H := by
 subst hB
 have two := (S.ok k hk).two S.tb hI
 refine ⟨_, _, _, _, _, _, rfl, two.c.ex, two.t.ex, rfl, ?_, h⟩
 rw [List.contains_cons, List.contains_cons]
 simp
theorem scTold : FnScope ["_law_thing", "_law_told_here", "e", "_law_others"] ["_law_thing"] (defScope sTold) := FS
theorem ok_told {f : Addr} {fd : FuncData} (F : Fun K "_law_told" "_law_told" sTold f fd) (B : Bl mg) (V0 : BlV mg) (S : Cs K mg T U et c) (hI : K.In base) (GA : Fn P w K mg base (CXE P w) 4 "ask_group" ["thing"] (spAsk K c)) :
  FnOk P w K mg base CX0 5 f fd ["_law_thing"] (spDue K) := by
 refine F.ok scTold (fun vs H Q E h => ?_) (fun cdv A outer s H vs Q E hr h => ?_)
 ·obtain ⟨x, o, rfl, _⟩ := h; rfl
 ·obtain ⟨x, o, rfl, hx, q⟩ := h
  refine ⟨_, pss_cons (sset 1 rfl (pe_tup (pc pe_str (pc pe_non pa_nil))))
   (pss_cons (ps_try (fun D pins => pss_one (sset 1 rfl (fnc GA hr (passes_try (i := 2) (nodupS_ok (by kernel_rfl)) rfl (isPlainLoc_ok (by kernel_rfl)) (gl_of (by kernel_rfl)) S.mgT (by kernel_rfl) rfl rfl
    (fun a => pss_cons (sset 3 rfl (cb (isT S hI) B.isi (pc (vn 2) (pc (pe_tup (pc (clv (S.mgC 5 (by decide))) (pc (clv (S.mgC 4 (by decide))) (pc (clv (S.mgC 6 (by decide))) (pc (clv (S.mgC 8 (by decide))) (pc (clv (S.mgC 9 (by decide))) (pc (clv (S.mgC 3 (by decide))) (pc (clv (S.mgC 11 (by decide))) (pc (clv (S.mgC 2 (by decide))) pa_nil))))))))) pa_nil))))
     (pss_cons (sset 3 rfl (pe_or (vn 3) (pe_or (cb (isT S hI) B.isi (pc (vn 2) (pc (pe_tup (pc (clv (S.mgC 1 (by decide))) (pc (clv (S.mgC 10 (by decide))) (pc (clv (S.mgC 7 (by decide))) pa_nil)))) pa_nil))) (pe_one (pe_not (cb (isV S hI) B.isi (pc (vn 2) (pc (tyv "ValueError" V0.ve) pa_nil))))))))
     (pss_one (sset 1 rfl (pe_ifExp (pw_and (pt_val (cb (isE S hI) B.isi (pc (vn 2) (pc (clv (S.mgC 0 (by decide))) pa_nil)))) (pw_and1 (pt_not (pt_val (vn 3))))).pt (pe_tup (pc (pe_xfB base (vn 2) (by rfl)) (pc (pe_xfB base (vn 2) (by rfl)) pa_nil))) (pe_tup (pc pe_str (pc pe_non pa_nil))))))))) (pc (vn 0) pa_nil)))))
   (pss_one (ps_ret (vn 1)))), ?_⟩
  refine ⟨(by show 2 ≤ sizeLine; decide), fun t0 n0 => ?_⟩
  have s0 := Same.upd (H := H) (o := .tup [.str "none", .non]) n0
  refine ⟨_, rfl, x, o, rfl, hx.mono s0, fun e H' s' => ?_, fun wd n e dx H' s' hdx => S.catchR hI (by decide) rfl fun b hb => ?_⟩
  ·refine ⟨_, rfl, q _ _ (s0.trans s') ?_⟩
   rw [e]
   exact .bl true
  ·have two : PyX.Two base (c 0).C (c 0).N T U PyX.veNew (nsFind (c 0).es) (nsFind et) := (S.ok 0 (by decide)).two S.tb hI
   have nr : ∀ {f : Str}, f ∈ fldNames → NoR (nsFind (c 0).es) (nsFind et) f := fun hf => (S.ok 0 (by decide)).noR S.tb hf
   have ne : dx ≠ b := fun z => by rw [z, hb] at hdx; cases hdx
   have s1 := Same.upd (o := exO b (c 0).C (some dx)) hb
   have hB : upd H' b (exO b (c 0).C (some dx)) b = some (exO b (c 0).C (some dx)) := upd_same
   have hX := s1 _ _ hdx
   have sA := (s0.trans s').trans s1
   generalize upd H' b (exO b (c 0).C (some dx)) = H2 at hB hX sA ⊢
   refine ⟨_, rfl, (by show 8 ≤ sizeLine; decide), fun tp ntp => ?_⟩
   have s2 := Same.upd (o := .tup ([5, 4, 6, 8, 9, 3, 11, 2].map fun j => V.ref (c j).C)) ntp
   refine ⟨b, 0, some dx, tp, [5, 4, 6, 8, 9, 3, 11, 2], rfl, by decide, by decide, s2 _ _ hB, upd_same, ?_⟩
   refine ⟨_, rfl, _, rfl, iteN (by decide) ⟨_, rfl, (by show 3 ≤ sizeLine; decide), fun tp2 ntp2 => ?_⟩⟩
   have s3 := Same.upd (o := .tup ([1, 10, 7].map fun j => V.ref (c j).C)) ntp2
   have hB3 := s3 _ _ (s2 _ _ hB)
   have hX3 := s3 _ _ (s2 _ _ hX)
   have sB := sA.trans (s2.trans s3)
   refine ⟨b, 0, some dx, tp2, [1, 10, 7], rfl, by decide, by decide, hB3, upd_same, _, rfl, iteN (by decide) ⟨_, rfl, b, 0, some dx, rfl, by decide, hB3, _, rfl, ?_⟩⟩
   refine ⟨_, rfl, b, 0, 0, some dx, rfl, by decide, by decide, hB3, _, rfl, iteP (by decide) ⟨_, rfl, _, rfl, iteP (by decide) ?_⟩⟩
   refine ⟨_, rfl, b, _, dx, _, _, _, T, U, _, _, _, rfl, hB3, hX3, ne, two, nr (by decide), rfl, _, rfl, b, _, dx, _, _, _, T, U, _, _, _, rfl, hB3, hX3, ne, two, nr (by decide), rfl, (by show 2 ≤ sizeLine; decide), fun t ht => ⟨_, rfl, q _ _ (sB.trans (Same.upd ht)) ?_⟩⟩
   rw [e]
   exact rd_word upd_same
end
abbrev sSet : Stmt := top 36
theorem cut_take {xs : List V} {b : Nat} (h : b < xs.length) : cutV xs none (some (b : Int)) = xs.take b := by
 unfold cutV
 rw [HT.sIx_nat, HT.sIx_none, List.drop_zero, Nat.sub_zero, Nat.min_eq_left (by omega)]
theorem cut_drop {xs : List V} {b : Nat} (h : b < xs.length) : cutV xs (some ((b : Int) + 1)) none = xs.drop (b + 1) := by
 have e : HT.sIx xs.length 0 (some ((b : Int) + 1)) = b + 1 := by
  have : HT.sIx xs.length 0 (some ((b : Int) + 1)) = min (b + 1) xs.length := HT.sIx_nat xs.length 0 (b + 1)
  rw [this]
  omega
 unfold cutV
 rw [e, HT.sIx_none, List.take_of_length_le (by rw [List.length_drop]; omega)]
theorem no_take {xs : List V} {b : Nat} (h : b < xs.length) : ¬ (HT.sIx xs.length 0 none = 0 ∧ HT.sIx xs.length xs.length (some (b : Int)) = xs.length) := by
 rw [HT.sIx_nat]
 omega
theorem no_drop {xs : List V} {b : Nat} (h : b < xs.length) : ¬ (HT.sIx xs.length 0 (some ((b : Int) + 1)) = 0 ∧ HT.sIx xs.length xs.length none = xs.length) := by
 have : HT.sIx xs.length 0 (some ((b : Int) + 1)) = min (b + 1) xs.length := HT.sIx_nat xs.length 0 (b + 1)
 rw [this]
 omega
theorem set_cut {xs : List V} {b : Nat} {y : V} (h : b < xs.length) : xs.take b ++ [y] ++ xs.drop (b + 1) = xs.set b y := by
 rw [List.set_eq_take_append_cons_drop, if_pos h, List.append_assoc]
 rfl
def spSet : Sp := fun vs H Q _ => ∃ (g r : Addr) (xs zs : List V) (a b : Nat) (y : V), vs = [.ref g, .int a, .int b, y] ∧ H g = some (.tup xs) ∧ xs.length ≤ 1000 ∧ xs[a]? = some (.ref r) ∧ H r = some (.tup zs) ∧ zs.length ≤ 1000 ∧ b < zs.length ∧
 ∀ p r' H', Same H H' → H' r' = some (.tup (zs.set b y)) → H' p = some (.tup (xs.set a (.ref r'))) → Q (.ref p) H'
section
variable {P : Program} {w : World} {K : PySem.W.Frag} {mg : Str → Option Value} {base : Heap}
theorem scSet : FnScope ["_law_thing", "_law_a", "_law_b", "_law_one", "_law_row"] ["_law_thing", "_law_a", "_law_b", "_law_one"] (defScope sSet) := FS
theorem ok_set {f : Addr} {fd : FuncData} (F : Fun K "_law_set" "_law_set" sSet f fd) : FnOk P w K mg base CX0 1 f fd ["_law_thing", "_law_a", "_law_b", "_law_one"] spSet := by
 refine F.ok scSet (fun vs H Q E h => ?_) (fun cdv A outer s H vs Q E hr h => ?_)
 ·obtain ⟨g, r, xs, zs, a, b, y, rfl, _⟩ := h; rfl
 ·obtain ⟨g, r, xs, zs, a, b, y, rfl, hg, xl, hxa, hr', zl, hb, q⟩ := h
  refine ⟨_, pss_cons (sset 4 rfl (pe_op op_catU (pe_op op_catU (pe_slice sl_tup (pe_ix (ixT K) (vn 0) (vn 1) (fun _ _ => rfl)) po_none (po_some (vn 2))) (pe_tup (pc (vn 3) pa_nil)))
    (pe_slice sl_tup (pe_ix (ixT K) (vn 0) (vn 1) (fun _ _ => rfl)) (po_some (pe_op op_add (vn 2) pe_int)) po_none)))
   (pss_one (ps_ret (pe_op op_catU (pe_op op_catU (pe_slice sl_tup (vn 0) po_none (po_some (vn 1))) (pe_tup (pc (vn 4) pa_nil))) (pe_slice sl_tup (vn 0) (po_some (pe_op op_add (vn 1) pe_int)) po_none)))), ?_⟩
  have sz : (16777216 : Nat) = sizeLine := by decide
  have ha : a < xs.length := (List.getElem?_eq_some_iff.mp hxa).1
  have hat : atI xs (a : Int) = some (.ref r) := atI_nat hxa
  refine ⟨_, rfl, _, rfl, g, _, _, _, rfl, rfl, .of hg, hat, _, rfl, _, rfl, r, _, rfl, .of hr', no_take hb, fun p1 h1 => ?_⟩
  rw [cut_take hb]
  have s1 := Same.upd (o := .tup (zs.take b)) h1
  refine ⟨_, rfl, (by show 1 ≤ sizeLine; decide), fun p2 h2 => ?_⟩
  have s2 := Same.upd (o := .tup [y]) h2
  refine ⟨p1, p2, _, _, rfl, rfl, s2 _ _ upd_same, upd_same, by rw [List.length_take]; simp; omega, fun p3 H3 s3 h3 => ?_⟩
  have sA := (s1.trans s2).trans s3
  refine ⟨_, rfl, _, rfl, g, _, _, _, rfl, rfl, .of (sA _ _ hg), hat, _, rfl, _, _, rfl, rfl, _, rfl, r, _, rfl, .of (sA _ _ hr'), no_drop hb, fun p4 h4 => ?_⟩
  rw [cut_drop hb]
  have s4 := Same.upd (o := .tup (zs.drop (b + 1))) h4
  refine ⟨p3, p4, _, _, rfl, rfl, s4 _ _ h3, upd_same, by rw [List.length_append, List.length_take, List.length_drop]; simp; omega, fun r' H5 s5 h5 => ?_⟩
  rw [set_cut hb] at h5
  have sB := (sA.trans s4).trans s5
  refine ⟨_, rfl, _, rfl, _, rfl, g, _, rfl, .of (sB _ _ hg), no_take ha, fun p6 h6 => ?_⟩
  rw [cut_take ha]
  have s6 := Same.upd (o := .tup (xs.take a)) h6
  refine ⟨_, rfl, (by show 1 ≤ sizeLine; decide), fun p7 h7 => ?_⟩
  have s7 := Same.upd (o := .tup [.ref r']) h7
  refine ⟨p6, p7, _, _, rfl, rfl, s7 _ _ upd_same, upd_same, by rw [List.length_take]; simp; omega, fun p8 H8 s8 h8 => ?_⟩
  have sC := ((sB.trans s6).trans s7).trans s8
  refine ⟨_, rfl, _, rfl, _, _, rfl, rfl, _, rfl, g, _, rfl, .of (sC _ _ hg), no_drop ha, fun p9 h9 => ?_⟩
  rw [cut_drop ha]
  have s9 := Same.upd (o := .tup (xs.drop (a + 1))) h9
  refine ⟨p8, p9, _, _, rfl, rfl, s9 _ _ h8, upd_same, by rw [List.length_append, List.length_take, List.length_drop]; simp; omega, fun p10 H10 s10 h10 => ?_⟩
  rw [set_cut ha] at h10
  exact q p10 r' H10 ((sC.trans s9).trans s10) (((s6.trans s7).trans s8 |>.trans (s9.trans s10)) _ _ h5) h10
end
theorem range_get {n i : Nat} {y : V} (h : ((List.range n).map nV)[i]? = some y) : i < n ∧ y = .int (i : Nat) := by
 obtain ⟨k, hk, rfl⟩ := nV_get h
 have hi : i < n := by
  have := (List.getElem?_eq_some_iff.mp hk).1
  rw [List.length_range] at this
  exact this
 rw [List.getElem?_range hi] at hk
 have := Option.some.inj hk
 subst this
 exact ⟨hi, rfl⟩
theorem comp_rows {J : It} {own : List Str} {caps : List Nat} {te : TE} {σ : L2.St} {H : Hp} {Q : VK} {n : Nat} (S : SeqIt J H ((List.range n).map nV)) (cs : L2.St) (hcs : capS own caps σ = none :: cs) (hn : n ≤ 1000) (E : Nat → List Nat)
  (hs : ∀ a, a < n → ∀ H', Same H H' → ∀ R : VK, (∀ r H5, Same H' H5 → Tt H5 r ((E a).map nV) → R (.ref r) H5) → te (some (.int (a : Nat)) :: cs) H' R)
  (hd : ∀ D rs H', H D = none → Same H H' → RowsAt H' D rs E → rs.length = n → Q (.ref D) H') : CompK own caps (gName 0) tTrue te σ Q J H := by
 have ll : ((List.range n).map nV).length = n := by rw [List.length_map, List.length_range]
 refine comp_gen (xs := (List.range n).map nV) (fun D i ys H' => Same H H' ∧ ∃ rs : List Addr, ys = rs.map V.ref ∧ rs.length = i ∧ ∀ (j : Nat) r, rs[j]? = some r → Tt H' r ((E j).map nV)) cs hcs (by omega) ?_ ?_ ?_ ?_
 ·intro D i ys H' hD hD' p
  have S' := S.mono p.1
  exact ⟨fun hi => ⟨S'.go i H' (Same.refl _) hi, fun x H3 y => S'.yld i H' x H3 (Same.refl _) hi y⟩, fun e => e ▸ S'.stop H' (Same.refl _)⟩
 ·intro D hD
  exact ⟨Same.upd hD, [], rfl, rfl, fun j r hr => by cases hr⟩
 ·rintro D i y ys H' hD hD' hy ⟨sm, rs, rfl, rl, hrs⟩ R k
  obtain ⟨hi, rfl⟩ := range_get hy
  refine hs i hi H' sm R fun r H5 s5 h5 => ?_
  have hD5 := s5 _ _ hD'
  refine k _ H5 hD5 ⟨(sm.trans s5).updr hD, rs ++ [r], by rw [List.map_append]; rfl, by rw [List.length_append, rl]; rfl, fun j r' hj => ?_⟩
  have keep : ∀ {b : Addr} {zs : List V}, Tt H5 b zs → Tt (upd H5 D (.lst (rs.map V.ref ++ [.ref r]))) b zs := fun {b zs} hb => by
   have hb : H5 b = some (.tup zs) := hb
   show upd H5 D _ b = some (.tup zs)
   rw [upd_ne (fun z => by rw [z, hD5] at hb; cases hb)]
   exact hb
  by_cases hjl : j < rs.length
  ·rw [List.getElem?_append_left hjl] at hj
   exact keep ((hrs j r' hj).mono s5)
  ·rw [List.getElem?_append_right (by omega)] at hj
   have e0 : j - rs.length = 0 := by
    apply Classical.byContradiction
    intro z
    rw [List.getElem?_eq_none (by rw [List.length_singleton]; omega)] at hj
    cases hj
   rw [e0] at hj
   cases hj
   have : j = i := by omega
   rw [this]
   exact keep h5
 ·rintro D ys H5 hD hD' hyl ⟨sm, rs, rfl, rl, hrs⟩
  rw [ll] at rl
  exact hd D rs H5 hD sm ⟨hD', hrs⟩ rl
end C6
namespace L2
open PySem PySem.Spec PyProof.Rows
theorem tupWK {X : Cx} (K : PySem.W.Frag) (hK : X.K = K := by rfl) : CallR X (.type "tuple") (fun xs H Q => ∃ p ys, xs = [.ref p] ∧ SqL K H p ys ∧ ∀ l H', H l = none → Same H H' → Tt H' l ys → Q (.ref l) H') := hK ▸ call_tupleW
end L2
namespace C6
open PySem L2 PySem.Spec PyProof.Rows
open Tb
abbrev sOther : Stmt := top 38
def Sm (t : List (List Nat)) : Prop := t.length ≤ 60 ∧ ∀ row ∈ t, row.length ≤ 60 ∧ ∀ x ∈ row, x ≤ 1000
def spOther : Sp := fun vs H Q _ => ∃ p : Addr, vs = [.ref p] ∧ Feed H p ∧ ∀ g t H', Dr p H H' → GT H' g t → Sm t → Q (.ref g) H'
def eMul (m a b : Nat) : Nat := a * b % m
def eMax (a b : Nat) : Nat := if b > a then b else a
def eSub (m a b : Nat) : Nat := (((a : Int) - (b : Int)) % (m : Int)).toNat
def fE (E : Nat → Nat) : V → V
 | .int z => nV (E z.toNat)
 | y => y
theorem fE_map (E : Nat → Nat) (n : Nat) : ((List.range n).map nV).map (fE E) = ((List.range n).map E).map nV := by
 rw [List.map_map, List.map_map]
 refine List.map_congr_left fun b _ => ?_
 show nV (E (b : Int).toNat) = nV (E b)
 rw [Int.toNat_natCast]
theorem sm_of {n : Nat} {E : Nat → Nat → Nat} (hn : n ≤ 60) (h : ∀ a b, a < n → b < n → E a b ≤ 1000) : Sm ((List.range n).map fun a => (List.range n).map (E a)) := by
 refine ⟨by rw [List.length_map, List.length_range]; exact hn, fun row hr => ?_⟩
 obtain ⟨a, ha, rfl⟩ := List.mem_map.mp hr
 refine ⟨by rw [List.length_map, List.length_range]; exact hn, fun x hx => ?_⟩
 obtain ⟨b, hb, rfl⟩ := List.mem_map.mp hx
 exact h a b (List.mem_range.mp ha) (List.mem_range.mp hb)
section
variable {P : Program} {w : World} {K : PySem.W.Frag} {mg : Str → Option Value} {base : Heap}
theorem scOther : FnScope ["_law_feed_here", "_law_many", "_law_things", "_law_way", "_law_rows", "_law_a", "_law_row"] ["_law_feed_here"] (defScope sOther) := FS
theorem ok_other {f : Addr} {fd : FuncData} (F : Fun K "_law_other" "_law_other" sOther f fd) (T : Bl mg) (T2 : Bl2 mg) (GD : Fn P w K mg base CX0 1 "_law_draw" ["_law_feed_here", "_law_many"] spDraw) : FnOk P w K mg base CX0 2 f fd ["_law_feed_here"] spOther := by
 refine F.ok scOther (fun vs H Q E h => ?_) (fun cdv A outer s H vs Q E hr h => ?_)
 ·obtain ⟨p, rfl, _⟩ := h; rfl
 ·obtain ⟨p, rfl, F0, q⟩ := h
  refine ⟨_, pss_cons (sset 1 rfl (pe_op op_add pe_int (fnc GD hr pass0 (pc (vn 0) (pc pe_int pa_nil)))))
   (pss_cons (sset 2 rfl (ct (call_list_rng rfl) T.list (pc (ct call_range1 T.range (pc (vn 1) pa_nil)) pa_nil)))
   (pss_cons (sset 3 rfl (fnc GD hr pass0 (pc (vn 0) (pc pe_int pa_nil))))
   (pss_cons (ps_if (pt_cmpR op_eq (vn 3) pe_int (nomark _)) (pss_one (ps_ret (ct call_tuple_of T.tuple (pc (cmp ["_law_a"] [1, 2] ["_law_a", "_law_many", "_law_things"] rfl (itL K (vn 2)) (fun _ _ _ _ _ => gnf 0 rfl) (fun _ _ _ _ _ => pif_nil)
    (fun _ _ _ _ _ => ct (tupWK K) T.tuple (pc (cmp ["_law_b"] [0, 1] ["_law_b", "_law_a", "_law_many"] rfl (itL K (vn 2)) (fun _ _ _ _ _ => gn 0) (fun _ _ _ _ _ => pif_nil) (fun _ _ _ _ _ => pe_op op_mod (pe_op op_mul (vn 1) (vn 0)) (vn 2))) pa_nil))) pa_nil)))) pss_nil)
   (pss_cons (ps_if (pt_cmpR op_eq (vn 3) pe_int (nomark _)) (pss_one (ps_ret (ct call_tuple_of T.tuple (pc (cmp ["_law_a"] [2] ["_law_a", "_law_things"] rfl (itL K (vn 2)) (fun _ _ _ _ _ => gnf 0 rfl) (fun _ _ _ _ _ => pif_nil)
    (fun _ _ _ _ _ => ct (tupWK K) T.tuple (pc (cmp ["_law_b"] [0] ["_law_b", "_law_a"] rfl (itL K (vn 1)) (fun _ _ _ _ _ => gn 0) (fun _ _ _ _ _ => pif_nil) (fun _ _ _ _ _ => cb (call_max2 rfl) T2.max (pc (vn 1) (pc (vn 0) pa_nil)))) pa_nil))) pa_nil)))) pss_nil)
   (pss_cons (ps_if (pt_cmpR op_eq (vn 3) pe_int (nomark _)) (pss_one (ps_ret (ct call_tuple_of T.tuple (pc (cmp ["_law_a"] [1, 2] ["_law_a", "_law_many", "_law_things"] rfl (itL K (vn 2)) (fun _ _ _ _ _ => gnf 0 rfl) (fun _ _ _ _ _ => pif_nil)
    (fun _ _ _ _ _ => ct (tupWK K) T.tuple (pc (cmp ["_law_b"] [0, 1] ["_law_b", "_law_a", "_law_many"] rfl (itL K (vn 2)) (fun _ _ _ _ _ => gn 0) (fun _ _ _ _ _ => pif_nil) (fun _ _ _ _ _ => pe_op op_mod (pe_op op_sub (vn 1) (vn 0)) (vn 2))) pa_nil))) pa_nil)))) pss_nil)
   (pss_cons (sset 4 rfl (pe_lst pa_nil))
   (pss_cons (ps_for PassesOwn.never rfl (itL K (vn 2)) (gnf 5 rfl)
    (pss_cons (sset 6 rfl (cmp ["_law_b"] [0, 1, 5] ["_law_b", "_law_feed_here", "_law_many", "_law_a"] rfl (itL K (vn 2)) (fun _ _ _ _ _ => gn 0) (fun _ _ _ _ _ => pif_nil)
     (fun _ _ _ _ _ => pe_op op_mul (fnc GD hr pass0 (pc (vn 1) (pc (vn 2) pa_nil))) (ct call_int1 T.int (pc (pe_cmpR op_ne (vn 3) (vn 0) (nomark _)) pa_nil)))))
    (pss_one (ps_expr (pe_bm PySem.F.plainAttrs_list PySem.F.slot_list_append PySem.F.type_list_append mt_append (vn 4) (pc (ct call_tupleW T.tuple (pc (cmp ["_law_b"] [5, 6] ["_law_b", "_law_a", "_law_row"] rfl (itL K (vn 2)) (fun _ _ _ _ _ => gn 0) (fun _ _ _ _ _ => pif_nil)
     (fun _ _ _ _ _ => pe_ifExp (pt_cmpR op_eq (vn 0) pe_int (nomark _)) (vn 1) (pe_ifExp (pt_cmpR op_eq (vn 1) pe_int (nomark _)) (vn 0) (pe_ix (ixL K) (vn 2) (vn 0) (fun _ _ => rfl))))) pa_nil)) pa_nil))))))
   (pss_one (ps_ret (ct call_tuple_of T.tuple (pc (vn 4) pa_nil))))))))))), ?_⟩
  have sz : (16777216 : Nat) = sizeLine := by decide
  refine ⟨_, rfl, p, 9, rfl, F0, by decide, by decide +kernel, fun r1 H1 a0 a1 d1 => ?_⟩
  obtain ⟨j, rfl⟩ := Int.eq_ofNat_of_zero_le a0
  have F1 := d1.feed F0
  refine ⟨_, _, rfl, rfl, ?_⟩
  have em : (1 : Int) + (j : Int) = ((j + 1 : Nat) : Int) := by omega
  dsimp only
  rw [em]
  have hm : j + 1 ≤ 9 := by omega
  generalize hmm : j + 1 = m at *
  have m1 : 1 ≤ m := by omega
  refine ⟨_, rfl, _, rfl, fun r0 hr0 => ⟨r0, 0, _, rfl, upd_same, ⟨by omega, by omega, by omega, by omega⟩, by omega, fun l hl => ?_⟩⟩
  have ek : ((m : Int) - 0).toNat = m := by omega
  rw [ek] at *
  have s2 : Same H1 (upd (upd H1 r0 (.rng 0 (m : Int))) l (.lst ((rngI 0 m).map V.int))) := (Same.upd hr0).trans (Same.upd hl)
  have nl1 : H1 l = none := (Same.upd (o := .rng 0 (m : Int)) hr0).free hl
  have eL : (rngI 0 m).map V.int = (List.range m).map nV := by
   unfold rngI
   rw [List.map_map]
   refine List.map_congr_left fun i _ => ?_
   show V.int (0 + (i : Int)) = nV i
   rw [Int.zero_add]
   rfl
  have hL : upd (upd H1 r0 (.rng 0 (m : Int))) l (.lst ((rngI 0 m).map V.int)) l = some (.lst ((List.range m).map nV)) := by rw [upd_same, eL]
  generalize upd (upd H1 r0 (.rng 0 (m : Int))) l (.lst ((rngI 0 m).map V.int)) = H2 at s2 hL ⊢
  have F2 := F1.mono s2
  have nlp : l ≠ p := F1.ne_none nl1
  refine ⟨_, rfl, p, 4, rfl, F2, by decide, by decide +kernel, fun r2 H3 _ _ d3 => ?_⟩
  have hL3 := d3.keep _ _ hL nlp
  have F3 := d3.feed F2
  have dA : Dr p H H3 := (d1.same s2).trans d3
  have ll : ((List.range m).map nV).length = m := by rw [List.length_map, List.length_range]
  have fin : ∀ (D : Addr) (rs : List Addr) (H' : Hp) (E : Nat → Nat → Nat), Same H3 H' → RowsAt H' D rs (fun a => (List.range m).map (E a)) → rs.length = m → (∀ a b, a < m → b < m → E a b ≤ 1000) →
    ∃ p0 ys, [V.ref D] = [V.ref p0] ∧ ((SqL K H' p0 ys ∧ ∀ l0, H' l0 = none → Q (.ref l0) (upd H' l0 (.tup ys))) ∨ (SqT K H' p0 ys ∧ Q (.ref p0) H')) := fun D rs H' E sm RR rl hb =>
   ⟨D, _, rfl, .inl ⟨.of RR.1, fun gg ngg => q gg _ _ (dA.same (sm.trans (Same.upd ngg))) (GT_of RR rl (Same.upd ngg) upd_same) (sm_of (by omega) hb)⟩⟩
  refine ⟨_, rfl, rfl, _, rfl, ite2 (fun _ => ?_) (fun _ => ?_)⟩
  ·refine ⟨_, rfl, l, rfl, ⟨_, .of hL3⟩, ?_⟩
   refine comp_rows (seq_lst (K := K) (.of hL3)) [some (.int (m : Nat)), some (.ref l)] rfl (by omega) (fun a => (List.range m).map (eMul m a)) (fun a ha H' s' R k => ?_) (fun D rs H' nD s' RR rl => fin D rs H' (eMul m) s' RR rl (fun a b ha hb => ?_))
   ·have hL4 := s' _ _ hL3
    refine ⟨_, rfl, l, rfl, ⟨_, .of hL4⟩, ?_⟩
    refine comp_map (seq_lst (K := K) (.of hL4)) [some (.int (a : Nat)), some (.int (m : Nat))] rfl (fE (eMul m a)) (by rw [ll]; omega) (fun i x HC hx sC R'' g2 => ?_) (fun D HD nD sD hD => ?_)
    ·obtain ⟨hi, rfl⟩ := range_get hx
     have this := g2 HC (Same.refl _)
     have e : fE (eMul m a) (.int (i : Nat)) = V.int ((a : Int) * (i : Int) % (m : Int)) := by
      show V.int ((a * (i : Int).toNat % m : Nat) : Int) = _
      rw [Int.toNat_natCast]
      push_cast
      rfl
     rw [e] at this
     exact ⟨_, rfl, _, rfl, _, _, rfl, rfl, .inl ⟨by omega, by omega⟩, _, rfl, _, _, rfl, rfl, (by show (0 : Int) < (m : Nat); omega), this⟩
    ·rw [fE_map] at hD
     exact ⟨D, _, rfl, .of hD, fun r H5 nr s5 hz => k r H5 (sD.trans s5) hz⟩
   ·have := Nat.mod_lt (a * b) (show 0 < m by omega); show a * b % m ≤ 1000; omega
  refine ⟨_, rfl, rfl, _, rfl, ite2 (fun _ => ?_) (fun _ => ?_)⟩
  ·refine ⟨_, rfl, l, rfl, ⟨_, .of hL3⟩, ?_⟩
   refine comp_rows (seq_lst (K := K) (.of hL3)) [some (.ref l)] rfl (by omega) (fun a => (List.range m).map (eMax a)) (fun a ha H' s' R k => ?_) (fun D rs H' nD s' RR rl => fin D rs H' (eMax) s' RR rl (fun a b ha hb => ?_))
   ·have hL4 := s' _ _ hL3
    refine ⟨_, rfl, l, rfl, ⟨_, .of hL4⟩, ?_⟩
    refine comp_map (seq_lst (K := K) (.of hL4)) [some (.int (a : Nat))] rfl (fE (eMax a)) (by rw [ll]; omega) (fun i x HC hx sC R'' g2 => ?_) (fun D HD nD sD hD => ?_)
    ·obtain ⟨hi, rfl⟩ := range_get hx
     have this := g2 HC (Same.refl _)
     have e : fE (eMax a) (.int (i : Nat)) = V.int (if (i : Int) > (a : Int) then (i : Int) else (a : Int)) := by
      show V.int ((eMax a (i : Int).toNat : Nat) : Int) = _
      rw [Int.toNat_natCast]
      unfold eMax
      congr 1
      split <;> split <;> omega
     rw [e] at this
     exact ⟨_, rfl, _, rfl, _, _, rfl, this⟩
    ·rw [fE_map] at hD
     exact ⟨D, _, rfl, .of hD, fun r H5 nr s5 hz => k r H5 (sD.trans s5) hz⟩
   ·show (if b > a then b else a) ≤ 1000; split <;> omega
  refine ⟨_, rfl, rfl, _, rfl, ite2 (fun _ => ?_) (fun _ => ?_)⟩
  ·refine ⟨_, rfl, l, rfl, ⟨_, .of hL3⟩, ?_⟩
   refine comp_rows (seq_lst (K := K) (.of hL3)) [some (.int (m : Nat)), some (.ref l)] rfl (by omega) (fun a => (List.range m).map (eSub m a)) (fun a ha H' s' R k => ?_) (fun D rs H' nD s' RR rl => fin D rs H' (eSub m) s' RR rl (fun a b ha hb => ?_))
   ·have hL4 := s' _ _ hL3
    refine ⟨_, rfl, l, rfl, ⟨_, .of hL4⟩, ?_⟩
    refine comp_map (seq_lst (K := K) (.of hL4)) [some (.int (a : Nat)), some (.int (m : Nat))] rfl (fE (eSub m a)) (by rw [ll]; omega) (fun i x HC hx sC R'' g2 => ?_) (fun D HD nD sD hD => ?_)
    ·obtain ⟨hi, rfl⟩ := range_get hx
     have this := g2 HC (Same.refl _)
     have e : fE (eSub m a) (.int (i : Nat)) = V.int (((a : Int) - (i : Int)) % (m : Int)) := by
      show V.int ((eSub m a (i : Int).toNat : Nat) : Int) = _
      rw [Int.toNat_natCast]
      unfold eSub
      rw [Int.toNat_of_nonneg (Int.emod_nonneg _ (by omega))]
     rw [e] at this
     exact ⟨_, rfl, _, rfl, _, _, rfl, rfl, _, rfl, _, _, rfl, rfl, (by show (0 : Int) < (m : Nat); omega), this⟩
    ·rw [fE_map] at hD
     exact ⟨D, _, rfl, .of hD, fun r H5 nr s5 hz => k r H5 (sD.trans s5) hz⟩
   ·have h1 := Int.emod_nonneg ((a : Int) - (b : Int)) (show (m : Int) ≠ 0 by omega); have h2 := Int.emod_lt_of_pos ((a : Int) - (b : Int)) (show (0 : Int) < (m : Int) by omega); show (((a : Int) - (b : Int)) % (m : Int)).toNat ≤ 1000; omega
  refine ⟨(by show 0 ≤ sizeLine; decide), fun L nL => ?_⟩
  have nLp : L ≠ p := F3.ne_none nL
  have s4 := Same.upd (H := H3) (o := .lst []) nL
  refine ⟨_, rfl, l, rfl, ⟨_, .of (s4 _ _ hL3)⟩, ?_⟩
  refine for_list (K := K) (a := l) (xs := (List.range m).map nV) (fun i σ' H' => ∃ (bs : List Addr) (yss : List (List Nat)) (v5 v6 : Option V), σ' = [some (.ref p), some (.int (m : Nat)), some (.ref l), some (.int r2), some (.ref L), v5, v6] ∧ Dr p H3 H' ∧ TupsAt H' L bs yss ∧ yss.length = i ∧ ∀ row ∈ yss, row.length ≤ 60 ∧ ∀ x ∈ row, x ≤ 1000)
   ⟨[], [], _, _, rfl, Dr.of s4, ⟨upd_same, rfl, fun i b hb => by cases hb⟩, rfl, fun row hr => by cases hr⟩ (fun i σ' H' _ h => by
    obtain ⟨_, _, _, _, _, d, _⟩ := h
    exact .of (d.keep _ _ hL3 nlp)) ?_ ?_
  ·rintro i y σ' H' hy ⟨bs, yss, v5, v6, rfl, d4, R, yl, hrow⟩
   obtain ⟨hi, rfl⟩ := range_get hy
   have hL4 := d4.keep _ _ hL3 nlp
   have F4 := d4.feed F3
   refine ⟨_, rfl, l, rfl, ⟨_, .of hL4⟩, ?_⟩
   refine comp_gen (xs := (List.range m).map nV) (fun D j ys HH => Dr p H' HH ∧ ∃ zs : List Nat, ys = zs.map nV ∧ ∀ z ∈ zs, z ≤ 1000) [some (.ref p), some (.int (m : Nat)), some (.int (i : Nat))] rfl (by rw [ll]; omega) ?_ ?_ ?_ ?_
   ·intro D j ys HH hD hD' pp
    have S := seq_lst (K := K) (H := HH) (.of (pp.1.keep _ _ hL4 nlp))
    exact ⟨fun hj => ⟨S.go j HH (Same.refl _) hj, fun x H5 y => S.yld j HH x H5 (Same.refl _) hj y⟩, fun e => e ▸ S.stop HH (Same.refl _)⟩
   ·intro D hD
    exact ⟨Dr.refl.updN hD, [], rfl, fun z hz => by cases hz⟩
   ·rintro D j x ys HH hD hD' hx ⟨d5, zs, rfl, hzs⟩ R' k
    obtain ⟨hj, rfl⟩ := range_get hx
    have F5 := d5.feed F4
    have nDp : D ≠ p := F4.ne_none hD
    refine ⟨_, rfl, _, rfl, p, _, rfl, F5, by omega, log_small (by omega) (by omega), fun r H6 b0 b1 d6 => ⟨_, rfl, _, rfl, rfl, .inr ⟨_, rfl, _, _, rfl, rfl, .inl ⟨by omega, by omega⟩, ?_⟩⟩⟩
    obtain ⟨rn, rfl⟩ := Int.eq_ofNat_of_zero_le b0
    have hv : ∃ z : Nat, z ≤ 1000 ∧ ∀ bb : Bool, (rn : Int) * (if bb = true then 1 else 0) = ((if bb = true then rn else 0 : Nat) : Int) := ⟨0, by omega, fun bb => by cases bb <;> simp⟩
    obtain ⟨_, _, hv⟩ := hv
    show R' (V.int ((rn : Int) * (if (!decide (V.int (i : Int) = V.int (j : Int))) = true then 1 else 0))) H6
    rw [hv]
    refine k _ H6 (d6.keep D _ hD' nDp) ⟨(d5.trans d6).updN hD, zs ++ [_], by rw [List.map_append]; rfl, fun z hz => ?_⟩
    rcases List.mem_append.mp hz with h | h
    ·exact hzs z h
    ·rw [List.mem_singleton.mp h]
     split <;> omega
   rintro D ys H5 hD hD' hyl ⟨d5, zs, rfl, hzs⟩
   rw [List.length_map, ll] at hyl
   have hL5 := d5.keep _ _ hL4 nlp
   have F5 := d5.feed F4
   have R5 : TupsAt H5 L bs yss := ⟨d5.keep _ _ R.1 nLp, R.2.1, fun i b hb => d5.tup F4 (R.2.2 i b hb)⟩
   refine ⟨_, rfl, .inl ⟨rfl, _, .of R5.1⟩, _, rfl, l, rfl, ⟨_, .of hL5⟩, ?_⟩
   refine comp_map (seq_lst (K := K) (.of hL5)) [some (.int (i : Nat)), some (.ref D)] rfl (fE fun b => if b = 0 then i else if i = 0 then b else zs.getD b 0) (by rw [ll]; omega) (fun j x HC hx sC R'' g2 => ?_) (fun D2 HD nD sD hD2 => ?_)
   ·obtain ⟨hj, rfl⟩ := range_get hx
    have this := g2 HC (Same.refl _)
    have e : fE (fun b => if b = 0 then i else if i = 0 then b else zs.getD b 0) (.int (j : Nat)) = nV (if j = 0 then i else if i = 0 then j else zs.getD j 0) := by
     show nV (if (j : Int).toNat = 0 then i else if i = 0 then (j : Int).toNat else zs.getD (j : Int).toNat 0) = _
     rw [Int.toNat_natCast]
    rw [e] at this
    have dj : decide (V.int (j : Int) = V.int 0) = decide (j = 0) := decN (j := 0)
    have di : decide (V.int (i : Int) = V.int 0) = decide (i = 0) := decN (j := 0)
    refine ⟨_, rfl, rfl, _, rfl, ?_⟩
    rw [dj]
    refine ite2 (fun h0 => ?_) (fun h0 => ?_)
    ·rw [if_pos (of_decide_eq_true h0)] at this
     exact ⟨_, rfl, this⟩
    have h0 : ¬ j = 0 := fun z => h0 (decide_eq_true z)
    rw [if_neg h0] at this
    refine ⟨_, rfl, rfl, _, rfl, ?_⟩
    rw [di]
    refine ite2 (fun h1 => ?_) (fun h1 => ?_)
    ·rw [if_pos (of_decide_eq_true h1)] at this
     exact ⟨_, rfl, this⟩
    have h1 : ¬ i = 0 := fun z => h1 (decide_eq_true z)
    rw [if_neg h1] at this
    exact ⟨_, rfl, _, rfl, D, _, _, _, rfl, rfl, .of (sC _ _ hD'), nv_at (by omega), this⟩
   ·rw [fE_map] at hD2
    refine ⟨D2, _, rfl, .of hD2, fun tr H6 nt s6 hz => ?_⟩
    have R6 := R5.mono (sD.trans s6)
    have zl := R6.2.1
    refine ⟨L, _, _, rfl, rfl, R6.1, by rw [List.length_map]; omega, ?_⟩
    refine ⟨bs ++ [tr], yss ++ [_], _, _, rfl, ((d4.trans d5).same (sD.trans s6)).updN nL, R6.push hz, by rw [List.length_append, yl]; rfl, fun row hr => ?_⟩
    rcases List.mem_append.mp hr with h | h
    ·exact hrow row h
    ·rw [List.mem_singleton.mp h]
     refine ⟨by rw [List.length_map, List.length_range]; omega, fun x hx => ?_⟩
     obtain ⟨b, hb, rfl⟩ := List.mem_map.mp hx
     have hb := List.mem_range.mp hb
     have hz0 : zs.getD b 0 ≤ 1000 := by
      rw [List.getD_eq_getElem?_getD, List.getElem?_eq_getElem (by omega)]
      exact hzs _ (List.getElem_mem _)
     split
     ·omega
     ·split <;> omega
  ·rintro σ' H' ⟨bs, yss, v5, v6, rfl, d4, R, yl, hrow⟩
   rw [ll] at yl
   refine ⟨_, rfl, L, _, rfl, .inl ⟨.of R.1, fun gg ngg => ?_⟩⟩
   have sg := Same.upd (o := .tup (bs.map V.ref)) ngg
   refine q gg yss _ ((dA.trans d4).same sg) ⟨bs, upd_same, R.2.1, fun i r hr => sg _ _ (R.2.2 i r hr)⟩ ⟨by omega, hrow⟩
end
def LeafV : V → Prop
 | .int z => z.natAbs < 2 ^ 200
 | .bl _ => True
 | .non => True
 | .str x => x = "0" ∨ x = ""
 | _ => False
def Nk (av : List Addr) (H : Hp) : List Nat → V → Prop
 | [], x => LeafV x
 | w :: ws, x => LeafV x ∨ ∃ (a : Addr) (xs : List V), x = .ref a ∧ a ∉ av ∧ (H a = some (.tup xs) ∨ H a = some (.lst xs)) ∧ xs.length ≤ w ∧ ∀ y ∈ xs, Nk av H ws y
theorem Nk.keep {av : List Addr} {H H' : Hp} (k : ∀ b o, H b = some o → b ∉ av → H' b = some o) : ∀ {ws : List Nat} {x : V}, Nk av H ws x → Nk av H' ws x
 | [], _, h => h
 | _ :: _, _, .inl h => .inl h
 | _ :: _, _, .inr ⟨a, xs, h1, h2, h3, h4, h5⟩ => .inr ⟨a, xs, h1, h2, h3.imp (fun h => k _ _ h h2) (fun h => k _ _ h h2), h4, fun y hy => Nk.keep k (h5 y hy)⟩
theorem Nk.more {av : List Addr} {H : Hp} {L : Addr} (hL : H L = none) : ∀ {ws : List Nat} {x : V}, Nk av H ws x → Nk (L :: av) H ws x
 | [], _, h => h
 | _ :: _, _, .inl h => .inl h
 | _ :: _, _, .inr ⟨a, xs, h1, h2, h3, h4, h5⟩ => .inr ⟨a, xs, h1, fun z => by
   rcases List.mem_cons.mp z with z | z
   ·subst z
    rcases h3 with h3 | h3 <;> (rw [hL] at h3; cases h3)
   ·exact h2 z, h3, h4, fun y hy => Nk.more hL (h5 y hy)⟩
def bk : List Nat → Nat
 | [] => 1
 | w :: ws => w * (bk ws + 1) + 1
theorem bk_pos : ∀ ws, 1 ≤ bk ws
 | [] => Nat.le_refl _
 | w :: ws => by unfold bk; omega
structure Sml (k b : Nat) (d : PyData) : Prop where
 sh : d.showable = true
 nd : d.hasDict = false
 dp : d.depth ≤ k
 lv : d.leavesShort 300 = true
 bl : d.bulk ≤ b
theorem Sml.le {k b k' b' : Nat} {d : PyData} (h : Sml k b d) (hk : k ≤ k') (hb : b ≤ b') : Sml k' b' d := ⟨h.sh, h.nd, Nat.le_trans h.dp hk, h.lv, Nat.le_trans h.bl hb⟩
theorem Sml.all {k b : Nat} : ∀ {ds : List PyData}, (∀ d ∈ ds, Sml k b d) → PyData.showableAll ds = true ∧ PyData.hasDictAll ds = false ∧ PyData.depthAll ds ≤ k ∧ PyData.leavesShortAll 300 ds = true ∧ PyData.bulkAll ds ≤ ds.length * (b + 1)
 | [], _ => ⟨rfl, rfl, Nat.zero_le _, rfl, Nat.zero_le _⟩
 | d :: ds, h => by
  obtain ⟨h1, h2, h3, h4, h5⟩ := Sml.all (ds := ds) fun e he => h e (List.mem_cons_of_mem _ he)
  have hd := h d List.mem_cons_self
  refine ⟨?_, ?_, ?_, ?_, ?_⟩
  ·simp only [PyData.showableAll, hd.sh, h1, Bool.and_self]
  ·simp only [PyData.hasDictAll, hd.nd, h2, Bool.or_self]
  ·simp only [PyData.depthAll]
   exact Nat.max_le.mpr ⟨hd.dp, h3⟩
  ·simp only [PyData.leavesShortAll, hd.lv, h4, Bool.and_self]
  ·simp only [PyData.bulkAll, List.length_cons]
   have := hd.bl
   rw [Nat.succ_mul]
   omega
theorem Sml.fit {k b : Nat} {d : PyData} (h : Sml k b d) (hk : k ≤ 60) (hb : b ≤ 50000) : FitD d := by
 refine ⟨h.sh, h.nd, Nat.le_trans h.dp hk, ?_⟩
 have := PyData.shown_le_bulk 300 (by decide) d h.lv
 have h5 := h.bl
 have e : (16777216 : Nat) = sizeLine := by decide
 omega
theorem leaf_dat {K : PySem.W.Frag} {H : Hp} {x : V} (h : LeafV x) : ∃ d, RdD K H x d ∧ Sml 0 1 d := by
 cases x with
 | int z =>
  obtain ⟨h1, _, _, h4, _, _⟩ := showAll_ints (ns := [z]) (fun n hn => by rw [List.mem_singleton.mp hn]; exact h)
  simp only [List.map_cons, List.map_nil, PyData.showableAll, PyData.leavesShortAll, Bool.and_true] at h1 h4
  exact ⟨_, .int z, h1, rfl, Nat.zero_le _, h4, Nat.zero_le _⟩
 | bl b => exact ⟨_, .bl b, rfl, rfl, Nat.zero_le _, rfl, Nat.zero_le _⟩
 | non => exact ⟨_, .non, rfl, rfl, Nat.zero_le _, rfl, Nat.zero_le _⟩
 | str y =>
  rcases h with h | h
  ·subst h
   exact ⟨_, .str _, rfl, rfl, Nat.zero_le _, by decide, by decide⟩
  ·subst h
   exact ⟨_, .str _, rfl, rfl, Nat.zero_le _, by decide, by decide⟩
 | _ => exact h.elim
theorem RdDs.of {K : PySem.W.Frag} {H : Hp} {k b : Nat} : ∀ {xs : List V}, (∀ y ∈ xs, ∃ d, RdD K H y d ∧ Sml k b d) → ∃ ds, RdDs K H xs ds ∧ ds.length = xs.length ∧ ∀ d ∈ ds, Sml k b d
 | [], _ => ⟨[], .nil, rfl, fun d hd => by cases hd⟩
 | x :: xs, h => by
  obtain ⟨ds, h1, h2, h3⟩ := RdDs.of (xs := xs) fun y hy => h y (List.mem_cons_of_mem _ hy)
  obtain ⟨d, h4, h5⟩ := h x List.mem_cons_self
  refine ⟨d :: ds, .cons h4 h1, by rw [List.length_cons, List.length_cons, h2], fun e he => ?_⟩
  rcases List.mem_cons.mp he with he | he
  ·rw [he]; exact h5
  ·exact h3 e he
theorem Nk.dat {K : PySem.W.Frag} {av : List Addr} {H : Hp} : ∀ {ws : List Nat} {x : V}, Nk av H ws x → ∃ d, RdD K H x d ∧ Sml ws.length (bk ws) d
 | [], _, h => leaf_dat h
 | w :: ws, _, .inl h => by
  obtain ⟨d, h1, h2⟩ := leaf_dat (K := K) (H := H) h
  exact ⟨d, h1, h2.le (Nat.zero_le _) (bk_pos _)⟩
 | w :: ws, _, .inr ⟨a, xs, h1, h2, h3, h4, h5⟩ => by
  subst h1
  obtain ⟨ds, r1, r2, r3⟩ := RdDs.of (K := K) (k := ws.length) (b := bk ws) fun y hy => Nk.dat (h5 y hy)
  obtain ⟨g1, g2, g3, g4, g5⟩ := Sml.all r3
  have hb : PyData.bulkAll ds ≤ bk (w :: ws) := by
   have : ds.length * (bk ws + 1) ≤ w * (bk ws + 1) := Nat.mul_le_mul_right _ (by omega)
   unfold bk
   omega
  rcases h3 with h3 | h3
  ·exact ⟨_, .tup (.of h3) r1, by simp only [PyData.showable]; exact g1, by simp only [PyData.hasDict]; exact g2, by simp only [PyData.depth, List.length_cons]; omega, by simp only [PyData.leavesShort]; exact g4, by simp only [PyData.bulk]; exact hb⟩
  ·exact ⟨_, .lst (.of h3) r1, by simp only [PyData.showable]; exact g1, by simp only [PyData.hasDict]; exact g2, by simp only [PyData.depth, List.length_cons]; omega, by simp only [PyData.leavesShort]; exact g4, by simp only [PyData.bulk]; exact hb⟩
theorem leaf_kd {K : PySem.W.Frag} {H : Hp} {x : V} (h : LeafV x) : ∃ n, Kd K H x n ∧ n ≠ "tuple" := by
 cases x with
 | int z => exact ⟨_, ⟨.int z, by decide⟩, by decide⟩
 | bl b => exact ⟨_, ⟨.bl b, by decide⟩, by decide⟩
 | non => exact ⟨_, ⟨.non, by decide⟩, by decide⟩
 | str y => exact ⟨_, ⟨.str y, by decide⟩, by decide⟩
 | _ => exact h.elim
theorem Nk.kd {K : PySem.W.Frag} {av : List Addr} {H : Hp} : ∀ {ws : List Nat} {x : V}, Nk av H ws x → ∃ n, Kd K H x n
 | [], _, h => let ⟨n, h1, _⟩ := leaf_kd h; ⟨n, h1⟩
 | _ :: _, _, .inl h => let ⟨n, h1, _⟩ := leaf_kd h; ⟨n, h1⟩
 | _ :: _, _, .inr ⟨a, xs, h1, h2, h3, h4, h5⟩ => by
  subst h1
  rcases h3 with h3 | h3
  ·exact ⟨"tuple", .tup h3, by decide⟩
  ·exact ⟨"list", .lst h3, by decide⟩
theorem Nk.ti {K : PySem.W.Frag} {av : List Addr} {H : Hp} : ∀ {ws : List Nat} {x : V}, (∀ w ∈ ws, w ≤ 1000) → Nk av H ws x → ∃ o, Ti K H x o
 | [], _, _, h => let ⟨n, h1, h2⟩ := leaf_kd h; ⟨none, .other h1 h2⟩
 | _ :: _, _, _, .inl h => let ⟨n, h1, h2⟩ := leaf_kd h; ⟨none, .other h1 h2⟩
 | w :: _, _, hw, .inr ⟨a, xs, h1, h2, h3, h4, h5⟩ => by
  subst h1
  rcases h3 with h3 | h3
  ·exact ⟨some xs, .tup h3 (Nat.le_trans h4 (hw w List.mem_cons_self)) fun y hy => (h5 y hy).kd⟩
  ·exact ⟨none, .other (n := "list") ⟨.lst h3, by decide⟩ (by decide)⟩
theorem ti_all {K : PySem.W.Frag} {H : Hp} : ∀ {xs : List V}, (∀ y ∈ xs, ∃ o, Ti K H y o) → ∃ os : List (Option (List V)), os.length = xs.length ∧ ∀ (i : Nat) y, xs[i]? = some y → Ti K H y (os.getD i none)
 | [], _ => ⟨[], rfl, fun i y h => by cases h⟩
 | x :: xs, h => by
  obtain ⟨os, h1, h2⟩ := ti_all (xs := xs) fun y hy => h y (List.mem_cons_of_mem _ hy)
  obtain ⟨o, h3⟩ := h x List.mem_cons_self
  refine ⟨o :: os, by rw [List.length_cons, List.length_cons, h1], fun i y hy => ?_⟩
  cases i with
  | zero =>
   cases hy
   exact h3
  | succ i =>
   rw [List.getElem?_cons_succ] at hy
   exact h2 i y hy
theorem Nk.t2 {K : PySem.W.Frag} {av : List Addr} {H : Hp} : ∀ {ws : List Nat} {x : V}, (∀ w ∈ ws, w ≤ 1000) → Nk av H ws x → ∃ o, T2 K H x o
 | [], _, _, h => let ⟨n, h1, h2⟩ := leaf_kd h; ⟨none, .other h1 h2⟩
 | _ :: _, _, _, .inl h => let ⟨n, h1, h2⟩ := leaf_kd h; ⟨none, .other h1 h2⟩
 | w :: ws, _, hw, .inr ⟨a, xs, h1, h2, h3, h4, h5⟩ => by
  subst h1
  rcases h3 with h3 | h3
  ·obtain ⟨os, e1, e2⟩ := ti_all (K := K) fun y hy => (h5 y hy).ti fun w' hw' => hw w' (List.mem_cons_of_mem _ hw')
   exact ⟨some os, .tup h3 (Nat.le_trans h4 (hw w List.mem_cons_self)) e1 e2⟩
  ·exact ⟨none, .other (n := "list") ⟨.lst h3, by decide⟩ (by decide)⟩
def Tg (av : List Addr) (H : Hp) (x : V) : Prop := Nk av H [62, 62] x ∨ Nk av H [1, 62, 62] x ∨ ∃ a, x = .ref a ∧ a ∉ av ∧ H a = some (.dK [])
theorem Tg.keep {av : List Addr} {H H' : Hp} (k : ∀ b o, H b = some o → b ∉ av → H' b = some o) {x : V} (h : Tg av H x) : Tg av H' x := by
 rcases h with h | h | ⟨a, h1, h2, h3⟩
 ·exact .inl (h.keep k)
 ·exact .inr (.inl (h.keep k))
 ·exact .inr (.inr ⟨a, h1, h2, k _ _ h3 h2⟩)
theorem Tg.mono {av : List Addr} {H H' : Hp} (s : Same H H') {x : V} (h : Tg av H x) : Tg av H' x := h.keep fun b o e _ => s b o e
theorem Tg.dr {p : Addr} {av : List Addr} {H H' : Hp} (hp : p ∈ av) (d : Dr p H H') {x : V} (h : Tg av H x) : Tg av H' x := h.keep fun b o e hb => d.keep b o e fun z => hb (z ▸ hp)
theorem Tg.upd {L : Addr} {av : List Addr} {H : Hp} (hL : L ∈ av) {o : HO} {x : V} (h : Tg av H x) : Tg av (L2.upd H L o) x := h.keep fun b o' e hb => by
 have hne : b ≠ L := fun z => hb (by rw [z]; exact hL)
 rw [upd_ne hne]
 exact e
theorem Tg.more {av : List Addr} {H : Hp} {L : Addr} (hL : H L = none) {x : V} (h : Tg av H x) : Tg (L :: av) H x := by
 rcases h with h | h | ⟨a, h1, h2, h3⟩
 ·exact .inl (h.more hL)
 ·exact .inr (.inl (h.more hL))
 ·refine .inr (.inr ⟨a, h1, fun z => ?_, h3⟩)
  rcases List.mem_cons.mp z with z | z
  ·rw [z, hL] at h3; cases h3
  ·exact h2 z
theorem Tg.use {K : PySem.W.Frag} {av : List Addr} {H : Hp} {x : V} (h : Tg av H x) : (∃ o, T2 K H x o) ∧ ∃ t, Shd K H x t := by
 rcases h with h | h | ⟨a, rfl, h2, h3⟩
 ·obtain ⟨d, h1, h2⟩ := h.dat (K := K)
  exact ⟨h.t2 (by decide), _, .inl ⟨d, h1, h2.fit (by decide) (by decide), rfl⟩⟩
 ·obtain ⟨d, h1, h2⟩ := h.dat (K := K)
  exact ⟨h.t2 (by decide), _, .inl ⟨d, h1, h2.fit (by decide) (by decide), rfl⟩⟩
 ·exact ⟨⟨none, .other (n := "dict") ⟨.dK h3, by decide⟩ (by decide)⟩, _, .inr ⟨a, rfl, h3, rfl⟩⟩
theorem nk_leaf {av : List Addr} {H : Hp} {x : V} (h : LeafV x) : ∀ ws, Nk av H ws x
 | [] => h
 | _ :: _ => .inl h
theorem nk_tup {av : List Addr} {H : Hp} {a : Addr} {xs : List V} {w : Nat} {ws : List Nat} (h : H a = some (.tup xs)) (ha : a ∉ av) (hw : xs.length ≤ w) (he : ∀ y ∈ xs, Nk av H ws y) : Nk av H (w :: ws) (.ref a) := .inr ⟨a, xs, rfl, ha, .inl h, hw, he⟩
theorem nk_lst {av : List Addr} {H : Hp} {a : Addr} {xs : List V} {w : Nat} {ws : List Nat} (h : H a = some (.lst xs)) (ha : a ∉ av) (hw : xs.length ≤ w) (he : ∀ y ∈ xs, Nk av H ws y) : Nk av H (w :: ws) (.ref a) := .inr ⟨a, xs, rfl, ha, .inr h, hw, he⟩
theorem leaf_nat {n : Nat} (h : n ≤ 1000) : LeafV (.int (n : Nat)) := by
 show (n : Int).natAbs < 2 ^ 200
 rw [Int.natAbs_natCast]
 exact Nat.lt_of_le_of_lt h (by decide)
abbrev sBent : Stmt := top 37
def TL (H : Hp) (n : Nat) (xs : List V) : Prop := ∀ y ∈ xs, ∃ (r : Addr) (zs : List V), y = .ref r ∧ H r = some (.tup zs) ∧ zs.length = n ∧ ∀ z ∈ zs, LeafV z
theorem TL.keep {H H' : Hp} {n : Nat} {xs : List V} (k : ∀ r zs, H r = some (.tup zs) → H' r = some (.tup zs)) (h : TL H n xs) : TL H' n xs := fun y hy => by
 obtain ⟨r, zs, h1, h2, h3⟩ := h y hy
 exact ⟨r, zs, h1, k _ _ h2, h3⟩
theorem TL.mono {H H' : Hp} {n : Nat} {xs : List V} (s : Same H H') (h : TL H n xs) : TL H' n xs := h.keep fun _ _ e => s _ _ e
theorem TL.dr {p : Addr} {H H' : Hp} {n : Nat} {xs : List V} (F : Feed H p) (d : Dr p H H') (h : TL H n xs) : TL H' n xs := h.keep fun _ _ e => d.tup F e
theorem TL.updL {l : Addr} {ys : List V} {o : HO} {H : Hp} {n : Nat} {xs : List V} (hl : H l = some (.lst ys)) (h : TL H n xs) : TL (upd H l o) n xs := h.keep fun r zs e => by
 rw [upd_ne fun z => by rw [z, hl] at e; cases e]
 exact e
theorem TL.sub {H : Hp} {n : Nat} {xs ys : List V} (h : TL H n xs) (hs : ∀ y ∈ ys, y ∈ xs) : TL H n ys := fun y hy => h y (hs y hy)
theorem TL.row {H : Hp} {n a : Nat} {xs : List V} (h : TL H n xs) (ha : a < xs.length) : ∃ (r : Addr) (zs : List V), xs[a]? = some (.ref r) ∧ H r = some (.tup zs) ∧ zs.length = n ∧ ∀ z ∈ zs, LeafV z := by
 obtain ⟨r, zs, h1, h2⟩ := h _ (List.getElem_mem ha)
 exact ⟨r, zs, by rw [List.getElem?_eq_getElem ha, h1], h2⟩
structure AV (av : List Addr) (p : Addr) (H : Hp) : Prop where
 feed : Feed H p
 mem : p ∈ av
 all : ∀ b ∈ av, ∃ ys, H b = some (.lst ys)
theorem AV.dr {av : List Addr} {p : Addr} {H H' : Hp} (A : AV av p H) (d : Dr p H H') : AV av p H' := by
 have F' := d.feed A.feed
 refine ⟨F', A.mem, fun b hb => ?_⟩
 by_cases e : b = p
 ·subst e
  obtain ⟨q, ns, i, j, k, F⟩ := F'
  exact ⟨_, F.hp⟩
 ·obtain ⟨ys, h⟩ := A.all b hb
  exact ⟨ys, d.keep b _ h e⟩
theorem AV.mono {av : List Addr} {p : Addr} {H H' : Hp} (A : AV av p H) (s : Same H H') : AV av p H' := A.dr (.of s)
theorem AV.tup {av : List Addr} {p a : Addr} {H : Hp} {xs : List V} (A : AV av p H) (h : H a = some (.tup xs)) : a ∉ av := fun z => by
 obtain ⟨ys, e⟩ := A.all a z
 rw [h] at e
 cases e
theorem AV.none {av : List Addr} {p a : Addr} {H : Hp} (A : AV av p H) (h : H a = none) : a ∉ av := fun z => by
 obtain ⟨ys, e⟩ := A.all a z
 rw [h] at e
 cases e
theorem TL.nk {av : List Addr} {p : Addr} {H : Hp} {n : Nat} {xs : List V} (A : AV av p H) (hn : n ≤ 62) (h : TL H n xs) : ∀ y ∈ xs, Nk av H [62] y := fun y hy => by
 obtain ⟨r, zs, rfl, h2, h3, h4⟩ := h y hy
 exact nk_tup h2 (A.tup h2) (by omega) fun z hz => h4 z hz
theorem TL.tg {av : List Addr} {p g : Addr} {H : Hp} {n : Nat} {xs : List V} (A : AV av p H) (hn : n ≤ 62) (hg : H g = some (.tup xs)) (hx : xs.length ≤ 62) (h : TL H n xs) : Tg av H (.ref g) := .inl (nk_tup hg (A.tup hg) hx (h.nk A hn))
theorem TL.of {H : Hp} {g : Addr} {t : List (List Nat)} (S : Sh t) (G : GT H g t) : ∃ xs, H g = some (.tup xs) ∧ xs.length = t.length ∧ TL H t.length xs := by
 obtain ⟨rs, h1, h2, h3⟩ := G
 refine ⟨_, h1, by rw [List.length_map, h2], fun y hy => ?_⟩
 obtain ⟨r, hr, rfl⟩ := List.mem_map.mp hy
 obtain ⟨i, hi⟩ := List.getElem?_of_mem hr
 have il : i < t.length := by rw [← h2]; exact (List.getElem?_eq_some_iff.mp hi).1
 refine ⟨r, _, rfl, h3 i r hi, by rw [List.length_map, S.rlen il], fun z hz => ?_⟩
 obtain ⟨k, hk, rfl⟩ := List.mem_map.mp hz
 have := S.lt _ (S.row il) k hk
 have := S.n60
 exact leaf_nat (by omega)
theorem TL.set {H : Hp} {n a b : Nat} {xs zs : List V} {r : Addr} {y : V} (h : TL H n xs) (hr : H r = some (.tup (zs.set b y))) (hz : zs.length = n) (he : ∀ z ∈ zs, LeafV z) (hy : LeafV y) : TL H n (xs.set a (.ref r)) := fun x hx => by
 rcases List.mem_or_eq_of_mem_set hx with hx | hx
 ·exact h x hx
 ·refine ⟨r, _, hx, hr, by rw [List.length_set, hz], fun z hz' => ?_⟩
  rcases List.mem_or_eq_of_mem_set hz' with hz' | hz'
  ·exact he z hz'
  ·rw [hz']; exact hy
theorem sh_of {t : List (List Nat)} (P : PW t) : Sh t := by
 refine ⟨P.n1, P.n60, P.len, fun row hr x hx => ?_⟩
 obtain ⟨i, hi⟩ := List.getElem?_of_mem hr
 obtain ⟨j, hj⟩ := List.getElem?_of_mem hx
 have il : i < t.length := (List.getElem?_eq_some_iff.mp hi).1
 have jl : j < t.length := by rw [← P.len row hr]; exact (List.getElem?_eq_some_iff.mp hj).1
 have e : mul t i j = x := by
  unfold mul
  rw [List.getD_eq_getElem?_getD, List.getD_eq_getElem?_getD, hi]
  show Option.getD row[j]? 0 = x
  rw [hj]
  rfl
 rw [← e]
 exact P.lt i j il jl
theorem mem_cut {xs : List V} {lo hi : Option Int} {y : V} (h : y ∈ cutV xs lo hi) : y ∈ xs := by
 unfold cutV at h
 exact List.mem_of_mem_drop (List.mem_of_mem_take h)
theorem cut_whole {xs : List V} {lo hi : Option Int} (hw : HT.sIx xs.length 0 lo = 0 ∧ HT.sIx xs.length xs.length hi = xs.length) : cutV xs lo hi = xs := by
 unfold cutV
 rw [hw.1, hw.2, List.drop_zero, Nat.sub_zero, List.take_length]
theorem cut_any {K : PySem.W.Frag} {H : Hp} {g : Addr} {xs : List V} {lo hi : Option Int} {Q : VK} (hg : H g = some (.tup xs)) (q : ∀ c H', Same H H' → H' c = some (.tup (cutV xs lo hi)) → Q (.ref c) H') :
  (rSlT K (.ref g) lo hi H Q) ∨ (rSlW K (.ref g) lo hi H Q) := by
 by_cases hw : HT.sIx xs.length 0 lo = 0 ∧ HT.sIx xs.length xs.length hi = xs.length
 ·exact .inr ⟨g, xs, rfl, .of hg, hw, q g H (Same.refl _) (by rw [cut_whole hw]; exact hg)⟩
 ·exact .inl ⟨g, xs, rfl, .of hg, hw, fun c hc => q c _ (Same.upd hc) upd_same⟩
theorem cut_one {xs : List V} : (cutV xs none (some 1)).length ≤ 1 := by
 have e : HT.sIx xs.length xs.length (some 1) = min 1 xs.length := HT.sIx_nat xs.length xs.length 1
 unfold cutV
 rw [List.length_take, e, HT.sIx_none]
 omega
theorem five_at {Pr : V → Prop} {v0 v1 v2 v3 v4 : V} (h0 : Pr v0) (h1 : Pr v1) (h2 : Pr v2) (h3 : Pr v3) (h4 : Pr v4) : ∀ k : Nat, k < 5 → ∃ y, atI [v0, v1, v2, v3, v4] (k : Int) = some y ∧ Pr y
 | 0, _ => ⟨_, rfl, h0⟩
 | 1, _ => ⟨_, rfl, h1⟩
 | 2, _ => ⟨_, rfl, h2⟩
 | 3, _ => ⟨_, rfl, h3⟩
 | 4, _ => ⟨_, rfl, h4⟩
 | _ + 5, h => by omega
theorem comp_tl {J : It} {own : List Str} {caps : List Nat} {te : TE} {σ : L2.St} {H : Hp} {Q : VK} {xs : List V} (n : Nat) (S : SeqIt J H xs) (cs : L2.St) (hcs : capS own caps σ = none :: cs) (hn : xs.length ≤ 1000)
  (hs : ∀ (i : Nat) y, xs[i]? = some y → ∀ H', Same H H' → ∀ R : VK, (∀ r zs H5, Same H' H5 → H5 r = some (.tup zs) → zs.length = n → (∀ z ∈ zs, LeafV z) → R (.ref r) H5) → te (some y :: cs) H' R)
  (hd : ∀ D ys H', H D = none → Same H H' → H' D = some (.lst ys) → ys.length = xs.length → TL H' n ys → Q (.ref D) H') : CompK own caps (gName 0) tTrue te σ Q J H := by
 refine comp_gen (xs := xs) (fun D i ys H' => Same H H' ∧ ys.length = i ∧ TL H' n ys) cs hcs (by omega) ?_ ?_ ?_ ?_
 ·intro D i ys H' hD hD' p
  have S' := S.mono p.1
  exact ⟨fun hi => ⟨S'.go i H' (Same.refl _) hi, fun x H3 y => S'.yld i H' x H3 (Same.refl _) hi y⟩, fun e => e ▸ S'.stop H' (Same.refl _)⟩
 ·intro D hD
  exact ⟨Same.upd hD, rfl, fun y hy => by cases hy⟩
 ·rintro D i y ys H' hD hD' hy ⟨sm, yl, tl⟩ R k
  refine hs i y hy H' sm R fun r zs H5 s5 h5 z1 z2 => ?_
  have hD5 := s5 _ _ hD'
  refine k _ H5 hD5 ⟨(sm.trans s5).updr hD, by rw [List.length_append, yl]; rfl, fun x hx => ?_⟩
  have h5' : upd H5 D (.lst (ys ++ [.ref r])) r = some (.tup zs) := by
   rw [upd_ne (fun z => by rw [z, hD5] at h5; cases h5)]
   exact h5
  rcases List.mem_append.mp hx with hx | hx
  ·exact ((tl.mono s5).updL hD5) x hx
  ·exact ⟨r, zs, List.mem_singleton.mp hx, h5', z1, z2⟩
 ·rintro D ys H5 hD hD' hyl ⟨sm, _, tl⟩
  exact hd D ys H5 hD sm hD' (by omega) tl
def spBent : Sp := fun vs H Q _ => ∃ (p g : Addr) (t : List (List Nat)) (av : List Addr), vs = [.ref p, .ref g] ∧ AV av p H ∧ GT H g t ∧ Sh t ∧ ∀ v H', Dr p H H' → Tg av H' v → Q v H'
theorem six_at {d n : Int} (hd : d.natAbs < 2 ^ 200) (hn : n.natAbs < 2 ^ 200) : ∀ k : Nat, k < 6 → ∃ y, atI [V.int d, .int n, .int (-1), .bl true, .non, .str "0"] (k : Int) = some y ∧ LeafV y
 | 0, _ => ⟨_, rfl, hd⟩
 | 1, _ => ⟨_, rfl, hn⟩
 | 2, _ => ⟨_, rfl, by show (-1 : Int).natAbs < 2 ^ 200; decide⟩
 | 3, _ => ⟨_, rfl, trivial⟩
 | 4, _ => ⟨_, rfl, trivial⟩
 | 5, _ => ⟨_, rfl, .inl rfl⟩
 | _ + 6, h => by omega
def fNx (n : Int) : V → V
 | .int z => .int ((z + 1) % n)
 | y => y
section
variable {P : Program} {w : World} {K : PySem.W.Frag} {mg : Str → Option Value} {base : Heap}
theorem scBent : FnScope ["_law_feed_here", "_law_group_here", "_law_many", "_law_a", "_law_b", "_law_way", "_law_odd", "_law_rows"] ["_law_feed_here", "_law_group_here"] (defScope sBent) := FS
theorem ok_bent {f : Addr} {fd : FuncData} (F : Fun K "_law_bent" "_law_bent" sBent f fd) (T : Bl mg) (GD : Fn P w K mg base CX0 1 "_law_draw" ["_law_feed_here", "_law_many"] spDraw) (GS : Fn P w K mg base CX0 1 "_law_set" ["_law_thing", "_law_a", "_law_b", "_law_one"] spSet) : FnOk P w K mg base CX0 2 f fd ["_law_feed_here", "_law_group_here"] spBent := by
 refine F.ok scBent (fun vs H Q E h => ?_) (fun cdv A outer s H vs Q E hr h => ?_)
 ·obtain ⟨p, g, t, av, rfl, _⟩ := h; rfl
 ·obtain ⟨p, g, t, av, rfl, A0, G0, S0, q⟩ := h
  have F0 := A0.feed
  refine ⟨_, pss_cons (sset 2 rfl (cb (lenK K) T.len (pc (vn 1) pa_nil)))
   (pss_cons (par2 3 4 rfl (pc (fnc GD hr pass0 (pc (vn 0) (pc (vn 2) pa_nil))) (pc (fnc GD hr pass0 (pc (vn 0) (pc (vn 2) pa_nil))) pa_nil)))
   (pss_cons (sset 5 rfl (fnc GD hr pass0 (pc (vn 0) (pc pe_int pa_nil))))
   (pss_cons (ps_if (pt_cmpR op_lt (vn 5) pe_int (nomark _)) (pss_cons (sset 6 rfl (pe_lst (pc (fnc GD hr pass0 (pc (vn 0) (pc (vn 2) pa_nil))) (pc (vn 2) (pc (pe_un un_neg pe_int) (pc pe_bl (pc pe_non (pc pe_str pa_nil))))))))
    (pss_one (ps_ret (fnc GS hr pass0 (pc (vn 1) (pc (vn 3) (pc (vn 4) (pc (pe_ix (ixL K) (vn 6) (pe_op op_mul (fnc GD hr pass0 (pc (vn 0) (pc pe_int pa_nil))) (vn 5)) (fun _ _ => rfl)) pa_nil)))))))) pss_nil)
   (pss_cons (ps_if (pt_cmpR op_eq (vn 5) pe_int (nomark _)) (pss_one (ps_ret (fnc GS hr pass0 (pc (fnc GS hr pass0 (pc (vn 1) (pc (vn 3) (pc (vn 4) (pc (pe_ix (ixT K) (pe_ix (ixT K) (vn 1) (vn 4) (fun _ _ => rfl)) (vn 3) (fun _ _ => rfl)) pa_nil))))) (pc (vn 4) (pc (vn 3) (pc (pe_ix (ixT K) (pe_ix (ixT K) (vn 1) (vn 3) (fun _ _ => rfl)) (vn 4) (fun _ _ => rfl)) pa_nil))))))) pss_nil)
   (pss_cons (ps_if (pt_cmpR op_eq (vn 5) pe_int (nomark _)) (pss_cons (sset 7 rfl (ct call_list_of T.list (pc (vn 1) pa_nil)))
    (pss_cons (ps_asg (pe_tup (pc (pe_ix (ixL K) (vn 7) (vn 4) (fun _ _ => rfl)) (pc (pe_ix (ixL K) (vn 7) (vn 3) (fun _ _ => rfl)) pa_nil))) (pg_tup rfl (pgs_cons (pg_sub (vn 7) (vn 3) set_list) (pgs_cons (pg_sub (vn 7) (vn 4) set_list) pgs_nil))))
    (pss_one (ps_ret (ct call_tuple_of T.tuple (pc (vn 7) pa_nil)))))) pss_nil)
   (pss_cons (ps_if (pt_cmpR op_eq (vn 5) pe_int (nomark _)) (pss_one (ps_ret (ct call_tuple_of T.tuple (pc (cmp ["_law_row"] [] ["_law_row"] rfl (itT K (vn 1)) (fun _ _ _ _ _ => gn 0) (fun _ _ _ _ _ => pif_nil) (fun _ _ _ _ _ => pe_rev K (vn 0) (pe_un un_neg pe_int))) pa_nil)))) pss_nil)
   (pss_cons (ps_if (pt_cmpR op_eq (vn 5) pe_int (nomark _)) (pss_one (ps_ret (ct call_tuple_of T.tuple (pc (cmp ["_law_row"] [2] ["_law_row", "_law_many"] rfl (itT K (vn 1)) (fun _ _ _ _ _ => gn 0) (fun _ _ _ _ _ => pif_nil)
    (fun _ _ _ _ _ => ct (tupWK K) T.tuple (pc (cmp ["_law_one"] [1] ["_law_one", "_law_many"] rfl (itT K (vn 0)) (fun _ _ _ _ _ => gn 0) (fun _ _ _ _ _ => pif_nil) (fun _ _ _ _ _ => pe_op op_mod (pe_op op_add (vn 0) pe_int) (vn 1))) pa_nil))) pa_nil)))) pss_nil)
   (pss_cons (ps_if (pt_cmpR op_eq (vn 5) pe_int (nomark _)) (pss_one (ps_ret (fnc GS hr pass0 (pc (fnc GS hr pass0 (pc (vn 1) (pc (vn 3) (pc (vn 4) (pc pe_int pa_nil))))) (pc (vn 4) (pc (vn 3) (pc pe_int pa_nil))))))) pss_nil)
   (pss_cons (sset 6 rfl (pe_op op_catU (pe_op op_catU (pe_slice (sl_tup.or sl_whole) (vn 1) po_none (po_some (vn 3))) (pe_tup (pc (ct call_list_of T.list (pc (pe_ix (ixT K) (vn 1) (vn 3) (fun _ _ => rfl)) pa_nil)) pa_nil))) (pe_slice (sl_tup.or sl_whole) (vn 1) (po_some (pe_op op_add (vn 3) pe_int)) po_none)))
   (pss_one (ps_ret (pe_ix (ixL K) (pe_lst (pc (ct call_list_of T.list (pc (vn 1) pa_nil)) (pc (pe_slice (sl_tup.or sl_whole) (vn 1) po_none (po_some (pe_un un_neg pe_int))) (pc (pe_op op_catU (vn 1) (pe_slice (sl_tup.or sl_whole) (vn 1) po_none (po_some pe_int))) (pc (pe_tup (pc (vn 1) pa_nil)) (pc (vn 6) pa_nil)))))) (pe_op op_mod (vn 3) pe_int) (fun _ _ => rfl))))))))))))), ?_⟩
  have sz : (16777216 : Nat) = sizeLine := by decide
  obtain ⟨xs, hg0, xl, tl0⟩ := TL.of S0 G0
  have n1 := S0.n1
  have n60 := S0.n60
  refine ⟨_, rfl, g, _, rfl, .inr (.of hg0), ?_⟩
  rw [xl]
  refine ⟨_, rfl, _, rfl, p, _, rfl, F0, by omega, log_small (by omega) (by omega), fun r1 H1 a0 a1 d1 => ?_⟩
  have F1 := d1.feed F0
  refine ⟨_, rfl, _, rfl, p, _, rfl, F1, by omega, log_small (by omega) (by omega), fun r2 H2 b0 b1 d2 => ?_⟩
  have F2 := d2.feed F1
  refine ⟨_, _, rfl, ?_⟩
  refine ⟨_, rfl, p, 8, rfl, F2, by decide, by decide +kernel, fun wy H3 c0 c1 d3 => ?_⟩
  have F3 := d3.feed F2
  obtain ⟨a, rfl⟩ := Int.eq_ofNat_of_zero_le a0
  obtain ⟨b, rfl⟩ := Int.eq_ofNat_of_zero_le b0
  obtain ⟨wn, rfl⟩ := Int.eq_ofNat_of_zero_le c0
  have ha : a < t.length := by omega
  have hb : b < t.length := by omega
  have dA : Dr p H H3 := (d1.trans d2).trans d3
  have A3 := A0.dr dA
  have hg3 : H3 g = some (.tup xs) := dA.tup F0 hg0
  have tl3 : TL H3 t.length xs := tl0.dr F0 dA
  have G3 : GT H3 g t := G0.dr F0 dA
  clear G0 tl0 hg0 d1 d2 d3 F0 F1 F2
  have cell : ∀ {i j : Nat} {HH : Hp}, TL HH t.length xs → i < t.length → j < t.length → ∃ (r : Addr) (zs : List V) (z : V), atI xs (i : Int) = some (.ref r) ∧ HH r = some (.tup zs) ∧ atI zs (j : Int) = some z ∧ LeafV z := fun {i j HH} tl hi hj => by
   obtain ⟨r, zs, h1, h2, h3, h4⟩ := tl.row (a := i) (by omega)
   exact ⟨r, zs, _, atI_nat h1, h2, atI_nat (List.getElem?_eq_getElem (show j < zs.length by omega)), h4 _ (List.getElem_mem _)⟩
  have last : ∀ (D : Addr) (ys : List V) (H' : Hp), Same H3 H' → H' D = some (.lst ys) → ys.length = xs.length → TL H' t.length ys →
    ∃ p0 ys, [V.ref D] = [V.ref p0] ∧ ((SqL K H' p0 ys ∧ ∀ l0, H' l0 = none → Q (.ref l0) (upd H' l0 (.tup ys))) ∨ (SqT K H' p0 ys ∧ Q (.ref p0) H')) := fun D ys H' sm hD yl tl =>
   ⟨D, ys, rfl, .inl ⟨.of hD, fun gg ngg => q _ _ (dA.same (sm.trans (Same.upd ngg))) ((tl.mono (Same.upd ngg)).tg (A3.mono (sm.trans (Same.upd ngg))) (by omega) upd_same (by omega))⟩⟩
  refine ⟨_, rfl, _, _, rfl, rfl, _, rfl, ite2 (fun hw => ?_) (fun _ => ?_)⟩
  ·have hw : (wn : Int) < 2 := of_decide_eq_true hw
   refine ⟨_, rfl, _, rfl, p, _, rfl, F3, by omega, log_small (by omega) (by omega), fun dd H4 e0 e1 d4 => ⟨_, rfl, _, rfl, (by show 6 ≤ sizeLine; decide), fun L nL => ?_⟩⟩
   have F4 := d4.feed F3
   have nLp : L ≠ p := F4.ne_none nL
   have s5 := Same.upd (H := H4) (o := .lst [.int dd, .int (t.length : Nat), .int (-1), .bl true, .non, .str "0"]) nL
   refine ⟨_, rfl, _, rfl, _, rfl, _, rfl, _, rfl, p, 6, rfl, F4.mono s5, by decide, by decide +kernel, fun d6 H6 f0 f1 dd6 => ?_⟩
   obtain ⟨k6, rfl⟩ := Int.eq_ofNat_of_zero_le f0
   have ek : (k6 : Int) * (wn : Int) = ((k6 * wn : Nat) : Int) := by push_cast; rfl
   have hk : k6 * wn < 6 := by
    have : wn = 0 ∨ wn = 1 := by omega
    rcases this with h | h <;> subst h <;> omega
   obtain ⟨y, hat, hy⟩ := six_at (d := dd) (n := (t.length : Nat)) (Nat.lt_of_lt_of_le (show dd.natAbs < 61 by omega) (by decide)) (Nat.lt_of_lt_of_le (show ((t.length : Nat) : Int).natAbs < 61 by omega) (by decide)) (k6 * wn) hk
   have hL6 := dd6.keep L _ upd_same nLp
   have d36 : Dr p H3 H6 := (d4.same s5).trans dd6
   refine ⟨_, rfl, _, _, rfl, rfl, .inl ⟨by omega, by omega⟩, ?_⟩
   dsimp only
   rw [ek]
   refine ⟨L, _, _, _, rfl, rfl, .of hL6, hat, ?_⟩
   have t6 := tl3.dr F3 d36
   obtain ⟨r, zs, h1, h2, h3, h4⟩ := t6.row (a := a) (by omega)
   exact ⟨g, r, xs, zs, a, b, _, rfl, d36.tup F3 hg3, by omega, h1, h2, by omega, by omega, fun g' r' H7 s7 x1 x2 => q _ _ ((dA.trans d36).same s7) (((t6.mono s7).set x1 h3 h4 hy).tg ((A3.dr d36).mono s7) (by omega) x2 (by rw [List.length_set]; omega))⟩
  refine ⟨_, rfl, rfl, _, rfl, ite2 (fun _ => ?_) (fun _ => ?_)⟩
  ·obtain ⟨r1, z1, y1, k1, k2, k3, k4⟩ := cell tl3 hb ha
   refine ⟨_, rfl, _, rfl, _, rfl, _, rfl, _, rfl, g, _, _, _, rfl, rfl, .of hg3, k1, _, rfl, r1, _, _, _, rfl, rfl, .of k2, k3, ?_⟩
   obtain ⟨r, zs, h1, h2, h3, h4⟩ := tl3.row (a := a) (by omega)
   refine ⟨g, r, xs, zs, a, b, _, rfl, hg3, by omega, h1, h2, by omega, by omega, fun g' r' H4 s4 x1 x2 => ?_⟩
   have t4 := (tl3.mono s4).set (a := a) x1 h3 h4 k4
   have l4 : (xs.set a (.ref r')).length = t.length := by rw [List.length_set, xl]
   obtain ⟨rb, zb, i1, i2, i3, i4⟩ := t4.row (a := b) (by omega)
   obtain ⟨r2, z2, y2, j1, j2, j3, j4⟩ := cell (tl3.mono s4) ha hb
   refine ⟨_, rfl, _, rfl, _, rfl, _, rfl, g, _, _, _, rfl, rfl, .of (s4 _ _ hg3), j1, _, rfl, r2, _, _, _, rfl, rfl, .of j2, j3, ?_⟩
   exact ⟨g', rb, _, zb, b, a, _, rfl, x2, by omega, i1, i2, by omega, by omega, fun g'' r'' H5 s5 y1' y2' => q _ _ (dA.same (s4.trans s5)) (((t4.mono s5).set y1' i3 i4 j4).tg (A3.mono (s4.trans s5)) (by omega) y2' (by rw [List.length_set]; omega))⟩
  refine ⟨_, rfl, rfl, _, rfl, ite2 (fun _ => ?_) (fun _ => ?_)⟩
  ·refine ⟨_, rfl, g, _, rfl, .inr (.of hg3), fun l nl => ?_⟩
   have s4 := Same.upd (H := H3) (o := .lst xs) nl
   have ea : xs[a]? = some (xs[a]'(by omega)) := List.getElem?_eq_getElem (by omega)
   have eb : xs[b]? = some (xs[b]'(by omega)) := List.getElem?_eq_getElem (by omega)
   have ma := List.mem_of_getElem? ea
   have mb := List.mem_of_getElem? eb
   generalize xs[a]'(by omega) = ya at ea ma
   generalize xs[b]'(by omega) = yb at eb mb
   refine ⟨_, rfl, _, rfl, l, _, _, _, rfl, rfl, .of upd_same, atI_nat eb, _, rfl, _, rfl, l, _, _, _, rfl, rfl, .of upd_same, atI_nat ea, (by show 2 ≤ sizeLine; decide), fun c nc => ?_⟩
   have s5 := Same.upd (H := upd H3 l (.lst xs)) (o := .tup [yb, ya]) nc
   have hl5 := s5 l _ upd_same
   refine ⟨c, _, rfl, .of upd_same, rfl, _, _, rfl, _, rfl, _, rfl, l, xs, _, a, rfl, rfl, hl5, ixN_natC (by omega), _, _, rfl, _, rfl, _, rfl, l, _, _, b, rfl, rfl, upd_same, ixN_natC (by rw [List.length_set]; omega), rfl, ?_⟩
   have d7 : Dr p H3 (upd (upd (upd (upd H3 l (.lst xs)) c (.tup [yb, ya])) l (.lst (xs.set a yb))) l (.lst ((xs.set a yb).set b ya))) := ((Dr.of (s4.trans s5)).updN nl).updN nl
   have t7 : TL (upd (upd (upd (upd H3 l (.lst xs)) c (.tup [yb, ya])) l (.lst (xs.set a yb))) l (.lst ((xs.set a yb).set b ya))) t.length ((xs.set a yb).set b ya) := by
    refine (((tl3.mono (s4.trans s5)).updL hl5).updL upd_same).sub fun y hy => ?_
    rcases List.mem_or_eq_of_mem_set hy with hy | hy
    ·rcases List.mem_or_eq_of_mem_set hy with hy | hy
     ·exact hy
     ·rw [hy]; exact mb
    ·rw [hy]; exact ma
   refine ⟨_, rfl, l, _, rfl, .inl ⟨.of upd_same, fun gg ngg => ?_⟩⟩
   exact q _ _ (dA.trans (d7.same (Same.upd ngg))) ((t7.mono (Same.upd ngg)).tg ((A3.dr d7).mono (Same.upd ngg)) (by omega) upd_same (by rw [List.length_set, List.length_set]; omega))
  refine ⟨_, rfl, rfl, _, rfl, ite2 (fun _ => ?_) (fun _ => ?_)⟩
  ·refine ⟨_, rfl, g, rfl, ⟨_, .of hg3⟩, ?_⟩
   refine comp_tl t.length (seq_tup (K := K) (.of hg3)) [] rfl (by omega) (fun i y hy H' s' R k => ?_) (fun D ys H' nD s' hD yl tl => last D ys H' s' hD yl tl)
   obtain ⟨r, zs, rfl, h2, h3, h4⟩ := (tl3.mono s') y (List.mem_of_getElem? hy)
   exact ⟨_, rfl, _, rfl, rfl, r, zs, rfl, .of h2, fun c hc => k c _ _ (Same.upd hc) upd_same (by rw [List.length_reverse]; exact h3) fun z hz => h4 z (List.mem_reverse.mp hz)⟩
  refine ⟨_, rfl, rfl, _, rfl, ite2 (fun _ => ?_) (fun _ => ?_)⟩
  ·refine ⟨_, rfl, g, rfl, ⟨_, .of hg3⟩, ?_⟩
   obtain ⟨rs, u1, u2, u3⟩ := id G3
   have ex : xs = rs.map V.ref := by
    rw [hg3] at u1
    cases u1
    rfl
   refine comp_tl t.length (seq_tup (K := K) (.of hg3)) [some (.int (t.length : Nat))] rfl (by omega) (fun i y hy H' s' R k => ?_) (fun D ys H' nD s' hD yl tl => last D ys H' s' hD yl tl)
   rw [ex, List.getElem?_map] at hy
   cases hi : rs[i]? with
   | none => rw [hi] at hy; cases hy
   | some r =>
    rw [hi] at hy
    cases hy
    have il : i < t.length := by rw [← u2]; exact (List.getElem?_eq_some_iff.mp hi).1
    have hr' : H' r = some (.tup ((t.getD i []).map nV)) := s' _ _ (u3 i r hi)
    have rl := S0.rlen il
    refine ⟨_, rfl, r, rfl, ⟨_, .of hr'⟩, ?_⟩
    refine comp_map (seq_tup (K := K) (.of hr')) [some (.int (t.length : Nat))] rfl (fNx (t.length : Nat)) (by rw [List.length_map]; omega) (fun j x HC hx sC R'' g2 => ?_) (fun D HD nD sD hD => ?_)
    ·obtain ⟨kx, hkx, rfl⟩ := nV_get hx
     exact ⟨_, rfl, _, _, rfl, rfl, _, rfl, _, _, rfl, rfl, (by show (0 : Int) < (t.length : Nat); omega), g2 HC (Same.refl _)⟩
    ·refine ⟨D, _, rfl, .of hD, fun r' H5 nr s5 hz => k r' _ H5 (sD.trans s5) hz (by rw [List.length_map, List.length_map]; exact rl) fun z hz' => ?_⟩
     obtain ⟨y0, hy0, rfl⟩ := List.mem_map.mp hz'
     obtain ⟨kx, hkx, rfl⟩ := List.mem_map.mp hy0
     show (((kx : Int) + 1) % ((t.length : Nat) : Int)).natAbs < 2 ^ 200
     have h1 := Int.emod_nonneg ((kx : Int) + 1) (show ((t.length : Nat) : Int) ≠ 0 by omega)
     have h2 := Int.emod_lt_of_pos ((kx : Int) + 1) (show (0 : Int) < ((t.length : Nat) : Int) by omega)
     exact Nat.lt_of_lt_of_le (show _ < 61 by omega) (by decide)
  refine ⟨_, rfl, rfl, _, rfl, ite2 (fun _ => ?_) (fun _ => ?_)⟩
  ·have l0 : LeafV (.int 0) := by show (0 : Int).natAbs < 2 ^ 200; decide
   refine ⟨_, rfl, _, rfl, _, rfl, ?_⟩
   obtain ⟨r, zs, h1, h2, h3, h4⟩ := tl3.row (a := a) (by omega)
   refine ⟨g, r, xs, zs, a, b, _, rfl, hg3, by omega, h1, h2, by omega, by omega, fun g' r' H4 s4 x1 x2 => ?_⟩
   have t4 := (tl3.mono s4).set (a := a) x1 h3 h4 l0
   have l4 : (xs.set a (.ref r')).length = t.length := by rw [List.length_set, xl]
   obtain ⟨rb, zb, i1, i2, i3, i4⟩ := t4.row (a := b) (by omega)
   refine ⟨_, rfl, _, rfl, ?_⟩
   exact ⟨g', rb, _, zb, b, a, _, rfl, x2, by omega, i1, i2, by omega, by omega, fun g'' r'' H5 s5 y1' y2' => q _ _ (dA.same (s4.trans s5)) (((t4.mono s5).set y1' i3 i4 l0).tg (A3.mono (s4.trans s5)) (by omega) y2' (by rw [List.length_set]; omega))⟩
  obtain ⟨r, zs, h1, h2, h3, h4⟩ := tl3.row (a := a) (by omega)
  refine ⟨_, rfl, _, rfl, _, rfl, cut_any hg3 fun c1 H4 s4 k1 => ?_⟩
  rw [cut_take (by omega)] at k1
  refine ⟨_, rfl, _, rfl, g, _, _, _, rfl, rfl, .of (s4 _ _ hg3), atI_nat h1, r, zs, rfl, .inr (.of (s4 _ _ h2)), fun lr nlr => ⟨(by show 1 ≤ sizeLine; decide), fun c2 n2 => ?_⟩⟩
  have s5 := Same.upd (H := H4) (o := .lst zs) nlr
  have s6 := Same.upd (H := upd H4 lr (.lst zs)) (o := .tup [.ref lr]) n2
  have klr := s6 lr _ upd_same
  have k2 := upd_same (H := upd H4 lr (.lst zs)) (a := c2) (o := .tup [.ref lr])
  generalize upd (upd H4 lr (.lst zs)) c2 (.tup [.ref lr]) = H6 at s6 klr k2 ⊢
  have s46 := s5.trans s6
  refine ⟨c1, c2, _, _, rfl, rfl, s46 _ _ k1, k2, (by rw [List.length_take]; simp; omega), fun c3 H7 s7 k3 => ?_⟩
  have sA := (s4.trans s46).trans s7
  refine ⟨_, rfl, _, rfl, _, _, rfl, rfl, _, rfl, cut_any (sA _ _ hg3) fun c4 H8 s8 k4 => ?_⟩
  rw [cut_drop (by omega)] at k4
  refine ⟨c3, c4, _, _, rfl, rfl, s8 _ _ k3, k4, (by rw [List.length_append, List.length_take, List.length_drop]; simp; omega), fun c5 H9 s9 k5 => ?_⟩
  have sB := (sA.trans s8).trans s9
  have klr9 := ((s7.trans s8).trans s9) _ _ klr
  have nlr3 : H3 lr = none := s4.free nlr
  have nlrp : lr ≠ p := F3.ne_none nlr3
  refine ⟨_, rfl, g, _, rfl, .inr (.of (sB _ _ hg3)), fun l1 nl1 => ?_⟩
  have s10 := Same.upd (H := H9) (o := .lst xs) nl1
  have kl1 := upd_same (H := H9) (a := l1) (o := .lst xs)
  have nl1p : l1 ≠ p := F3.ne_none (sB.free nl1)
  generalize upd H9 l1 (.lst xs) = H10 at s10 kl1 ⊢
  have sC := sB.trans s10
  refine ⟨_, rfl, _, rfl, _, rfl, cut_any (sC _ _ hg3) fun c6 H11 s11 k6 => ?_⟩
  have sD := sC.trans s11
  refine ⟨_, rfl, _, rfl, _, rfl, cut_any (sD _ _ hg3) fun c7 H12 s12 k7 => ?_⟩
  have sE := sD.trans s12
  have l7 := cut_one (xs := xs)
  refine ⟨g, c7, _, _, rfl, rfl, sE _ _ hg3, k7, (by omega), fun c8 H13 s13 k8 => ?_⟩
  have sF := sE.trans s13
  refine ⟨_, rfl, (by show 1 ≤ sizeLine; decide), fun c9 n9 => ?_⟩
  have s14 := Same.upd (H := H13) (o := .tup [.ref g]) n9
  have k9 := upd_same (H := H13) (a := c9) (o := .tup [.ref g])
  generalize upd H13 c9 (.tup [.ref g]) = H14 at s14 k9 ⊢
  refine ⟨_, rfl, (by show 5 ≤ sizeLine; decide), fun S nS => ?_⟩
  have s15 := Same.upd (H := H14) (o := .lst [.ref l1, .ref c6, .ref c8, .ref c9, .ref c5]) nS
  have sG := (sF.trans s14).trans s15
  have kS := upd_same (H := H14) (a := S) (o := .lst [.ref l1, .ref c6, .ref c8, .ref c9, .ref c5])
  generalize upd H14 S (.lst [.ref l1, .ref c6, .ref c8, .ref c9, .ref c5]) = H15 at s15 sG kS ⊢
  have A15 := A3.mono sG
  have tl := tl3.mono sG
  have s1415 := s14.trans s15
  have s1315 := s13.trans s1415
  have s1215 := s12.trans s1315
  have s1115 := s11.trans s1215
  have s1015 := s10.trans s1115
  have nk := tl.nk A15 (by omega : t.length ≤ 62)
  have g0 : Tg av H15 (.ref l1) := .inl (nk_lst (s1115 _ _ kl1) (A3.none (sB.free nl1)) (by omega) nk)
  have g1 : Tg av H15 (.ref c6) := (tl.sub fun y hy => mem_cut hy).tg A15 (by omega) (s1215 _ _ k6) (Nat.le_trans (cutV_length _ _ _) (by omega))
  have g2 : Tg av H15 (.ref c8) := (tl.sub fun y hy => by
   rcases List.mem_append.mp hy with hy | hy
   ·exact hy
   ·exact mem_cut hy).tg A15 (by omega) (s1415 _ _ k8) (by rw [List.length_append]; omega)
  have g3 : Tg av H15 (.ref c9) := .inr (.inl (nk_tup (s15 _ _ k9) (A15.tup (s15 _ _ k9)) (Nat.le_refl _) fun y hy => by
   rw [List.mem_singleton.mp hy]
   exact nk_tup (sG _ _ hg3) (A15.tup (sG _ _ hg3)) (by omega) nk))
  have g4 : Tg av H15 (.ref c5) := .inl (nk_tup (s1015 _ _ k5) (A15.tup (s1015 _ _ k5)) (by rw [List.length_append, List.length_append, List.length_take, List.length_drop]; simp; omega) fun y hy => by
   rcases List.mem_append.mp hy with hy | hy
   ·rcases List.mem_append.mp hy with hy | hy
    ·exact nk y (List.mem_of_mem_take hy)
    ·rw [List.mem_singleton.mp hy]
     exact nk_lst (s1015 _ _ klr9) (A3.none nlr3) (by omega) fun z hz => h4 z hz
   ·exact nk y (List.mem_of_mem_drop hy))
  obtain ⟨y, hat, hy⟩ := five_at (Pr := Tg av H15) g0 g1 g2 g3 g4 (a % 5) (Nat.mod_lt _ (by decide))
  refine ⟨_, rfl, _, _, rfl, rfl, (by show (0 : Int) < 5; decide), ?_⟩
  dsimp only
  rw [show (a : Int) % 5 = ((a % 5 : Nat) : Int) by push_cast; rfl]
  exact ⟨S, _, _, _, rfl, rfl, .of kS, hat, q _ _ (dA.same sG) hy⟩
end
end C6
namespace L2
open PySem PySem.Spec PyProof.Rows
theorem ps_weak {X : Cx} {st : Stmt} {t t' : TS} (h : PS X st t) (i : ∀ D σ H, t' D σ H → t D σ H) : PS X st t' := fun pins s σ H D I q => h pins s σ H D I (i D σ H q)
end L2
namespace C6
open PySem L2 PySem.Spec PyProof.Rows
open Tb
abbrev sLaw : Stmt := top 39
def spLaw (K : PySem.W.Frag) : Sp := fun vs H Q _ => ∃ (a : Addr) (ns : List Int), vs = [.ref a] ∧ SqL K H a (ns.map V.int) ∧ ns.length ≤ 63 ∧ ∀ H', Q (.bl true) H'
def SmW (t : List (List Nat)) : Prop := t.length ≤ 62 ∧ ∀ row ∈ t, row.length ≤ 62 ∧ ∀ x ∈ row, x ≤ 1000
def smB (t : List (List Nat)) : Bool := decide (t.length ≤ 62) && t.all fun row => decide (row.length ≤ 62) && row.all fun x => decide (x ≤ 1000)
theorem smB_of {t : List (List Nat)} (h : smB t = true) : SmW t := by
 unfold smB at h
 rw [Bool.and_eq_true, decide_eq_true_eq, List.all_eq_true] at h
 refine ⟨h.1, fun row hr => ?_⟩
 have := h.2 row hr
 rw [Bool.and_eq_true, decide_eq_true_eq, List.all_eq_true] at this
 exact ⟨this.1, fun x hx => of_decide_eq_true (this.2 x hx)⟩
theorem tw_sm : ((List.range 5).all fun j => smB (tw (58 + j) 1 1)) = true := by decide +kernel
theorem Sm.w {t : List (List Nat)} (h : Sm t) : SmW t := ⟨by have := h.1; omega, fun row hr => ⟨by have := (h.2 row hr).1; omega, (h.2 row hr).2⟩⟩
theorem Sh.w {t : List (List Nat)} (S : Sh t) : SmW t := by
 have := S.n60
 refine ⟨by omega, fun row hr => ⟨by rw [S.len row hr]; omega, fun x hx => ?_⟩⟩
 have := S.lt row hr x hx
 omega
theorem GT.tg {av : List Addr} {p g : Addr} {H : Hp} {t : List (List Nat)} (A : AV av p H) (S : SmW t) (G : GT H g t) : Tg av H (.ref g) := by
 obtain ⟨rs, h1, h2, h3⟩ := G
 refine .inl (nk_tup h1 (A.tup h1) (by rw [List.length_map, h2]; exact S.1) fun y hy => ?_)
 obtain ⟨r, hr, rfl⟩ := List.mem_map.mp hy
 obtain ⟨i, hi⟩ := List.getElem?_of_mem hr
 have il : i < t.length := by rw [← h2]; exact (List.getElem?_eq_some_iff.mp hi).1
 have hm : t.getD i [] ∈ t := by
  rw [List.getD_eq_getElem?_getD, List.getElem?_eq_getElem il]
  exact List.getElem_mem il
 have hs := S.2 _ hm
 refine nk_tup (h3 i r hi) (A.tup (h3 i r hi)) (by rw [List.length_map]; exact hs.1) fun z hz => ?_
 obtain ⟨k, hk, rfl⟩ := List.mem_map.mp hz
 exact leaf_nat (hs.2 k hk)
structure Mid (Hb : Hp) (p g L : Addr) (t : List (List Nat)) (xs : List V) (H : Hp) : Prop where
 d : Dr p Hb H
 fb : Feed Hb p
 nl : Hb L = none
 gb : GT Hb g t
 lst : H L = some (.lst xs)
 ok : ∀ x ∈ xs, Tg [L, p] H x
section
variable {Hb : Hp} {p g L : Addr} {t : List (List Nat)} {xs : List V} {H H' : Hp} {y : V}
theorem Mid.ne (M : Mid Hb p g L t xs H) : L ≠ p := M.fb.ne_none M.nl
theorem Mid.feed (M : Mid Hb p g L t xs H) : Feed H p := M.d.feed M.fb
theorem Mid.gt (M : Mid Hb p g L t xs H) : GT H g t := M.gb.dr M.fb M.d
theorem Mid.av (M : Mid Hb p g L t xs H) : AV [L, p] p H := by
 refine ⟨M.feed, by simp, fun b hb => ?_⟩
 rcases List.mem_cons.mp hb with hb | hb
 ·exact ⟨_, hb ▸ M.lst⟩
 ·obtain ⟨q, ns, i, j, k, F⟩ := M.feed
  rw [List.mem_singleton.mp hb]
  exact ⟨_, F.hp⟩
theorem Mid.dr (M : Mid Hb p g L t xs H) (d : Dr p H H') : Mid Hb p g L t xs H' :=
 ⟨M.d.trans d, M.fb, M.nl, M.gb, d.keep L _ M.lst M.ne, fun x hx => (M.ok x hx).dr M.av.mem d⟩
theorem Mid.mono (M : Mid Hb p g L t xs H) (s : Same H H') : Mid Hb p g L t xs H' := M.dr (.of s)
theorem Mid.push (M : Mid Hb p g L t xs H) (hy : Tg [L, p] H y) : Mid Hb p g L t (xs ++ [y]) (upd H L (.lst (xs ++ [y]))) := by
 refine ⟨M.d.updN M.nl, M.fb, M.nl, M.gb, upd_same, fun x hx => ?_⟩
 rcases List.mem_append.mp hx with hx | hx
 ·exact (M.ok x hx).upd (by simp)
 ·rw [List.mem_singleton.mp hx]
  exact hy.upd (by simp)
end
theorem dueT_lt {t : List (List Nat)} {wd : Str} {a : Nat} (h : dueT t = some (wd, a)) : (wd = "one" ∨ wd = "back" ∨ wd = "three") ∧ a < t.length := by
 have lt : ∀ {p : Nat → Bool} {a : Nat}, firstNo t.length p = some a → a < t.length := fun {p a} e => by
  unfold firstNo at e
  exact List.mem_range.mp (List.mem_of_find?_eq_some e)
 unfold dueT at h
 cases h1 : firstNo t.length (oneB t) with
 | some b =>
  rw [h1] at h
  cases h
  exact ⟨.inl rfl, lt h1⟩
 | none =>
  rw [h1] at h
  dsimp only at h
  cases h2 : firstNo t.length (hasB t) with
  | some b =>
   rw [h2] at h
   cases h
   exact ⟨.inr (.inl rfl), lt h2⟩
  | none =>
   rw [h2] at h
   dsimp only at h
   cases h3 : firstNo t.length (thrB t) with
   | some b =>
    rw [h3] at h
    cases h
    exact ⟨.inr (.inr rfl), lt h3⟩
   | none =>
    rw [h3] at h
    cases h
theorem fit_pair {wd : Str} {a : Nat} (hw : wd = "one" ∨ wd = "back" ∨ wd = "three" ∨ wd = "shape") (ha : a ≤ 1000) : FitD (.tuple [.str wd, .int (a : Nat)]) := by
 have hs : Sml 0 5 (.str wd) := by
  rcases hw with h | h | h | h <;> subst h <;> exact ⟨rfl, rfl, Nat.zero_le _, by decide, by decide⟩
 have hi : Sml 0 5 (.int (a : Nat)) := by
  obtain ⟨d, h1, h2⟩ := leaf_dat (K := default) (H := fun _ => none) (leaf_nat ha)
  cases h1
  exact h2.le (Nat.zero_le _) (by decide)
 obtain ⟨g1, g2, g3, g4, g5⟩ := Sml.all (k := 0) (b := 5) (ds := [.str wd, .int (a : Nat)]) fun d hd => by
  rcases List.mem_cons.mp hd with hd | hd
  ·rw [hd]; exact hs
  ·rw [List.mem_singleton.mp hd]; exact hi
 have : Sml 1 12 (.tuple [.str wd, .int (a : Nat)]) := ⟨by simp only [PyData.showable]; exact g1, by simp only [PyData.hasDict]; exact g2, by simp only [PyData.depth]; omega, by simp only [PyData.leavesShort]; exact g4, by simp only [PyData.bulk]; exact g5⟩
 exact this.fit (by decide) (by decide)
theorem fit_due (o : Option (List (Option (List V)))) : FitD (dueD (dueO o)) := by
 unfold dueO
 split
 ·rename_i hs
  cases hd : dueT (tabO (o.getD [])) with
  | none => exact ⟨rfl, rfl, by decide, by decide +kernel⟩
  | some wa =>
   obtain ⟨wd, a⟩ := wa
   obtain ⟨hw, hl⟩ := dueT_lt hd
   refine fit_pair (wd := wd) (a := a) (by rcases hw with h | h | h <;> simp [h]) ?_
   cases o with
   | none => cases hs
   | some os =>
    have hs : (decide (1 ≤ os.length) && (decide (os.length ≤ 60) && os.all (rowB os.length))) = true := hs
    rw [Bool.and_eq_true, Bool.and_eq_true, decide_eq_true_eq, decide_eq_true_eq] at hs
    have tl : (tabO ((some os).getD [])).length = os.length := by unfold tabO; rw [List.length_map]; rfl
    omega
 ·exact fit_pair (wd := "shape") (a := 0) (by simp) (by decide)
def tMid : TS := fun D σ H => ∃ (Hb : Hp) (a p g L : Addr) (v2 v5 v6 v7 : Option V) (t : List (List Nat)) (xs : List V), σ = [some (.ref a), some (.ref p), v2, some (.ref g), some (.ref L), v5, v6, v7] ∧ Mid Hb p g L t xs H ∧ xs.length ≤ 20 ∧
 ∀ xs' H', Mid Hb p g L t xs' H' → xs'.length ≤ 21 → D.nx σ H'
section
variable {P : Program} {w : World} {K : PySem.W.Frag} {mg : Str → Option Value} {base : Heap}
theorem scLaw : FnScope ["_law_script", "_law_feed_here", "_law_turn", "_law_group_here", "_law_some", "_law_k", "_law_thing", "_law_kept"] ["_law_script"] (defScope sLaw) := FS
theorem ok_law {f : Addr} {fd : FuncData} (F : Fun K "law" "law" sLaw f fd) (T : Bl mg) (GF : Fn P w K mg base CX0 1 "_law_feed" ["_law_script"] (spFeed K)) (GD : Fn P w K mg base CX0 1 "_law_draw" ["_law_feed_here", "_law_many"] spDraw) (GG : Fn P w K mg base CX0 3 "_law_group" ["_law_feed_here"] spOne)
  (GO : Fn P w K mg base CX0 2 "_law_other" ["_law_feed_here"] spOther) (GT' : Fn P w K mg base CX0 1 "_law_twined" ["_law_m", "_law_many", "_law_u"] spTw) (GB : Fn P w K mg base CX0 2 "_law_bent" ["_law_feed_here", "_law_group_here"] spBent)
  (GL : Fn P w K mg base CX0 5 "_law_told" ["_law_thing"] (spDue K)) (GU : Fn P w K mg base CX0 2 "_law_due" ["_law_thing"] (spDue K)) :
  FnOk P w K mg base CX0 6 f fd ["_law_script"] (spLaw K) := by
 refine F.ok scLaw (fun vs H Q E h => ?_) (fun cdv A outer s H vs Q E hr h => ?_)
 ·obtain ⟨a, ns, rfl, _⟩ := h; rfl
 ·obtain ⟨a, ns, rfl, hS, hlen, q⟩ := h
  refine ⟨_, pss_cons (sset 1 rfl (fnc GF hr pass0 (pc (vn 0) pa_nil)))
   (pss_cons (ps_for PassesOwn.never rfl (rng1 T.range (pc pe_int pa_nil)) (gn 2)
    (pss_cons (sset 3 rfl (fnc GG hr pass0 (pc (vn 1) pa_nil)))
    (pss_cons (sset 4 rfl (pe_lst (pc (vn 3) (pc (fnc GO hr pass0 (pc (vn 1) pa_nil)) (pc (fnc GO hr pass0 (pc (vn 1) pa_nil)) (pc pe_non (pc (pe_tup pa_nil) (pc (pe_tup (pc (pe_tup (pc pe_int pa_nil)) pa_nil)) (pc (pe_tup (pc (pe_tup pa_nil) pa_nil)) (pc pe_int (pc pe_str (pc (pe_lst pa_nil) (pc pe_dnewK pa_nil)))))))))))))
    (pss_cons (ps_weak (t' := tMid) (ps_if (pt_cmpR op_eq (fnc GD hr pass0 (pc (vn 1) (pc pe_int pa_nil))) pe_int (nomark _)) (pss_one (ps_expr (pe_bm PySem.F.plainAttrs_list PySem.F.slot_list_append PySem.F.type_list_append mt_append (vn 4) (pc (fnc GT' hr pass0 (pc (pe_op op_add pe_int (fnc GD hr pass0 (pc (vn 1) (pc pe_int pa_nil)))) (pc pe_int (pc pe_int pa_nil)))) pa_nil)))) pss_nil) ?mid)
    (pss_cons (ps_for PassesOwn.never rfl (rng1 T.range (pc pe_int pa_nil)) (gn 5) (pss_one (ps_expr (pe_bm PySem.F.plainAttrs_list PySem.F.slot_list_append PySem.F.type_list_append mt_append (vn 4) (pc (fnc GB hr pass0 (pc (vn 1) (pc (vn 3) pa_nil))) pa_nil)))))
    (pss_one (ps_for PassesOwn.never rfl (itL K (vn 4)) (gn 6)
     (pss_cons (sset 7 rfl (cb (reprE K hr) T.repr (pc (vn 6) pa_nil)))
     (pss_one (ps_if (pw_or (pt_cmpR op_ne (cb (reprE K hr) T.repr (pc (fnc GL hr pass0 (pc (vn 6) pa_nil)) pa_nil)) (cb (reprE K hr) T.repr (pc (fnc GU hr pass0 (pc (vn 6) pa_nil)) pa_nil)) (nomark _))
      (pw_or1 (pt_cmpR op_ne (cb (reprE K hr) T.repr (pc (vn 6) pa_nil)) (vn 7) (nomark _)))).pt (pss_one (ps_ret pe_bl)) pss_nil))))))))))
   (pss_one (ps_ret pe_bl))), ?_⟩
  case mid =>
   rintro D σ H ⟨Hb, a', p, g, L, v2, v5, v6, v7, t, xs, rfl, M, xl, k⟩
   refine ⟨_, rfl, p, 4, rfl, M.feed, by decide, by decide +kernel, fun r H1 _ _ d1 => ⟨rfl, _, rfl, ite2 (fun _ => ?_) (fun _ => ?_)⟩⟩
   ·have M1 := M.dr d1
    refine ⟨_, rfl, .inl ⟨rfl, _, .of M1.lst⟩, _, rfl, p, 5, rfl, M1.feed, by decide, by decide +kernel, fun r2 H2 b0 b1 d2 => ⟨_, _, rfl, rfl, ?_⟩⟩
    obtain ⟨j, rfl⟩ := Int.eq_ofNat_of_zero_le b0
    have hj : j < 5 := by omega
    dsimp only
    rw [show (58 : Int) + (j : Int) = ((58 + j : Nat) : Int) by omega]
    refine ⟨58 + j, 1, 1, rfl, by omega, by decide, by omega, by decide, by omega, by decide, fun gg H3 s3 G3 => ?_⟩
    have M3 := (M1.dr d2).mono s3
    refine ⟨L, _, _, rfl, rfl, M3.lst, by have : (16777216 : Nat) = sizeLine := (by decide); omega, ?_⟩
    exact k _ _ (M3.push (G3.tg M3.av (smB_of (List.all_eq_true.mp tw_sm j (List.mem_range.mpr hj))))) (by rw [List.length_append]; simp; omega)
   ·exact k xs H1 (M.dr d1) (by omega)
  have sz : (16777216 : Nat) = sizeLine := by decide
  refine ⟨_, rfl, a, ns, rfl, hS, fun p H0 s0 hp F0 => ?_⟩
  refine ⟨4, rfl, by decide, by decide, ?_⟩
  refine for_range (fun i σ' H' => ∃ v2 v3 v4 v5 v6 v7 : Option V, σ' = [some (.ref a), some (.ref p), v2, v3, v4, v5, v6, v7] ∧ Feed H' p) ⟨_, _, _, _, _, _, rfl, F0⟩ ?_ ?_
  ·rintro i0 σ' H1 hi0 ⟨v2, v3, v4, v5, v6, v7, rfl, F1⟩
   refine ⟨_, rfl, p, rfl, F1, fun g t H2 d2 G Pt => ?_⟩
   have F2 := d2.feed F1
   have S0 := sh_of Pt
   refine ⟨_, rfl, _, rfl, p, rfl, F2, fun g1 t1 H3 d3 G1 S1 => ⟨_, rfl, p, rfl, d3.feed F2, fun g2 t2 H4 d4 G2 S2 => ?_⟩⟩
   have F3 := d3.feed F2
   have F4 := d4.feed F3
   have G1 := G1.dr F3 d4
   have G := G.dr F2 (d3.trans d4)
   refine ⟨(by show 0 ≤ sizeLine; decide), fun e1 n1 => ?_⟩
   have s5 := Same.upd (H := H4) (o := .tup []) n1
   have k1 := upd_same (H := H4) (a := e1) (o := .tup [])
   generalize upd H4 e1 (.tup []) = H5 at s5 k1 ⊢
   refine ⟨(by show 1 ≤ sizeLine; decide), fun e2 n2 => ?_⟩
   have s6 := Same.upd (H := H5) (o := .tup [.int 0]) n2
   have k2 := upd_same (H := H5) (a := e2) (o := .tup [.int 0])
   generalize upd H5 e2 (.tup [.int 0]) = H6 at s6 k2 ⊢
   refine ⟨(by show 1 ≤ sizeLine; decide), fun e3 n3 => ?_⟩
   have s7 := Same.upd (H := H6) (o := .tup [.ref e2]) n3
   have k3 := upd_same (H := H6) (a := e3) (o := .tup [.ref e2])
   generalize upd H6 e3 (.tup [.ref e2]) = H7 at s7 k3 ⊢
   refine ⟨(by show 0 ≤ sizeLine; decide), fun e4 n4 => ?_⟩
   have s8 := Same.upd (H := H7) (o := .tup []) n4
   have k4 := upd_same (H := H7) (a := e4) (o := .tup [])
   generalize upd H7 e4 (.tup []) = H8 at s8 k4 ⊢
   refine ⟨(by show 1 ≤ sizeLine; decide), fun e5 n5 => ?_⟩
   have s9 := Same.upd (H := H8) (o := .tup [.ref e4]) n5
   have k5 := upd_same (H := H8) (a := e5) (o := .tup [.ref e4])
   generalize upd H8 e5 (.tup [.ref e4]) = H9 at s9 k5 ⊢
   refine ⟨(by show 0 ≤ sizeLine; decide), fun l1 nl1 => ?_⟩
   have s10 := Same.upd (H := H9) (o := .lst []) nl1
   have kl := upd_same (H := H9) (a := l1) (o := .lst [])
   generalize upd H9 l1 (.lst []) = H10 at s10 kl ⊢
   refine fun dd nd => ?_
   have s11 := Same.upd (H := H10) (o := .dK []) nd
   have kd := upd_same (H := H10) (a := dd) (o := .dK [])
   generalize upd H10 dd (.dK []) = H11 at s11 kd ⊢
   refine ⟨(by show 11 ≤ sizeLine; decide), fun L nL => ?_⟩
   have s1011 := s10.trans s11
   have s911 := s9.trans s1011
   have s811 := s8.trans s911
   have s711 := s7.trans s811
   have s611 := s6.trans s711
   have s511 := s5.trans s611
   have s49 := (((s5.trans s6).trans s7).trans s8).trans s9
   have A11 : AV [p] p H11 := by
    refine ⟨F4.mono s511, by simp, fun b hb => ?_⟩
    obtain ⟨q', ns', i', j', k', F⟩ := F4.mono s511
    rw [List.mem_singleton.mp hb]
    exact ⟨_, F.hp⟩
   have one : ∀ {e : Addr} {ys : List V}, H11 e = some (.tup ys) → ys.length ≤ 62 → (∀ y ∈ ys, Nk [p] H11 [62] y) → Tg [p] H11 (.ref e) := fun h hl hy => .inl (nk_tup h (A11.tup h) hl hy)
   have lf0 : LeafV (.int 0) := by show (0 : Int).natAbs < 2 ^ 200; decide
   have all : ∀ x ∈ [V.ref g, .ref g1, .ref g2, .non, .ref e1, .ref e3, .ref e5, .int 0, .str "", .ref l1, .ref dd], Tg [p] H11 x := by
    intro x hx
    simp only [List.mem_cons, List.not_mem_nil, or_false] at hx
    rcases hx with rfl | rfl | rfl | rfl | rfl | rfl | rfl | rfl | rfl | rfl | rfl
    ·exact (G.mono s511).tg A11 S0.w
    ·exact (G1.mono s511).tg A11 S1.w
    ·exact (G2.mono s511).tg A11 S2.w
    ·exact .inl (nk_leaf (show LeafV .non from trivial) _)
    ·exact one (s611 _ _ k1) (by decide) fun y hy => by cases hy
    ·refine one (s811 _ _ k3) (by show 1 ≤ 62; decide) fun y hy => ?_
     rw [List.mem_singleton.mp hy]
     exact nk_tup (s711 _ _ k2) (A11.tup (s711 _ _ k2)) (by show 1 ≤ 62; decide) fun z hz => by
      rw [List.mem_singleton.mp hz]
      exact lf0
    ·refine one (s1011 _ _ k5) (by show 1 ≤ 62; decide) fun y hy => ?_
     rw [List.mem_singleton.mp hy]
     exact nk_tup (s911 _ _ k4) (A11.tup (s911 _ _ k4)) (by decide) fun z hz => by cases hz
    ·exact .inl (nk_leaf lf0 _)
    ·exact .inl (nk_leaf (show LeafV (.str "") from Or.inr rfl) _)
    ·refine .inl (nk_lst (s11 _ _ kl) ?_ (by decide) fun y hy => by cases hy)
     intro z
     rw [List.mem_singleton.mp z] at nl1
     exact (F4.mono s49).ne_none nl1 rfl
    ·refine .inr (.inr ⟨dd, rfl, ?_, kd⟩)
     intro z
     rw [List.mem_singleton.mp z] at nd
     exact (F4.mono (s49.trans s10)).ne_none nd rfl
   refine ⟨H11, a, p, g, L, _, _, _, _, t, _, rfl, ⟨.of (Same.upd nL), F4.mono s511, nL, G.mono s511, upd_same, fun x hx => ((all x hx).more nL).mono (Same.upd nL)⟩, by show 11 ≤ 20; decide, fun xs' H' M' l' => ?_⟩
   refine ⟨4, rfl, by decide, by decide, ?_⟩
   refine for_range (fun i σ' H' => ∃ (w2 w5 : Option V) (xs' : List V), σ' = [some (.ref a), some (.ref p), w2, some (.ref g), some (.ref L), w5, v6, v7] ∧ Mid H11 p g L t xs' H' ∧ xs'.length ≤ 21 + i) ⟨_, _, xs', rfl, M', l'⟩ ?_ ?_
   ·rintro i σ'' H12 hi ⟨w2, w5, xs2, rfl, M2, l2⟩
    refine ⟨_, rfl, .inl ⟨rfl, _, .of M2.lst⟩, _, rfl, _, rfl, p, g, t, [L, p], rfl, M2.av, M2.gt, S0, fun v H13 d13 tg => ?_⟩
    have M3 := M2.dr d13
    exact ⟨L, _, _, rfl, rfl, M3.lst, by omega, _, _, _, rfl, M3.push tg, by rw [List.length_append]; simp; omega⟩
   ·rintro σ'' H12 ⟨w2, w5, xs2, rfl, M2, l2⟩
    refine ⟨_, rfl, L, rfl, ⟨_, .of M2.lst⟩, ?_⟩
    refine for_list (K := K) (a := L) (xs := xs2) (fun i σ' H' => ∃ w2 w5 w6 w7 : Option V, σ' = [some (.ref a), some (.ref p), w2, some (.ref g), some (.ref L), w5, w6, w7] ∧ Mid H11 p g L t xs2 H') ⟨_, _, _, _, rfl, M2⟩ (fun i σ' H' _ h => by
     obtain ⟨_, _, _, _, _, M⟩ := h
     exact .of M.lst) ?_ ?_
    ·rintro i x σ' H13 hx ⟨x2, x5, x6, x7, rfl, M⟩
     obtain ⟨⟨o, ho⟩, tt, ht⟩ := (M.ok x (List.mem_of_getElem? hx)).use (K := K)
     refine ⟨_, rfl, x, tt, rfl, ht, ?_⟩
     refine ⟨_, rfl, x, o, rfl, ho, fun v Ha sa rd => ⟨v, _, rfl, .inl ⟨_, rd, fit_due o, rfl⟩, ?_⟩⟩
     refine ⟨_, rfl, x, o, rfl, ho.mono sa, fun v' Hc sc rd' => ⟨v', _, rfl, .inl ⟨_, rd', fit_due o, rfl⟩, rfl, _, rfl, iteN (by simp) ?_⟩⟩
     refine ⟨_, rfl, x, tt, rfl, ht.mono (sa.trans sc), _, rfl, rfl, _, rfl, iteN (by simp) ?_⟩
     exact ⟨_, _, _, _, rfl, M.mono (sa.trans sc)⟩
    ·rintro σ' H13 ⟨x2, x5, x6, x7, rfl, M⟩
     exact ⟨_, _, _, _, _, _, rfl, M.feed⟩
  ·rintro σ' H1 _
   exact q H1
end
end C6
namespace L2
open PySem PySem.Spec PyProof.Rows
section
variable {K : PySem.W.Frag} {x : Str} {C N T U : Addr} {es et : Array DictEntry} {nm q : Str} {bs : List Value} {sn : List Str} {sb : List Value} {ab : Bool} {cl : Option Bool} {dd : Option Addr} {k0 k1 k2 k3 k5 : Option Value} {c : Value} {d : Option Addr} {ep : Nat} {sl : Array (Option Value)}
theorem TbOk.mk' (a : PySem.W.nsIn K mainGlobals "TableError" = some (some (.ref T))) (l : K.lookup T = some (excClassObj nm q T U bs PyX.VE true sn sb ab cl dd k0 k1 k2 k3 k5 PyX.veNew)) (n : K.lookup U = some ⟨c, d, .dict et ep, sl⟩) (kp : PySem.W.keepIn K (.ref T) = true)
  (o : (strKeysB et && lacksB et ("__init__" :: (sysNames ++ fldNames))) = true) : TbOk K T U et := by
 rw [Bool.and_eq_true] at o
 exact ⟨.mk' a l n kp o.1, o.2⟩
theorem EcOk.mk' (a : PySem.W.nsIn K mainGlobals x = some (some (.ref C))) (l : K.lookup C = some (excClassObj nm q C N bs (.ref T :: PyX.VE) true sn sb ab cl dd k0 k1 k2 k3 k5 PyX.veNew)) (n : K.lookup N = some ⟨c, d, .dict es ep, sl⟩) (kp : PySem.W.keepIn K (.ref C) = true)
  (o : (strKeysB es && lacksB es (sysNames ++ fldNames)) = true) : EcOk K x T U et ⟨C, N, es⟩ := by
 rw [Bool.and_eq_true] at o
 exact ⟨.mk' a l n kp o.1, o.2⟩
def EcPl (K : PySem.W.Frag) (x : Str) (T U : Addr) (et : Array DictEntry) (e : Ec) : Prop := EcOk K x T U et e ∧ nsFind e.es "__init__" = none
theorem EcPl.mk (a : PySem.W.nsIn K mainGlobals x = some (some (.ref C))) (l : K.lookup C = some (excClassObj nm q C N bs (.ref T :: PyX.VE) true sn sb ab cl dd k0 k1 k2 k3 k5 PyX.veNew)) (n : K.lookup N = some ⟨c, d, .dict es ep, sl⟩) (kp : PySem.W.keepIn K (.ref C) = true)
  (o : (strKeysB es && lacksB es (sysNames ++ fldNames) && lacksB es ["__init__"]) = true) : EcPl K x T U et ⟨C, N, es⟩ := by
 rw [Bool.and_eq_true] at o
 exact ⟨.mk' a l n kp o.1, lacks_of o.2 (by simp)⟩
theorem nsFind_of {K : PySem.W.Frag} {N : Addr} {c : Value} {d : Option Addr} {es : Array DictEntry} {ep : Nat} {sl : Array (Option Value)} (n : K.lookup N = some ⟨c, d, .dict es ep, sl⟩) {x : Str} {v : Value} (e : PySem.W.nsIn K N x = some (some v)) : nsFind es x = some v := by
 unfold PySem.W.nsIn at e
 rw [n] at e
 dsimp only at e
 unfold nsFind findBy
 rw [← Array.find?_toList]
 split at e
 ·rename_i en he; cases e; rw [he]; rfl
 ·split at e <;> cases e
def EcIn (K : PySem.W.Frag) (x : Str) (T U : Addr) (et : Array DictEntry) (qual : Str) (st : Stmt) (e : Ec) : Prop := EcOk K x T U et e ∧ IniIn K e qual st
theorem EcIn.mk {qual : Str} {st : Stmt} {f : Addr} {od an : Option Addr} {osl : Array (Option Value)} {kV doc pm cdv ct : Value} (a : PySem.W.nsIn K mainGlobals x = some (some (.ref C))) (l : K.lookup C = some (excClassObj nm q C N bs (.ref T :: PyX.VE) true sn sb ab cl dd k0 k1 k2 k3 k5 PyX.veNew))
  (n : K.lookup N = some ⟨c, d, .dict es ep, sl⟩) (kp : PySem.W.keepIn K (.ref C) = true) (o : (strKeysB es && lacksB es (sysNames ++ fldNames)) = true) (ai : PySem.W.nsIn K N "__init__" = some (some (.ref f)))
  (li : K.lookup f = some ⟨.type "function", od, .func (PySem.W.fnOf "__init__" qual (defArgs st) (defBody st) (defScope st) .none kV doc pm an cdv ct), osl⟩) (ci : PySem.W.codeIn K cdv qual = true) (ki : PySem.W.keepIn K (.ref f) = true) : EcIn K x T U et qual st ⟨C, N, es⟩ :=
 ⟨.mk' a l n kp o, .mk (nsFind_of n ai) li ci ki⟩
end
end L2
namespace C6
open PySem L2 PySem.Spec PyProof.Rows
def distB (T : Addr) (l : List Addr) : Bool := match l with
 | [] => true
 | a :: r => !(a == T) && !(r.contains a) && distB T r
theorem dist_of {T : Addr} : ∀ {l : List Addr}, distB T l = true → (∀ j k : Nat, ∀ a : Addr, l[j]? = some a → l[k]? = some a → j = k) ∧ ∀ a ∈ l, a ≠ T
 | [], _ => ⟨fun j k a h => by simp at h, fun a h => by cases h⟩
 | b :: r, h => by
  unfold distB at h
  simp only [Bool.and_eq_true, Bool.not_eq_true'] at h
  obtain ⟨⟨h1, h2⟩, h3⟩ := h
  obtain ⟨i1, i2⟩ := dist_of h3
  have nb : b ∉ r := fun z => by
   have := List.contains_iff_mem.mpr z
   rw [h2] at this; cases this
  refine ⟨fun j k a hj hk => ?_, fun a ha => ?_⟩
  ·cases j with
   | zero =>
    cases k with
    | zero => rfl
    | succ k =>
     have e : b = a := by simpa using hj
     subst e
     have hk' : r[k]? = some b := by simpa using hk
     exact absurd (List.mem_of_getElem? hk') nb
   | succ j =>
    cases k with
    | zero =>
     have e : b = a := by simpa using hk
     subst e
     have hj' : r[j]? = some b := by simpa using hj
     exact absurd (List.mem_of_getElem? hj') nb
    | succ k => rw [i1 j k a (by simpa using hj) (by simpa using hk)]
  ·rcases List.mem_cons.mp ha with rfl | ha
   ·intro z; subst z; simp at h1
   ·exact i2 a ha
def cSel (l : List Ec) (k : Nat) : Ec := l.getD k ⟨0, 0, #[]⟩
theorem cSel_at {l : List Ec} {k : Nat} (h : k < l.length) : (l.map Ec.C)[k]? = some (cSel l k).C := by
 unfold cSel
 rw [List.getElem?_map, List.getD_eq_getElem?_getD, List.getElem?_eq_getElem h]
 rfl
theorem k12 {k : Nat} (h : k < 12) : k = 0 ∨ k = 1 ∨ k = 2 ∨ k = 3 ∨ k = 4 ∨ k = 5 ∨ k = 6 ∨ k = 7 ∨ k = 8 ∨ k = 9 ∨ k = 10 ∨ k = 11 := by omega
end C6
namespace C6
open PySem L2 PySem.Spec PyProof.Rows
open Tb
theorem all_mk {l : PySem.W.OpenLaw} {w : World} {K : PySem.W.Frag} {h : Heap} {mg : Str → Option Value} {fa T0 U0 : Addr} {et : Array DictEntry} {tk : Tok} {c0 c1 c2 c3 c4 c5 c6 c7 c8 c9 c10 c11 : Ec} (X : K.In h) (G : h.Ns mainGlobals mg) (hfa : mg "law" = some (.ref fa))
  (tb : TbOk K T0 U0 et) (e0 : EcIn K "NoGroup" T0 U0 et "NoGroup.__init__" (inClass (top 2) 0) c0) (e1 : EcOk K "NoTable" T0 U0 et c1) (e2 : EcOk K "NoShares" T0 U0 et c2) (e3 : EcOk K "NoPerm" T0 U0 et c3) (e4 : EcOk K "NoLines" T0 U0 et c4) (e5 : EcOk K "NoAlike" T0 U0 et c5) (e6 : EcOk K "NoName" T0 U0 et c6) (e7 : EcPl K "TooMany" T0 U0 et c7) (e8 : EcPl K "NoOrder" T0 U0 et c8) (e9 : EcPl K "NoPart" T0 U0 et c9) (e10 : EcPl K "NoText" T0 U0 et c10) (e11 : EcPl K "NoRow" T0 U0 et c11)
  (dst : distB T0 [c0.C, c1.C, c2.C, c3.C, c4.C, c5.C, c6.C, c7.C, c8.C, c9.C, c10.C, c11.C] = true) (m : PySem.W.nsIn K mainGlobals "MOST_THINGS" = some (some (.int 60 tk)))
  (d1 : DefIn K "is_whole" sWhole) (d2 : DefIn K "are_things" sThings) (d3 : DefIn K "has_shape" sShape) (d4 : DefIn K "has_back" sHasB) (d5 : DefIn K "goes_by_threes" sThrees) (d6 : DefIn K "ask_group" sAsk) (d7 : DefIn K "_law_feed" sFeed) (d8 : DefIn K "_law_draw" sDraw) (d9 : DefIn K "_law_twined" sTw) (d10 : DefIn K "_law_eight" sEight) (d11 : DefIn K "_law_by_perms" sByP) (d12 : DefIn K "_law_put" sPut) (d13 : DefIn K "_law_renamed" sRen) (d14 : DefIn K "_law_one_group" sOne) (d15 : DefIn K "_law_group" sGroup) (d16 : DefIn K "_law_shaped" sLawSh) (d17 : DefIn K "_law_due" sDue) (d18 : DefIn K "_law_told" sTold) (d19 : DefIn K "_law_set" sSet) (d20 : DefIn K "_law_bent" sBent) (d21 : DefIn K "_law_other" sOther) (d22 : DefIn K "law" sLaw)
  (z1 : PySem.W.nsIn K mainGlobals "list" = some none) (z2 : PySem.W.nsIn K mainGlobals "len" = some none) (z3 : PySem.W.nsIn K mainGlobals "abs" = some none) (z4 : PySem.W.nsIn K mainGlobals "range" = some none) (z5 : PySem.W.nsIn K mainGlobals "tuple" = some none) (z6 : PySem.W.nsIn K mainGlobals "isinstance" = some none) (z7 : PySem.W.nsIn K mainGlobals "all" = some none) (z8 : PySem.W.nsIn K mainGlobals "set" = some none) (z9 : PySem.W.nsIn K mainGlobals "repr" = some none) (z10 : PySem.W.nsIn K mainGlobals "any" = some none) (z11 : PySem.W.nsIn K mainGlobals "int" = some none) (z12 : PySem.W.nsIn K mainGlobals "bool" = some none) (z13 : PySem.W.nsIn K mainGlobals "sorted" = some none) (z14 : PySem.W.nsIn K mainGlobals "enumerate" = some none) (z15 : PySem.W.nsIn K mainGlobals "max" = some none) (z16 : PySem.W.nsIn K mainGlobals "ValueError" = some none) :
  ∃ fd : FuncData, (∀ (s : Shared) (v : Value), BindsTo s fd ⟨[v], []⟩ [("_law_script", v)]) ∧ ∀ base : Heap, K.In base → base.Ns mainGlobals mg → FnOk l.prog w K mg base CX0 6 fa fd ["_law_script"] (spLaw K) := by
 have T : Bl mg := ⟨PySem.W.mg_none_of X G z1, PySem.W.mg_none_of X G z2, PySem.W.mg_none_of X G z3, PySem.W.mg_none_of X G z4, PySem.W.mg_none_of X G z5, PySem.W.mg_none_of X G z6, PySem.W.mg_none_of X G z7, PySem.W.mg_none_of X G z8, PySem.W.mg_none_of X G z9, PySem.W.mg_none_of X G z10, PySem.W.mg_none_of X G z11, PySem.W.mg_none_of X G z12⟩
 have TS : BlS mg := ⟨PySem.W.mg_none_of X G z13⟩
 have T2 : Bl2 mg := ⟨PySem.W.mg_none_of X G z14, PySem.W.mg_none_of X G z15⟩
 have TV : BlV mg := ⟨PySem.W.mg_none_of X G z16⟩
 have hM := PySem.W.mg_of X G m
 obtain ⟨D1, D2⟩ := dist_of dst
 have S : Cs K mg T0 U0 et (cSel [c0, c1, c2, c3, c4, c5, c6, c7, c8, c9, c10, c11]) := by
  have ok : ∀ k, k < 12 → EcOk K (cname k) T0 U0 et (cSel [c0, c1, c2, c3, c4, c5, c6, c7, c8, c9, c10, c11] k) := fun k hk => by
   rcases k12 hk with rfl | rfl | rfl | rfl | rfl | rfl | rfl | rfl | rfl | rfl | rfl | rfl
   ·exact e0.1
   ·exact e1
   ·exact e2
   ·exact e3
   ·exact e4
   ·exact e5
   ·exact e6
   ·exact e7.1
   ·exact e8.1
   ·exact e9.1
   ·exact e10.1
   ·exact e11.1
  refine ⟨tb, ok, PySem.W.mg_of X G tb.t.at_, fun k hk => PySem.W.mg_of X G (ok k hk).c.at_, fun j k hj hk e => ?_, fun k hk => ?_, fun k h7 hk => ?_⟩
  ·refine D1 j k _ (cSel_at (l := [c0, c1, c2, c3, c4, c5, c6, c7, c8, c9, c10, c11]) hj) ?_
   rw [e]
   exact cSel_at (l := [c0, c1, c2, c3, c4, c5, c6, c7, c8, c9, c10, c11]) hk
  ·exact D2 _ (List.mem_of_getElem? (cSel_at (l := [c0, c1, c2, c3, c4, c5, c6, c7, c8, c9, c10, c11]) hk))
  ·have h5 : k = 7 ∨ k = 8 ∨ k = 9 ∨ k = 10 ∨ k = 11 := by omega
   rcases h5 with rfl | rfl | rfl | rfl | rfl
   ·exact e7.2
   ·exact e8.2
   ·exact e9.2
   ·exact e10.2
   ·exact e11.2
 refine d22.law X G hfa (fun base f fd nb kb F => ?_) (fun _ _ _ _ _ _ _ _ => .of_eq rfl)
 have I0 : IniOk l.prog w K mg base c0 ["self", "word", "thing"] (spIni2 c0.C "word" "thing") := e0.2.ok kb (fun f fd F => ok_ini2 F (e0.1.two tb kb) (e0.1.noN tb (by decide)) (e0.1.noN tb (by decide)) FS rfl (by kernel_rfl) (by kernel_rfl) (by kernel_rfl) (by kernel_rfl) (by kernel_rfl) (by kernel_rfl) (by kernel_rfl)) (fun _ _ _ _ _ _ => bd3 fun _ _ _ => rfl)
 have GW : Fn l.prog w K mg base CX0 1 "is_whole" ["thing"] (spWhole K) := d1.fn X G (fun f fd F => ok_whole F T) (fun _ _ _ _ _ _ => bd1 fun _ => rfl)
 have GTh : Fn l.prog w K mg base CX0 2 "are_things" ["thing", "count"] (spThings K) := d2.fn X G (fun f fd F => ok_things F T GW) (fun _ _ _ _ _ _ => bd2 fun _ _ => rfl)
 have GSh : Fn l.prog w K mg base CX0 3 "has_shape" ["thing"] (spShape K) := d3.fn X G (fun f fd F => ok_shape F T hM GTh) (fun _ _ _ _ _ _ => bd1 fun _ => rfl)
 have GHb : Fn l.prog w K mg base CX0 1 "has_back" ["table", "a"] (spTab hasB) := d4.fn X G (fun f fd F => ok_hasB F T) (fun _ _ _ _ _ _ => bd2 fun _ _ => rfl)
 have GBt : Fn l.prog w K mg base CX0 1 "goes_by_threes" ["table", "a"] (spTab thrB) := d5.fn X G (fun f fd F => ok_thr F T T2) (fun _ _ _ _ _ _ => bd2 fun _ _ => rfl)
 have GA : Fn l.prog w K mg base (CXE l.prog w) 4 "ask_group" ["thing"] (spAsk K (cSel [c0, c1, c2, c3, c4, c5, c6, c7, c8, c9, c10, c11])) := d6.fn X G (fun f fd F => ok_ask F T S kb I0 GSh GHb GBt) (fun _ _ _ _ _ _ => bd1 fun _ => rfl)
 have GF : Fn l.prog w K mg base CX0 1 "_law_feed" ["_law_script"] (spFeed K) := d7.fn X G (fun f fd F => ok_feed F T) (fun _ _ _ _ _ _ => bd1 fun _ => rfl)
 have GD : Fn l.prog w K mg base CX0 1 "_law_draw" ["_law_feed_here", "_law_many"] (spDraw) := d8.fn X G (fun f fd F => ok_draw F T) (fun _ _ _ _ _ _ => bd2 fun _ _ => rfl)
 have GTw : Fn l.prog w K mg base CX0 1 "_law_twined" ["_law_m", "_law_many", "_law_u"] (spTw) := d9.fn X G (fun f fd F => ok_tw F T) (fun _ _ _ _ _ _ => bd3 fun _ _ _ => rfl)
 have GE : Fn l.prog w K mg base CX0 1 "_law_eight" ["_law_m"] (spEight) := d10.fn X G (fun f fd F => ok_eight F T) (fun _ _ _ _ _ _ => bd1 fun _ => rfl)
 have GBy : Fn l.prog w K mg base CX0 1 "_law_by_perms" ["_law_perms"] (spByP) := d11.fn X G (fun f fd F => ok_byP F T TS) (fun _ _ _ _ _ _ => bd1 fun _ => rfl)
 have GPt : Fn l.prog w K mg base CX0 1 "_law_put" ["_law_one", "_law_other_here"] (spPut) := d12.fn X G (fun f fd F => ok_put F T) (fun _ _ _ _ _ _ => bd2 fun _ _ => rfl)
 have GRe : Fn l.prog w K mg base CX0 2 "_law_renamed" ["_law_feed_here", "_law_group_here"] (spRen) := d13.fn X G (fun f fd F => ok_ren F T GD) (fun _ _ _ _ _ _ => bd2 fun _ _ => rfl)
 have GO : Fn l.prog w K mg base CX0 2 "_law_one_group" ["_law_feed_here"] (spOne) := d14.fn X G (fun f fd F => ok_one F GD GTw GE GBy GPt) (fun _ _ _ _ _ _ => bd1 fun _ => rfl)
 have GG : Fn l.prog w K mg base CX0 3 "_law_group" ["_law_feed_here"] (spOne) := d15.fn X G (fun f fd F => ok_group F GO GD GRe) (fun _ _ _ _ _ _ => bd1 fun _ => rfl)
 have GLs : Fn l.prog w K mg base CX0 1 "_law_shaped" ["_law_thing"] (spShape K) := d16.fn X G (fun f fd F => ok_lawSh F T) (fun _ _ _ _ _ _ => bd1 fun _ => rfl)
 have GU : Fn l.prog w K mg base CX0 2 "_law_due" ["_law_thing"] (spDue K) := d17.fn X G (fun f fd F => ok_due F T GLs) (fun _ _ _ _ _ _ => bd1 fun _ => rfl)
 have GL : Fn l.prog w K mg base CX0 5 "_law_told" ["_law_thing"] (spDue K) := d18.fn X G (fun f fd F => ok_told F T TV S kb GA) (fun _ _ _ _ _ _ => bd1 fun _ => rfl)
 have GSt : Fn l.prog w K mg base CX0 1 "_law_set" ["_law_thing", "_law_a", "_law_b", "_law_one"] (spSet) := d19.fn X G (fun f fd F => ok_set F) (fun _ _ _ _ _ _ => bd4 fun _ _ _ _ => rfl)
 have GB : Fn l.prog w K mg base CX0 2 "_law_bent" ["_law_feed_here", "_law_group_here"] (spBent) := d20.fn X G (fun f fd F => ok_bent F T GD GSt) (fun _ _ _ _ _ _ => bd2 fun _ _ => rfl)
 have GOt : Fn l.prog w K mg base CX0 2 "_law_other" ["_law_feed_here"] (spOther) := d21.fn X G (fun f fd F => ok_other F T T2 GD) (fun _ _ _ _ _ _ => bd1 fun _ => rfl)
 exact ok_law F T GF GD GG GOt GTw GB GL GU
theorem walk {l : PySem.W.OpenLaw} {q : Program} {loose : List Str} {XP : (Str → Option Value) → Heap → Prop} {YP : World → Heap → Prop} {d : DefRec} {K : Params → PySem.W.Frag} (hn : l.most = some 63) (hdf : d.params.defaults = [])
  (hY : ∀ (w : World) (h : Heap), YP w h → (K w.params).In h)
  (F : ∀ (w : World) (mg : Str → Option Value) (fa : Addr) (h : Heap), (K w.params).In h → h.Ns mainGlobals mg → mg d.name = some (.ref fa) →
   ∃ fd : FuncData, (∀ (s : Shared) (u : Value), BindsTo s fd ⟨[u], []⟩ [("_law_script", u)]) ∧ ∀ base : Heap, (K w.params).In base → base.Ns mainGlobals mg → FnOk l.prog w (K w.params) mg base CX0 6 fa fd ["_law_script"] (spLaw (K w.params))) :
  PySem.W.WalkO q loose XP YP l.row.toRowW d [] (fun f vs => PySem.call f vs) :=
 L2.walk_of (n := 63) (k := 6) (x := "_law_script") (CX := fun _ => CX0) (sp := fun w => spLaw (K w.params)) hn (by decide) hdf ⟨rfl, by decide, by decide, rfl⟩ hY F (fun _ _ a ns hl _ hS => ⟨a, ns, rfl, hS, hl, fun _ => rfl⟩) fun _ _ _ _ _ z => z
end C6
namespace PySem.W.Fast
def tw12068516892398227179:=0
def tw10464951339262291567:=0
def tw2545791638429858038:=0
def tw16294910385536137653:=0
def tw18159599995129001962:=0
def tw1326934714612006356:=0
def tw4136414847899949668:=0
def tw8599019560333808516:=0
def tw11445119969561221018:=0
def tw11561846065969081743:=0
def tw14571269079717153887:=0
def tw3093813122420595972:=0
def tw8200007417480096093:=0
def tw3839383132218615723:=0
def tw1371529547114344966:=0
def tw2189188049246064543:=0
def tw15693665332983705789:=0
def tw1623869392653772072:=0
def tw12124980481101152026:=0
def tw6631996273784825936:=0
def tw8728979725078585346:=0
def tw8315465239143857794:=0
def tw10996848963991100012:=0
def tw16696954842539563357:=0
def tw9899208056103631601:=0
def tw12897491886134126016:=0
def tw9988557865316507361:=0
def tw6313715542261223328:=0
def tw14064111117968651478:=0
def tw11336127391643908487:=0
def tw15626930975880851098:=0
def tw16113213470324979279:=0
def tw15350469471525522447:=0
def tw1091097721627141205:=0
def tw13808767848955086398:=0
def tw1128502626426971477:=0
def tw2890925328553170526:=0
def tw10426984307210846377:=0
def tw1308037973657650482:=0
def tw8247927826359403842:=0
def tw1797137839575025722:=0
def tw4965325918206213015:=0
def tw10395299052381547811:=0
def tw13319258103824640922:=0
def tw3802398843292667344:=0
def tw5442634787802750364:=0
def tw2865517901676368027:=0
def tw14274684291938956362:=0
def tw10627228676018899822:=0
def tw15194718745279548974:=0
def tw2514707941722435511:=0
def tw4037811621959878480:=0
def tw5185294406359943729:=0
def tw7284134864171334957:=0
def tw15540644078909731830:=0
def tw13928211215233708066:=0
def tw6706403506400621363:=0
def tw15421059344258890114:=0
def tw13077144691454739385:=0
def tw4478204310595646153:=0
def tw2170324512235498779:=0
def tw1118016002103664577:=0
def tw12511346640006151871:=0
def tw5904190417605888408:=0
def tw3874264449826996385:=0
def tw15973359255492377179:=0
def tw11817660701785859010:=0
def tw12291995853555454507:=0
def tw18313587987650681100:=0
def tw11110770534656000271:=0
def tw2775192016005374056:=0
def tw14439318739107970061:=0
def tw2674837848158643779:=0
def tw2713715728684318704:=0
def tw2326630563366333261:=0
def tw5264693921607398315:=0
def tw8855684283009109671:=0
def tw4503654604544815208:=0
def tw8355009656787998964:=0
def tw15398995360739783498:=0
def tw16910742988445898685:=0
def tw797191643819540556:=0
def tw17890298660999571233:=0
def tw8677816153847648415:=0
def tw8671292062214345033:=0
def tw6373152656198447494:=0
def tw2940685740324153783:=0
def tw17471123280663668060:=0
def tw10730263767128215727:=0
def tw70281164086418182:=0
def tw407136343176256429:=0
def tw5612915069679762633:=0
def tw6505706493172701239:=0
def tw5651024682649892779:=0
def tw14936780025029973220:=0
def tw16905646727265031176:=0
def tw3161329475835067798:=0
def tw4925426024682666570:=0
def tw11876418942706648597:=0
def tw18056730632841315006:=0
def tw6395195501740631754:=0
def tw460910923481867830:=0
def tw13178231420682489151:=0
def tw3508640237035807312:=0
def tw10510864529968745495:=0
def tw12915037317448486674:=0
def tw17888681713819279532:=0
def tw1748776030581948610:=0
def tw4417933063176833606:=0
def tw4078005139443591755:=0
def tw3178736710846256196:=0
def tw8788623342871379046:=0
def tw1927589250811678192:=0
def tw2207673253066614348:=0
def tw4219933051125817161:=0
def tw9534842229978537008:=0
def tw17703552704846896665:=0
def tw3399594010981510048:=0
def tw14128076233511804374:=0
def tw3964451557533483090:=0
def tw11112503752903190480:=0
def tw5073785570694608350:=0
def tw3034489791388043423:=0
def tw14523460893059476529:=0
def tw8816063338631342763:=0
def tw6668025531173010812:=0
def tw3809672041821637001:=0
def tw2017183289834001915:=0
def tw1345340646574720024:=0
def tw7071354586143497393:=0
def tw7752857174109182377:=0
def tw215120439472245793:=0
def tw10544872805120638967:=0
def tw8921226350125314191:=0
def tw3076533391657948773:=0
def tw10675727364692414693:=0
def tw11380098306558999426:=0
def tw1861514789343600622:=0
def tw14017704974289671511:=0
def tw9594180577997170618:=0
def tw2637916973655802389:=0
def tw3046453139488205860:=0
def tw13319200208739201378:=0
def tw12155115810609717893:=0
def tw6052366553533868117:=0
def tw521228481535872034:=0
def tw4457162687195521045:=0
def tw8438445600509624784:=0
def tw5793131481628701558:=0
def tw5820198143914950456:=0
def tw13991029558399133166:=0
def tw10609494657801180273:=0
def tw8185063734129745943:=0
def tw14089713508746308855:=0
def tw6249452120388278700:=0
def tw17802294936948077025:=0
def tw9672128545280348657:=0
def tw18083923913832637461:=0
def tw16925408395121605869:=0
def tw14844968498018501266:=0
def tw909110892297298808:=0
def tw14088234012192278383:=0
def tw5072938045730510494:=0
def tw952408648567375084:=0
def tw9287528303759576651:=0
def tw11001181783595082789:=0
def tw5874710836982496930:=0
def tw3043457460079690441:=0
def tw11117108009671474013:=0
def tw16655858943185115285:=0
def tw18253803109171320918:=0
def tw2403532197464022155:=0
def tw15576101423336885257:=0
def tw15268858479901188562:=0
def tw13399216997158563208:=0
def tw16160824828386241077:=0
def tw9189593170309317352:=0
def tw12052842914983890324:=0
def tw12394556001987546812:=0
def tw10537918847308230798:=0
def tw4168136189111585088:=0
def tw4167222309974456885:=0
def tw5642492560967932026:=0
def tw17581310396451900494:=0
def tw9120621606270445537:=0
def tw1167052999971018475:=0
def tw15439447204034175006:=0
def tw12819578544844662336:=0
def tw17259669506955529345:=0
def tw4470694280494917163:=0
def tw13955359644960867636:=0
def tw3799973950388019823:=0
def tw2022345077231038594:=0
def tw9933898568387132613:=0
def tw8239535532943175838:=0
def tw13225650514154858603:=0
def tw1340384720546605468:=0
def tw11565775521232315334:=0
def tw2848620848639540410:=0
def tw12821632873917549208:=0
def tw10177858033841499945:=0
def tw9325010635416451342:=0
def tw1498087484891721925:=0
def tw17456685902588675499:=0
def tw12496534965150972029:=0
def tw2815305471415123965:=0
def tw11435245916116439568:=0
def tw13852123919569571318:=0
def tw6923426036755585493:=0
def tw16865663145655031006:=0
def tw15050730336042601215:=0
def tw8086536373285219949:=0
def tw14113113785533569920:=0
def tw3281281607465874507:=0
def tw11369791560010190139:=0
def tw11743975698828701284:=0
def tw2178105171523709541:=0
def tw12395826066219676032:=0
def tw4091649116301787198:=0
def tw5216154954310968301:=0
def tw13155811619004344695:=0
def tw14684903419668355758:=0
def tw14684025353870690996:=0
def tw3344288313387094414:=0
def tw9902944188972235395:=0
def tw8192721411412871766:=0
def tw17615387002421277553:=0
def tw10777925358193434310:=0
def tw14654626973023796458:=0
def tw5287655293459555573:=0
def tw17814622996089347310:=0
def tw7460389677713346675:=0
def tw4435332154805086288:=0
def tw4313953892532048986:=0
def tw3782497587545559118:=0
def tw1772307321528740825:=0
def tw894255025031149504:=0
def tw3177127008774110598:=0
def tw17183620832071232900:=0
def tw10333671160693679603:=0
def tw16912019442322846658:=0
def tw5405449575468102344:=0
def tw14769143335409966129:=0
def tw9611983408426186484:=0
def tw471703420618933233:=0
def tw18061653762223031701:=0
def tw3306080895466438852:=0
def tw9010520307429471298:=0
def tw16892266608186439608:=0
def tw15524784188197451648:=0
def tw717632666082155104:=0
def tw11674160735970006515:=0
def tw15444770424903010199:=0
def tw15130672637663944343:=0
def tw9995811544707390151:=0
def tw4919832856363258396:=0
def tw5503694141297262001:=0
def tw18153870326363563443:=0
def tw5081450655264194088:=0
def tw14615651638377584890:=0
def tw4947349975903073260:=0
def tw17770926371740797379:=0
def tw9118840174783774511:=0
def tw15349998750080161323:=0
def tw16104882220665258677:=0
def tw9052283409360900716:=0
def tw10863192621133442147:=0
def tw6918530611231148503:=0
def tw17972770649815376958:=0
def tw15319363433023275159:=0
def tw3375594853391277991:=0
def tw3823698189361494758:=0
def tw17224564343986748959:=0
def tw12298947374863296667:=0
def tw6110630863227164974:=0
def tw1976742666411684563:=0
def tw242424455536722054:=0
def tw7204774984060776556:=0
def tw15553240538298156748:=0
def tw1912885792905057078:=0
def tw5963935832678943415:=0
def tw13004308778785035431:=0
def tw17116036845267206114:=0
def tw4972358912301697333:=0
def tw17772484748032396286:=0
def tw12580167179466194521:=0
def tw15360136946025947207:=0
def tw11325920033820752127:=0
def tw5917035170229644209:=0
def tw68039254133105236:=0
def tw14827623868921419980:=0
def tw6531259228160621821:=0
def tw17153236401659500425:=0
def tw14209631212791549248:=0
def tw9144243775991194433:=0
def tw10307307153279916935:=0
def tw8365828240529403521:=0
def tw12484949777708344097:=0
def tw11050194529196892357:=0
def tw18295266113709281580:=0
def tw15976602859076682278:=0
def tw10056348814423187909:=0
def tw16225541256042077251:=0
def tw13750870659660912503:=0
def tw6154516508695758219:=0
def tw6055647766299362538:=0
def tw10116902854470860613:=0
def tw14723195322492714264:=0
def tw11873744257000166012:=0
def tw8198766080491105198:=0
def tw133960617041429326:=0
def tw2466271700772410022:=0
def tw12465166005017333037:=0
def tw16731502601056727368:=0
def tw18052133906818819718:=0
def tw4320705241271775911:=0
def tw450482370829617777:=0
def tw12007267883732583738:=0
def tw13777188049085831655:=0
def tw8481057989025681899:=0
def tw12927073629682845508:=0
def tw6940768859908365458:=0
def tw1330788273287276181:=0
def tw7811939347131596350:=0
def tw14765801583235483133:=0
def tw11186087127028101170:=0
def tw5630933468260007383:=0
def tw3629884736307611322:=0
def tw4257894373619936183:=0
def tw3265087903035188922:=0
def tw2358565201524484493:=0
def tw1779478426047583444:=0
def tw722347529441206194:=0
def tw1711698598552122695:=0
def tw10400508905953404811:=0
def tw8585988690701069715:=0
def tw9862235229812596134:=0
def tw13999031142330605761:=0
def tw9314178108445672638:=0
def tw13887030403769269259:=0
def tw1654834206075407571:=0
def tw1667021944630773777:=0
def tw11067515515729080303:=0
def tw8219591243406823087:=0
def tw2124240702042903410:=0
def tw10756718481885036715:=0
def tw16369997458061431534:=0
def tw10954012296564090614:=0
def tw5485190736922891021:=0
def tw15378908151714256482:=0
def tw17870976084045161790:=0
def tw10778956875256140830:=0
def tw13638703884923077439:=0
def tw15918517088125932034:=0
def tw17934789471065708178:=0
def tw12556037243893626073:=0
def tw12037780359815028959:=0
def tw4128780330320875435:=0
def tw8065685497949852044:=0
def tw6508406594079213356:=0
def tw6492470996465304087:=0
def tw7584603380743584667:=0
def tw13918522743119194194:=0
def tw13336063023797300244:=0
def tw7938735663748573838:=0
def tw13130732731822812714:=0
def tw828291353855384295:=0
def tw12636332703568339177:=0
end PySem.W.Fast
open PySem PySem.W PyProof.Rows
set_option maxRecDepth 100000 in
set_option maxHeartbeats 0 in
theorem PySem.Challenge.cw_classtab_k06_groups_or_not_holds : PySem.Challenge.rw_classtab_k06_groups_or_not.Holds := by
 w_on; o_law; k_head; (case hw => w_witness2)
 k_fill
 refine C6.walk (l := PySem.Challenge.rw_classtab_k06_groups_or_not) rfl rfl (fun w h Y => PySem.W.kIn_of Y) ?F
 case F =>
  intro w mg fa h KX G hmg
  refine' C6.all_mk KX G hmg (L2.TbOk.mk' ?ta ?tl ?tn ?tk ?to) (L2.EcIn.mk ?ea0 ?el0 ?en0 ?ek0 ?eo0 ?ef0 ?eg0 ?ec0 ?em0) (L2.EcOk.mk' ?ea1 ?el1 ?en1 ?ek1 ?eo1) (L2.EcOk.mk' ?ea2 ?el2 ?en2 ?ek2 ?eo2) (L2.EcOk.mk' ?ea3 ?el3 ?en3 ?ek3 ?eo3) (L2.EcOk.mk' ?ea4 ?el4 ?en4 ?ek4 ?eo4) (L2.EcOk.mk' ?ea5 ?el5 ?en5 ?ek5 ?eo5) (L2.EcOk.mk' ?ea6 ?el6 ?en6 ?ek6 ?eo6) (L2.EcPl.mk ?ea7 ?el7 ?en7 ?ek7 ?eo7) (L2.EcPl.mk ?ea8 ?el8 ?en8 ?ek8 ?eo8) (L2.EcPl.mk ?ea9 ?el9 ?en9 ?ek9 ?eo9) (L2.EcPl.mk ?ea10 ?el10 ?en10 ?ek10 ?eo10) (L2.EcPl.mk ?ea11 ?el11 ?en11 ?ek11 ?eo11) ?dst ?m (L2.DefIn.mk ?ia1 ?il1 ?ic1 ?ik1) (L2.DefIn.mk ?ia2 ?il2 ?ic2 ?ik2) (L2.DefIn.mk ?ia3 ?il3 ?ic3 ?ik3) (L2.DefIn.mk ?ia4 ?il4 ?ic4 ?ik4) (L2.DefIn.mk ?ia5 ?il5 ?ic5 ?ik5) (L2.DefIn.mk ?ia6 ?il6 ?ic6 ?ik6) (L2.DefIn.mk ?ia7 ?il7 ?ic7 ?ik7) (L2.DefIn.mk ?ia8 ?il8 ?ic8 ?ik8) (L2.DefIn.mk ?ia9 ?il9 ?ic9 ?ik9) (L2.DefIn.mk ?ia10 ?il10 ?ic10 ?ik10) (L2.DefIn.mk ?ia11 ?il11 ?ic11 ?ik11) (L2.DefIn.mk ?ia12 ?il12 ?ic12 ?ik12) (L2.DefIn.mk ?ia13 ?il13 ?ic13 ?ik13) (L2.DefIn.mk ?ia14 ?il14 ?ic14 ?ik14) (L2.DefIn.mk ?ia15 ?il15 ?ic15 ?ik15) (L2.DefIn.mk ?ia16 ?il16 ?ic16 ?ik16) (L2.DefIn.mk ?ia17 ?il17 ?ic17 ?ik17) (L2.DefIn.mk ?ia18 ?il18 ?ic18 ?ik18) (L2.DefIn.mk ?ia19 ?il19 ?ic19 ?ik19) (L2.DefIn.mk ?ia20 ?il20 ?ic20 ?ik20) (L2.DefIn.mk ?ia21 ?il21 ?ic21 ?ik21) (L2.DefIn.mk ?ia22 ?il22 ?ic22 ?ik22) ?iz1 ?iz2 ?iz3 ?iz4 ?iz5 ?iz6 ?iz7 ?iz8 ?iz9 ?iz10 ?iz11 ?iz12 ?iz13 ?iz14 ?iz15 ?iz16
  (case ta => k_is); (case tl => k_is); (case tn => k_is); (case tk => k_is); (case to => kernel_rfl)
  (case ea0 => k_is); (case el0 => k_is); (case en0 => k_is); (case ek0 => k_is); (case eo0 => kernel_rfl); (case ef0 => k_is); (case eg0 => k_is); (case ec0 => k_is); (case em0 => k_is)
  (case ea1 => k_is); (case el1 => k_is); (case en1 => k_is); (case ek1 => k_is); (case eo1 => kernel_rfl)
  (case ea2 => k_is); (case el2 => k_is); (case en2 => k_is); (case ek2 => k_is); (case eo2 => kernel_rfl)
  (case ea3 => k_is); (case el3 => k_is); (case en3 => k_is); (case ek3 => k_is); (case eo3 => kernel_rfl)
  (case ea4 => k_is); (case el4 => k_is); (case en4 => k_is); (case ek4 => k_is); (case eo4 => kernel_rfl)
  (case ea5 => k_is); (case el5 => k_is); (case en5 => k_is); (case ek5 => k_is); (case eo5 => kernel_rfl)
  (case ea6 => k_is); (case el6 => k_is); (case en6 => k_is); (case ek6 => k_is); (case eo6 => kernel_rfl)
  (case ea7 => k_is); (case el7 => k_is); (case en7 => k_is); (case ek7 => k_is); (case eo7 => kernel_rfl)
  (case ea8 => k_is); (case el8 => k_is); (case en8 => k_is); (case ek8 => k_is); (case eo8 => kernel_rfl)
  (case ea9 => k_is); (case el9 => k_is); (case en9 => k_is); (case ek9 => k_is); (case eo9 => kernel_rfl)
  (case ea10 => k_is); (case el10 => k_is); (case en10 => k_is); (case ek10 => k_is); (case eo10 => kernel_rfl)
  (case ea11 => k_is); (case el11 => k_is); (case en11 => k_is); (case ek11 => k_is); (case eo11 => kernel_rfl)
  (case dst => kernel_rfl)
  (case m => k_is)
  (case ia1 => k_is); (case il1 => k_is); (case ic1 => k_is); (case ik1 => k_is)
  (case ia2 => k_is); (case il2 => k_is); (case ic2 => k_is); (case ik2 => k_is)
  (case ia3 => k_is); (case il3 => k_is); (case ic3 => k_is); (case ik3 => k_is)
  (case ia4 => k_is); (case il4 => k_is); (case ic4 => k_is); (case ik4 => k_is)
  (case ia5 => k_is); (case il5 => k_is); (case ic5 => k_is); (case ik5 => k_is)
  (case ia6 => k_is); (case il6 => k_is); (case ic6 => k_is); (case ik6 => k_is)
  (case ia7 => k_is); (case il7 => k_is); (case ic7 => k_is); (case ik7 => k_is)
  (case ia8 => k_is); (case il8 => k_is); (case ic8 => k_is); (case ik8 => k_is)
  (case ia9 => k_is); (case il9 => k_is); (case ic9 => k_is); (case ik9 => k_is)
  (case ia10 => k_is); (case il10 => k_is); (case ic10 => k_is); (case ik10 => k_is)
  (case ia11 => k_is); (case il11 => k_is); (case ic11 => k_is); (case ik11 => k_is)
  (case ia12 => k_is); (case il12 => k_is); (case ic12 => k_is); (case ik12 => k_is)
  (case ia13 => k_is); (case il13 => k_is); (case ic13 => k_is); (case ik13 => k_is)
  (case ia14 => k_is); (case il14 => k_is); (case ic14 => k_is); (case ik14 => k_is)
  (case ia15 => k_is); (case il15 => k_is); (case ic15 => k_is); (case ik15 => k_is)
  (case ia16 => k_is); (case il16 => k_is); (case ic16 => k_is); (case ik16 => k_is)
  (case ia17 => k_is); (case il17 => k_is); (case ic17 => k_is); (case ik17 => k_is)
  (case ia18 => k_is); (case il18 => k_is); (case ic18 => k_is); (case ik18 => k_is)
  (case ia19 => k_is); (case il19 => k_is); (case ic19 => k_is); (case ik19 => k_is)
  (case ia20 => k_is); (case il20 => k_is); (case ic20 => k_is); (case ik20 => k_is)
  (case ia21 => k_is); (case il21 => k_is); (case ic21 => k_is); (case ik21 => k_is)
  (case ia22 => k_is); (case il22 => k_is); (case ic22 => k_is); (case ik22 => k_is)
  (case iz1 => k_is); (case iz2 => k_is); (case iz3 => k_is); (case iz4 => k_is); (case iz5 => k_is); (case iz6 => k_is); (case iz7 => k_is); (case iz8 => k_is); (case iz9 => k_is); (case iz10 => k_is); (case iz11 => k_is); (case iz12 => k_is); (case iz13 => k_is); (case iz14 => k_is); (case iz15 => k_is); (case iz16 => k_is)
