import PyProof.Rows.All
import Wide.All
import OpenK.AllK
import Wide.FinOn
import Lean
import PyProof.EqAt
import PyProof.EqKinds
import PyProof.TupleCall
import KE.KSortTup
import PyProof.DictWalks
import KE.KDictSum
import PyProof.EnumMake
import PyProof.EnumFor
import PyProof.TupleIter
import PyProof.Rows.Range3
import PyProof.ZipIter
import PyProof.Rows.IntMath
import PySem.Challenge.RW_classtab_k24_spreads
set_option Elab.async false
set_option linter.all false
set_option maxRecDepth 100000
theorem Za {α β : Type _} {l : List α} {f : α → β} : (l.map f).length = l.length := List.length_map ..
theorem Zb {α : Type _} {l : List α} {i : Nat} {a : α} : l.getD i a = l[i]?.getD a := List.getD_eq_getElem?_getD ..
theorem Zc {α β : Type _} {f : α → β} {l : List α} {i : Nat} : (l.map f)[i]? = l[i]?.map f := List.getElem?_map ..
theorem Zd {α : Type _} {a b : List α} : (a ++ b).length = a.length + b.length := List.length_append ..
theorem Ze {α : Type _} {n : Nat} {a : α} : (List.replicate n a).length = n := List.length_replicate ..
theorem Zf {α : Type _} {l : List α} {i : Nat} (h : i < l.length) : l[i]? = some l[i] := List.getElem?_eq_getElem h
theorem Zg {n : Nat} : (List.range n).length = n := List.length_range ..
theorem Zh {α : Type _} {l : List α} : l.toArray.size = l.length := List.size_toArray
theorem Zi {α : Type _} {a : α} {l : List α} : (a :: l).length = l.length + 1 := List.length_cons ..
theorem Zj (n : Nat) : (n : Int).toNat = n := Int.toNat_natCast n
theorem Zk {α : Type _} {a : α} : [a].length = 1 := List.length_singleton ..
namespace L2
open PySem PySem.Spec PyProof.Rows
abbrev Z9 := Sum Int Str
def Ur : Z9 → Value → Bool
 | .inl k, v => Value.isInt k v
 | .inr x, v => Value.isStrOf x v
def ZmD (w : World) : Z9 → Int
 | .inl k => hashInt k
 | .inr x => hashStr w x
theorem ZY : ∀ {k : Z9} {v : Value}, Ur k v = true → (∃ i t, k = Sum.inl i ∧ v = Value.int i t) ∨ (∃ x t, k = Sum.inr x ∧ v = Value.str x t)
 | .inl i, v, h => by
  obtain ⟨t, e⟩ := Value.isInt_shape (k := i) (v := v) h
  exact .inl ⟨i, t, rfl, e⟩
 | .inr x, v, h => by
  obtain ⟨t, e⟩ := Value.isStrOf_shape (x := x) (v := v) h
  exact .inr ⟨x, t, rfl, e⟩
theorem Zd2 (i : Int) (t : Tok) : Ur (.inl i) (.int i t) = true := by simp [Ur, Value.isInt]
theorem Zd1 (x : Str) (t : Tok) : Ur (.inr x) (.str x t) = true := by simp [Ur, Value.isStrOf]
theorem ZjJ (a b : Int) : decide ((Sum.inl a : Z9) = Sum.inl b) = (a == b) := by
 by_cases e : a = b
 ·subst e; simp
 ·have h : ¬ (Sum.inl a : Z9) = Sum.inl b := fun q => e (Sum.inl.inj q)
  rw [decide_eq_false h]
  exact (beq_eq_false_iff_ne.mpr e).symm
theorem ZjG (a b : Str) : decide ((Sum.inr a : Z9) = Sum.inr b) = decide (a = b) := by
 by_cases e : a = b
 ·subst e; simp
 ·have h : ¬ (Sum.inr a : Z9) = Sum.inr b := fun q => e (Sum.inr.inj q)
  rw [decide_eq_false h, decide_eq_false e]
theorem ZjI (a : Int) (b : Str) : decide ((Sum.inl a : Z9) = Sum.inr b) = false := decide_eq_false (fun q => nomatch q)
theorem ZjH (a : Str) (b : Int) : decide ((Sum.inr a : Z9) = Sum.inl b) = false := decide_eq_false (fun q => nomatch q)
def ZX (prog : Program) (w : World) : PySem.KeyKind prog w Z9 where
 is := Ur
 hash := ZmD w
 inj := fun v a b ha hb => by
  rcases ZY ha with ⟨i, t, rfl, rfl⟩ | ⟨x, t, rfl, rfl⟩
  ·rcases ZY hb with ⟨j, u, rfl, e⟩ | ⟨y, u, rfl, e⟩
   ·injection e with e1 _; rw [e1]
   ·exact nomatch e
  ·rcases ZY hb with ⟨j, u, rfl, e⟩ | ⟨y, u, rfl, e⟩
   ·exact nomatch e
   ·injection e with e1 _; rw [e1]
 byValue := fun k v h => by
  rcases ZY h with ⟨i, t, rfl, rfl⟩ | ⟨x, t, rfl, rfl⟩ <;> rfl
 pyHash := fun hv h => by
  rcases ZY hv with ⟨i, t, rfl, rfl⟩ | ⟨x, t, rfl, rfl⟩
  ·exact wpAny_pyHash_int h
  ·exact wpAny_pyHash_str h
 eqBool := fun hu hv h => by
  rcases ZY hu with ⟨i, t, rfl, rfl⟩ | ⟨x, t, rfl, rfl⟩
  ·rcases ZY hv with ⟨j, u, rfl, rfl⟩ | ⟨y, u, rfl, rfl⟩
   ·rw [ZjJ] at h; exact wpAny_eqBool_int h
   ·rw [ZjI] at h; exact SeqAt.EqAt.int_str i t y u _ _ _ _ h
  ·rcases ZY hv with ⟨j, u, rfl, rfl⟩ | ⟨y, u, rfl, rfl⟩
   ·rw [ZjH] at h; exact SeqAt.EqAt.str_int x t j u _ _ _ _ h
   ·rw [ZjG] at h; exact wpAny_eqBool_str h
 «strs» := fun k x t v h => by
  rcases ZY h with ⟨i, u, rfl, e⟩ | ⟨y, u, rfl, e⟩
  ·exact nomatch e
  ·injection e with e1 _
   subst e1
   cases v <;> rfl
theorem Zba (prog : Program) (w : World) (i : Int) (t : Tok) : (ZX prog w).is (.inl i) (.int i t) = true := Zd2 i t
theorem Za9 (prog : Program) (w : World) (x : Str) (t : Tok) : (ZX prog w).is (.inr x) (.str x t) = true := Zd1 x t
inductive V where
 | non | bl (b : Bool) | int (i : Int) | str (x : Str) | byt (b : Array UInt8) | flt (b : UInt64) | ref (a : Addr) | ty (n : String)
 deriving DecidableEq
def ZE : V → Value → Prop
 | .non, u => u = Value.none
 | .bl b, u => u = Value.bool b
 | .int i, u => ∃ t, u = Value.int i t
 | .str x, u => ∃ t, u = Value.str x t
 | .byt b, u => ∃ t, u = Value.bytes b t
 | .flt b, u => ∃ t, u = Value.float b t
 | .ref a, u => u = Value.ref a
 | .ty n, u => u = Value.type n
abbrev Zz : List V → List Value → Prop := Paired ZE
theorem Zz.length {xs : List V} {us : List Value} (r : Zz xs us) : xs.length = us.length := Paired.length r
theorem Zz.get : ∀ {xs : List V} {us : List Value} {i : Nat} {x : V}, Zz xs us → xs[i]? = some x → ∃ u, us[i]? = some u ∧ ZE x u
 | _, _, _, _, .nil, e => by simp at e
 | _, _, 0, _, .cons r _, e => by simp at e; subst e; exact ⟨_, rfl, r⟩
 | _, _, i + 1, x, .cons _ t, e => by
  obtain ⟨u, h1, h2⟩ := Zz.get (i := i) (x := x) t (by simpa using e)
  exact ⟨u, by simpa using h1, h2⟩
theorem Zz.set {x : V} {u : Value} (r : ZE x u) : ∀ {xs : List V} {us : List Value} (i : Nat), Zz xs us → Zz (xs.set i x) (us.set i u)
 | _, _, _, .nil => .nil
 | _, _, 0, .cons _ t => .cons r t
 | _, _, i + 1, .cons q t => .cons q (Zz.set r i t)
theorem Zz.append : ∀ {xs ys : List V} {us ws : List Value}, Zz xs us → Zz ys ws → Zz (xs ++ ys) (us ++ ws)
 | _, _, _, _, .nil, s => s
 | _, _, _, _, .cons r t, s => .cons r (Zz.append t s)
theorem Zz.take : ∀ {xs : List V} {us : List Value} (n : Nat), Zz xs us → Zz (xs.take n) (us.take n)
 | _, _, 0, _ => .nil
 | _, _, _ + 1, .nil => .nil
 | _, _, n + 1, .cons r t => .cons r (Zz.take n t)
theorem Zz.drop : ∀ {xs : List V} {us : List Value} (n : Nat), Zz xs us → Zz (xs.drop n) (us.drop n)
 | _, _, 0, r => r
 | _, _, _ + 1, .nil => .nil
 | _, _, n + 1, .cons _ t => Zz.drop n t
def VS : Option V → Option Value → Prop
 | some v, some u => ZE v u
 | none, none => True
 | _, _ => False
def KV {κ : Type} : List (κ × V) → List (κ × Value) → Prop := Paired fun (p : κ × V) (q : κ × Value) => p.1 = q.1 ∧ ZE p.2 q.2
def kV : Z9 → V
 | .inl i => .int i
 | .inr x => .str x
inductive HO where
 | lst (xs : List V)
 | tup (xs : List V)
 | dK (kvs : List (Z9 × V)) | dT (kvs : List (List Z9 × V))
 | set (S : Int → Bool) (n : Nat)
 | ins (C dx : Addr) (fs : List (Str × V))
 | own (x : Addr)
 | xd (fs : List (Str × V))
 | met (f x : Addr)
 | rng (lo hi : Int)
 | frz (o : Obj) (u : HO)
 | tbl (ps : Array Value)
 | ext (φ : Heap → Prop)
abbrev Hp := Addr → Option HO
def upd (H : Hp) (a : Addr) (o : HO) : Hp := fun b => if b = a then some o else H b
theorem Zm {H : Hp} {a : Addr} {o : HO} : upd H a o a = some o := by unfold upd; rw [if_pos rfl]
theorem Zt {H : Hp} {a b : Addr} {o : HO} (h : b ≠ a) : upd H a o b = H b := by unfold upd; rw [if_neg h]
theorem ZgI {H : Hp} {a : Addr} {o u : HO} : upd (upd H a o) a u = upd H a u := by
 funext b; unfold upd; split <;> rfl
theorem Zlk {H : Hp} {a b : Addr} {o u : HO} (h : H a = some o) (h' : H b = some u) (d : o ≠ u) : a ≠ b := by
 intro e; subst e; rw [h] at h'; exact d (Option.some.inj h')
theorem ZP {H : Hp} {a b : Addr} {o : HO} (h : H a = some o) (h' : H b = none) : a ≠ b := by
 intro e; subst e; rw [h] at h'; cases h'
section
variable (P : Program) (w : World)
def ZS (H : Hp) (h : Heap) (a : Addr) : HO → Prop
 | .lst xs => xs.length ≤ sizeLine ∧ ∃ (its : List Value) (n : Nat), Zz xs its ∧ h.get? a = some { cls := .type "list", data := .seq its.toArray n }
 | .tup xs => xs.length ≤ sizeLine ∧ ∃ its : List Value, Zz xs its ∧ IsTup h a its.toArray
 | .dK kvs => kvs.length ≤ sizeLine ∧ (a == sysModules) = false ∧ ∃ vs, KV kvs vs ∧ h.DictOf (ZX P w) a vs
 | .dT kvs => kvs.length ≤ sizeLine ∧ (a == sysModules) = false ∧ ∃ xs : List (List Z9 × Addr × Value),
   Paired (fun (p : List Z9 × V) (q : List Z9 × Addr × Value) => p.1 = q.1 ∧ H q.2.1 = some (.tup (p.1.map kV)) ∧ ZE p.2 q.2.2) kvs xs ∧
   ∃ o es ep, h.get? a = some o ∧ o.ExactDict ∧ o.data = .dict es ep ∧ es.toList = xs.map (entryOfKey (tupleKind (ZX P w))) ∧ (xs.map (·.1)).Nodup
 | .set S n => h.SetOf (intKind P w) a S n
 | .ins C dx fs => H dx = some (.own a) ∧ fs.length ≤ 1000 ∧ dx ≠ a ∧ h.get? a = some (PySem.W.instObj C dx) ∧
   ∃ mA, h.Ns1 dx mA ∧ (∀ f, VS (fs.lookup f) (mA f)) ∧ PySem.Within mA (fs.map (·.1))
 | .own _ => ∃ o, h.get? a = some o
 | .xd fs => ∃ mA, h.Ns1 a mA ∧ ∀ f, VS (fs.lookup f) (mA f)
 | .rng lo hi => ∃ t u v, h.get? a = some { cls := .type "range", data := .fields #[.int lo t, .int hi u, .int 1 v] }
 | .frz o u => h.get? a = some o ∧ ZS H h a u
 | .tbl ps => h.get? a = some { cls := .none, data := .fields ps }
 | .met f x => h.get? a = some (PySem.W.methodObj (.ref f) (.ref x))
 | .ext φ => φ h ∧ (∃ o, h.get? a = some o) ∧ ∀ h1 h2 : Heap, φ h1 → (∀ o, h1.get? a = some o → h2.get? a = some o) → φ h2
def JQ (H : Hp) (h : Heap) : Prop := ∀ a o, H a = some o → ZS P w H h a o
end
section
variable {P : Program} {w : World} {H H' : Hp} {h h' : Heap} {a : Addr} {o : HO}
theorem ZS.lt (x : ZS P w H h a o) : a < h.objs.size := by
 cases o with
 | lst xs => obtain ⟨_, _, _, _, e⟩ := x; exact Heap.lt_size e
 | tup xs => obtain ⟨_, _, _, p⟩ := x; exact p.lt
 | dK kvs => obtain ⟨_, _, _, _, o, _, _, e, _⟩ := x; exact Heap.lt_size e
 | dT kvs => obtain ⟨_, _, _, _, o, _, _, e, _⟩ := x; exact Heap.lt_size e
 | set S n => obtain ⟨o, _, _, _, e, _⟩ := x; exact Heap.lt_size e
 | ins C dx fs => obtain ⟨_, _, _, e, _⟩ := x; exact Heap.lt_size e
 | own y => obtain ⟨_, e⟩ := x; exact Heap.lt_size e
 | xd fs => obtain ⟨_, ⟨_, _, _, e, _⟩, _⟩ := x; exact Heap.lt_size e
 | rng lo hi => obtain ⟨_, _, _, e⟩ := x; exact Heap.lt_size e
 | frz ob u => obtain ⟨e, _⟩ := x; exact Heap.lt_size e
 | tbl ps => exact Heap.lt_size (show h.get? a = some _ from x)
 | met f y => exact Heap.lt_size (show h.get? a = some _ from x)
 | ext φ => obtain ⟨_, ⟨_, e⟩, _⟩ := x; exact Heap.lt_size e
theorem Paired.mapP {α β : Type} {F G : α → β → Prop} : ∀ {l₁ : List α} {l₂ : List β}, Paired F l₁ l₂ → (∀ a b, F a b → G a b) → Paired G l₁ l₂
 | _, _, .nil, _ => .nil
 | _, _, .cons r t, f => .cons (f _ _ r) (Paired.mapP t f)
theorem ZS.stay (x : ZS P w H h a o) (k : ∀ b u, (b = a ∨ H b = some (.own a)) → h.get? b = some u → h'.get? b = some u)
  (ho : ∀ b, H b = some (.own a) → H' b = some (.own a)) (ht : ∀ b xs, H b = some (.tup xs) → H' b = some (.tup xs)) : ZS P w H' h' a o := by
 induction o with
 | lst xs => obtain ⟨z, its, n, r, e⟩ := x; exact ⟨z, its, n, r, k _ _ (.inl rfl) e⟩
 | tup xs => obtain ⟨z, its, r, ob, e, c⟩ := x; exact ⟨z, its, r, ob, k _ _ (.inl rfl) e, c⟩
 | dK kvs => obtain ⟨z, y, vs, r, ob, es, ep, e, c⟩ := x; exact ⟨z, y, vs, r, ob, es, ep, k _ _ (.inl rfl) e, c⟩
 | dT kvs =>
  obtain ⟨z, y, xs, r, ob, es, ep, e, c⟩ := x
  exact ⟨z, y, xs, Paired.mapP r fun p q z => ⟨z.1, ht _ _ z.2.1, z.2.2⟩, ob, es, ep, k _ _ (.inl rfl) e, c⟩
 | set S n => obtain ⟨ob, es, ep, t, e, c⟩ := x; exact ⟨ob, es, ep, t, k _ _ (.inl rfl) e, c⟩
 | ins C dx fs =>
  obtain ⟨d, z, ne, e, mA, ⟨od, es, ep, e2, c⟩, r⟩ := x
  exact ⟨ho _ d, z, ne, k _ _ (.inl rfl) e, mA, ⟨od, es, ep, k _ _ (.inr d) e2, c⟩, r⟩
 | own y => obtain ⟨ob, e⟩ := x; exact ⟨ob, k _ _ (.inl rfl) e⟩
 | xd fs => obtain ⟨mA, ⟨od, es, ep, e, c⟩, r⟩ := x; exact ⟨mA, ⟨od, es, ep, k _ _ (.inl rfl) e, c⟩, r⟩
 | rng lo hi => obtain ⟨t, u, v, e⟩ := x; exact ⟨t, u, v, k _ _ (.inl rfl) e⟩
 | frz ob u ih => obtain ⟨e, q⟩ := x; exact ⟨k _ _ (.inl rfl) e, ih q⟩
 | tbl ps =>
  have e : h.get? a = some { cls := .none, data := .fields ps } := x
  show h'.get? a = some { cls := .none, data := .fields ps }
  exact k a _ (.inl rfl) e
 | met f y =>
  have e : h.get? a = some (PySem.W.methodObj (.ref f) (.ref y)) := x
  show h'.get? a = some (PySem.W.methodObj (.ref f) (.ref y))
  exact k a _ (.inl rfl) e
 | ext φ => obtain ⟨p, ⟨o, e⟩, st⟩ := x; exact ⟨st _ _ p fun o q => k _ _ (.inl rfl) q, ⟨o, k _ _ (.inl rfl) e⟩, st⟩
theorem JQ.lt (x : JQ P w H h) (e : H a = some o) : a < h.objs.size := (x a o e).lt
theorem JQ.fresh (x : JQ P w H h) (e : h.objs.size ≤ a) : H a = none := by
 cases q : H a with
 | none => rfl
 | some u => exact absurd (Nat.lt_of_lt_of_le (x.lt q) e) (Nat.lt_irrefl _)
theorem JQ.kept (x : JQ P w H h) (k : ∀ b u, h.get? b = some u → h'.get? b = some u) : JQ P w H h' := fun a o e =>
 (x a o e).stay (fun b u _ q => k b u q) (fun _ q => q) fun _ _ q => q
theorem JQ.laid (x : JQ P w H h) (k : ∀ b u, h.get? b = some u → h'.get? b = some u) (hp : h.objs.size ≤ a) (new : ZS P w (upd H a o) h' a o) : JQ P w (upd H a o) h' := fun b u e => by
 have hn := x.fresh hp
 by_cases hb : b = a
 ·subst hb; rw [Zm] at e; cases e; exact new
 ·rw [Zt hb] at e
  exact (x b u e).stay (fun c v _ q => k c v q) (fun c q => by rw [Zt (ZP q hn)]; exact q) fun c xs q => by rw [Zt (ZP q hn)]; exact q
end
def Rd (H : Hp) (a : Addr) (u : HO) : Prop := H a = some u ∨ ∃ o, H a = some (.frz o u)
theorem Rd.ok {P : Program} {w : World} {H : Hp} {h : Heap} {a : Addr} {u : HO} (r : Rd H a u) (x : JQ P w H h) : ZS P w H h a u := by
 rcases r with r | ⟨o, r⟩
 ·exact x a u r
 ·obtain ⟨_, q⟩ := x a _ r
  exact q
def Mut : Option HO → Prop
 | some (.lst _) => True
 | some (.dK _) => True
 | some (.dT _) => True
 | some (.set _ _) => True
 | some (.ins _ _ _) => True
 | some (.ext _) => True
 | _ => False
section
variable {P : Program} {w : World} {H : Hp} {h h' : Heap} {x e : Addr} {o' : HO}
theorem JQ.write (ok : JQ P w H h) (mu : Mut (H x)) (he : e = x ∨ H e = some (.own x)) (k : ∀ b u, b ≠ e → h.get? b = some u → h'.get? b = some u) (heo : ∃ u, h'.get? e = some u)
  (new : ZS P w (upd H x o') h' x o') : JQ P w (upd H x o') h' := fun b u q => by
 have nown : ∀ c y, H c = some (.own y) → c ≠ x := fun c y r z => by subst z; rw [r] at mu; exact mu
 have ntup : ∀ c xs, H c = some (.tup xs) → c ≠ x := fun c xs r z => by subst z; rw [r] at mu; exact mu
 by_cases hb : b = x
 ·subst hb; rw [Zm] at q; cases q; exact new
 ·rw [Zt hb] at q
  by_cases hbe : b = e
  ·have q' : H b = some (.own x) := by
    rcases he with z | z
    ·exact absurd (hbe.trans z) hb
    ·rw [hbe]; exact z
   rw [q] at q'; cases q'
   obtain ⟨v, hv⟩ := heo
   exact ⟨v, by rw [hbe]; exact hv⟩
  ·refine (ok b u q).stay (fun c v hc r => k c v ?_ r) (fun c r => by rw [Zt (nown c b r)]; exact r) fun c xs r => by rw [Zt (ntup c xs r)]; exact r
   rcases hc with rfl | hc
   ·exact hbe
   ·rintro rfl
    rcases he with z | z
    ·exact nown c b hc z
    ·rw [hc] at z; cases z; exact hb rfl
end
structure Un (fs ex : List Addr) (H H' : Hp) (h h' : Heap) : Prop where
 keep : ∀ b o, h.get? b = some o → H b = none → b ∉ fs → b ∉ ex → h'.get? b = some o
 slot : ∀ b o, h.get? b = some o → H b = none → b ∈ fs → b ∉ ex → ∃ sl, h'.get? b = some { o with slots := sl }
 free : ∀ b o, h.get? b = some o → H b = none → b ∉ ex → H' b = none
 there : ∀ b o, h.get? b = some o → b ∉ ex → ∃ o', h'.get? b = some o'
 tups : ∀ b xs, H b = some (.tup xs) → H' b = some (.tup xs)
 frzs : ∀ b o u, H b = some (.frz o u) → H' b = some (.frz o u)
 tbls : ∀ b ps, H b = some (.tbl ps) → ∃ more, H' b = some (.tbl (ps ++ more))
section
variable {fs fs' ex ex' : List Addr} {H H1 H2 : Hp} {h h1 h2 h' : Heap} {a x e : Addr} {o : HO}
theorem Un.any (u : Un fs ex H H1 h h1) {b : Addr} {ob : Obj} (q : h.get? b = some ob) (n : H b = none) (hx : b ∉ ex) : ∃ sl, h1.get? b = some { ob with slots := sl } := by
 by_cases hb : b ∈ fs
 ·exact u.slot b ob q n hb hx
 ·exact ⟨ob.slots, u.keep b ob q n hb hx⟩
theorem Un.kept (k : ∀ b u, h.get? b = some u → h'.get? b = some u) : Un fs ex H H h h' :=
 ⟨fun b ob q _ _ _ => k b ob q, fun b ob q _ _ _ => ⟨ob.slots, k b ob q⟩, fun _ _ _ n _ => n, fun b ob q _ => ⟨ob, k b ob q⟩, fun _ _ q => q, fun _ _ _ q => q, fun _ ps q => ⟨#[], by rw [q]; simp⟩⟩
theorem Un.refl : Un fs ex H H h h := Un.kept fun _ _ q => q
theorem Un.laid (k : ∀ b u, h.get? b = some u → h'.get? b = some u) (hp : h.objs.size ≤ a) (hn : H a = none) : Un fs ex H (upd H a o) h h' where
 keep := fun b u q _ _ _ => k b u q
 slot := fun b u q _ _ _ => ⟨u.slots, k b u q⟩
 free := fun b u q n _ => by rw [Zt (Nat.ne_of_lt (Nat.lt_of_lt_of_le (Heap.lt_size q) hp))]; exact n
 there := fun b u q _ => ⟨u, k b u q⟩
 tups := fun b xs q => by rw [Zt (ZP q hn)]; exact q
 frzs := fun b u xs q => by rw [Zt (ZP q hn)]; exact q
 tbls := fun b ps q => ⟨#[], by rw [Zt (ZP q hn), q]; simp⟩
theorem Un.write (mu : Mut (H x)) (he : e = x ∨ H e = some (.own x)) (k : ∀ b u, b ≠ e → h.get? b = some u → h'.get? b = some u) (heo : ∃ u, h'.get? e = some u) : Un fs ex H (upd H x o) h h' := by
 have hx : ∀ b, H b = none → b ≠ x := fun b n z => by subst z; rw [n] at mu; exact mu
 have hb : ∀ b, H b = none → b ≠ e := fun b n z => by
  subst z
  rcases he with r | r
  ·exact hx b n r
  ·rw [n] at r; cases r
 have hm : ∀ b u, H b = some u → ¬ Mut (some u) → b ≠ x := fun b u q nm z => by subst z; rw [q] at mu; exact nm mu
 refine ⟨fun b u q n _ _ => k b u (hb b n) q, fun b u q n _ _ => ⟨u.slots, k b u (hb b n) q⟩, fun b u q n _ => by rw [Zt (hx b n)]; exact n, fun b u q _ => ?_,
  fun b xs q => by rw [Zt (hm b _ q fun z => z)]; exact q, fun b u xs q => by rw [Zt (hm b _ q fun z => z)]; exact q, fun b ps q => ⟨#[], by rw [Zt (hm b _ q fun z => z), q]; simp⟩⟩
 by_cases hbe : b = e
 ·subst hbe; exact heo
 ·exact ⟨u, k b u hbe q⟩
end
def trk (h : Heap) (H : Hp) : List Addr := (List.range h.objs.size).filter fun a => (H a).isSome
def Zad (h : Heap) (H : Hp) : Heap := PySem.W.hideAll h (trk h H)
theorem Zd7 (h : Heap) (H : Hp) : (Zad h H).objs.size = h.objs.size := PySem.W.hideAll_size _ _
theorem Zge {h : Heap} {H : Hp} {b : Addr} {o : Obj} (e : h.get? b = some o) (n : H b = none) : (Zad h H).get? b = some o :=
 PySem.W.hideAll_get _ e fun hm => by
  have q : (H b).isSome = true := (List.mem_filter.mp hm).2
  rw [n] at q; simp at q
theorem ZhA {h : Heap} {H : Hp} {b : Addr} {o : Obj} (e : (Zad h H).get? b = some o) : h.get? b = some o ∧ H b = none := by
 have e' : h.get? b = some o := PySem.W.of_hideAll (trk h H) e
 refine ⟨e', ?_⟩
 cases q : H b with
 | none => rfl
 | some x =>
  have hm : b ∈ trk h H := List.mem_filter.mpr ⟨List.mem_range.mpr (Heap.lt_size e'), by simp [q]⟩
  have z : (Zad h H).get? b = none := PySem.W.hideAll_none (trk h H) hm
  rw [z] at e; cases e
structure Mod (K : PySem.W.Frag) (mg : Str → Option Value) (base : Heap) : Prop where
 kin : K.In base
 glob : base.Ns mainGlobals mg
 blt : ∃ mb, base.Ns builtinsNs mb ∧ ∀ x : Str, x ≠ "__name__" → mb x = bootBuiltins x
 nolimit : base.NoLimit
structure Cx where
 prog : Program
 w : World
 K : PySem.W.Frag
 mg : Str → Option Value
 base : Heap
 A : Around
 N : List Str
 s₀ : Shared
 H₀ : Hp
 env : Env
 outer : List Env
 stack : List Env
 ex : List Addr
 fn : Str → Bool
 calm : Bool
 pn : List (Addr × Obj)
 xe : Value → Shared → Prop
def frs (l : List Env) : List Addr := l.filterMap (·.frame)
abbrev Cx.fs (X : Cx) : List Addr := frs X.outer
def Vis (sc : Scope) (x : Str) : Prop := sc.names.lookup x = some .local ∨ sc.names.lookup x = some .cell ∨ sc.names.lookup x = some .free
def Loc (sc : Scope) (x : Str) : Prop := sc.names.lookup x = some .local ∨ sc.names.lookup x = some .cell
def ZmM (env : Env) (h : Heap) (m : Str → Option Value) (x : Str) (u : Value) : Prop :=
 (env.kindOf x = some .local ∧ m x = some u) ∨ ((env.kindOf x = some .cell ∨ env.kindOf x = some .free) ∧ ∃ c, env.cells.lookup x = some c ∧ h.IsCell c (some u))
structure Cx.Ok (X : Cx) : Prop where
 mod : Mod X.K X.mg X.base
 kind : X.env.scope.kind = .function
 glob : X.env.globals = mainGlobals
 blt : X.env.builtins = builtinsNs
 above : X.s₀.heap.objs.size ≤ X.env.locals
 inj : ∀ x y c, X.env.cells.lookup x = some c → X.env.cells.lookup y = some c → x = y
 has : ∀ x, (X.env.kindOf x = some .cell ∨ X.env.kindOf x = some .free) → ∃ c, X.env.cells.lookup x = some c
 cab : ∀ x c, X.fn x = true → X.env.cells.lookup x = some c → X.s₀.heap.objs.size ≤ c
 hd : X.calm = true → X.A.handled = none
 frames : X.A.frames = some X.stack
 stk : X.stack = X.outer ∨ (X.stack = X.env :: X.outer ∧ X.env.frame = some X.env.locals)
 exf : ∀ b ∈ X.ex, b ≠ X.env.locals ∧ ∀ x c, X.env.cells.lookup x = some c → c ≠ b
 bs : ∀ b o, X.base.get? b = some o → X.s₀.heap.get? b = some o ∧ X.H₀ b = none
 bsz : X.base.objs.size ≤ X.s₀.heap.objs.size
 noex : ∀ b o, X.base.get? b = some o → b ∉ X.ex
 exfs : ∀ b ∈ X.ex, b ∉ X.fs
 funs : X.s₀.heap.FunFrames X.base X.outer
 frf : ∀ b ∈ X.fs, X.H₀ b = none
structure Zv (X : Cx) (pins : List (Addr × Obj)) (σ : List (Option V)) (H : Hp) (s : Shared) : Prop where
 ok : X.Ok
 os : s.os = X.s₀.os
 bare : AllBare s.gens
 base : Un X.fs X.ex X.H₀ H X.s₀.heap s.heap
 loc : ∃ m, s.heap.Ns X.env.locals m ∧ ∀ (i : Nat) (x : Str) (v : V), X.N[i]? = some x → σ[i]? = some (some v) → Vis X.env.scope x → ∃ u, ZE v u ∧ ZmM X.env s.heap m x u
 cell : ∀ x c, X.env.cells.lookup x = some c → ∃ v, s.heap.IsCell c v
 free : H X.env.locals = none
 freeC : ∀ x c, X.env.cells.lookup x = some c → H c = none
 pin : ∀ p ∈ X.pn ++ pins, s.heap.get? p.1 = some p.2 ∧ H p.1 = none ∧ p.1 ≠ X.env.locals ∧ p.1 ∉ X.fs ∧ ∀ v, p.2.data ≠ .cell v
 hok : JQ X.prog X.w H s.heap
 len : σ.length = X.N.length
section
variable {X : Cx} {pins : List (Addr × Obj)} {σ : List (Option V)} {H H' : Hp} {s : Shared} {h' : Heap}
theorem Cx.Ok.nofr (ok : X.Ok) {b : Addr} {o : Obj} (e : X.base.get? b = some o) : b ∉ X.fs := fun hb => by
 have := (ok.funs.mem hb).1
 rw [e] at this; cases this
theorem Zv.bs (I : Zv X pins σ H s) : ∀ b o, X.base.get? b = some o → s.heap.get? b = some o ∧ H b = none := fun b o e =>
 ⟨I.base.keep b o (I.ok.bs b o e).1 (I.ok.bs b o e).2 (I.ok.nofr e) (I.ok.noex b o e), I.base.free b o (I.ok.bs b o e).1 (I.ok.bs b o e).2 (I.ok.noex b o e)⟩
theorem Zv.bk (I : Zv X pins σ H s) : ∀ b o, X.base.get? b = some o → s.heap.get? b = some o := fun b o e => (I.bs b o e).1
theorem Zv.mod (I : Zv X pins σ H s) : Mod X.K X.mg X.base := I.ok.mod
theorem Zv.kIn (I : Zv X pins σ H s) : X.K.In s.heap := I.ok.mod.kin.keeps I.bk
theorem Zv.lt (I : Zv X pins σ H s) : X.env.locals < s.heap.objs.size := let ⟨_, hn, _⟩ := I.loc; hn.lt
theorem Zv.sz (I : Zv X pins σ H s) : X.s₀.heap.objs.size ≤ s.heap.objs.size := Nat.le_trans I.ok.above (Nat.le_of_lt I.lt)
theorem Zv.nofs (I : Zv X pins σ H s) {a : Addr} (h : s.heap.objs.size ≤ a) : a ∉ X.fs := fun hb => by
 obtain ⟨_, o, ho, _⟩ := I.ok.funs.mem hb
 exact absurd (Nat.lt_of_lt_of_le (Heap.lt_size ho) (Nat.le_trans I.sz h)) (Nat.lt_irrefl _)
theorem Zv.cne (I : Zv X pins σ H s) : ∀ x c, X.env.cells.lookup x = some c → c ≠ X.env.locals := fun x c e z => by
 obtain ⟨v, o, ho, hd⟩ := I.cell x c e
 obtain ⟨m, ⟨o', es, ep, ho', hd', _⟩, _⟩ := I.loc
 rw [z, ho'] at ho; cases ho; rw [hd'] at hd; cases hd
theorem Zv.funs (I : Zv X pins σ H s) : s.heap.FunFrames X.base X.outer := by
 have all : ∀ (l : List Env), (∀ b ∈ frs l, b ∈ X.fs) → X.s₀.heap.FunFrames X.base l → s.heap.FunFrames X.base l := by
  intro l
  induction l with
  | nil => intro _ _; trivial
  | cons env r ih =>
   intro hs hl
   obtain ⟨hk, ⟨L, o, hf, hn, ho, hd⟩, hr⟩ := hl
   have hL : L ∈ X.fs := hs L (by unfold frs; rw [List.filterMap_cons, hf]; exact List.mem_cons_self)
   obtain ⟨sl, e⟩ := I.base.slot L o ho (I.ok.frf L hL) hL fun z => I.ok.exfs L z hL
   exact ⟨hk, ⟨L, _, hf, hn, e, hd⟩, ih (fun b hb => hs b (by unfold frs; rw [List.filterMap_cons, hf]; exact List.mem_cons_of_mem _ hb)) hr⟩
 exact all X.outer (fun _ hb => hb) I.ok.funs
theorem Zv.stack (I : Zv X pins σ H s) : s.heap.FunFrames X.base X.stack := by
 rcases I.ok.stk with e | ⟨e, hf⟩
 ·rw [e]; exact I.funs
 ·rw [e]
  obtain ⟨m, hn, _⟩ := I.loc
  refine .cons (by rw [I.ok.kind]; decide) hf hn ?_ I.funs
  exact Heap.get?_none_of_le (Nat.le_trans I.ok.bsz I.ok.above)
theorem Zv.stkSub (I : Zv X pins σ H s) : ∀ b ∈ frs X.stack, b ∈ X.env.locals :: X.fs := fun b hb => by
 rcases I.ok.stk with e | ⟨e, hf⟩
 ·rw [e] at hb; exact List.mem_cons_of_mem _ hb
 ·rw [e] at hb
  unfold frs at hb
  rw [List.filterMap_cons, hf] at hb
  exact hb
theorem Zv.stkFree (I : Zv X pins σ H s) : ∀ b ∈ frs X.stack, H b = none := fun b hb => by
 rcases List.mem_cons.mp (I.stkSub b hb) with e | hb
 ·rw [e]; exact I.free
 ·obtain ⟨_, o, ho, _⟩ := I.ok.funs.mem hb
  exact I.base.free b o ho (I.ok.frf b hb) fun z => I.ok.exfs b z hb
theorem Zv.step {g' : Array GenState} {t' : Nat} {d' : Drawn} {ch : List Addr} (I : Zv X pins σ H s)
  (hch : ∀ b ∈ ch, (b ∈ X.ex ∨ X.s₀.heap.objs.size ≤ b) ∧ b ≠ X.env.locals ∧ (∀ x c, X.env.cells.lookup x = some c → c ≠ b) ∧ ∀ p ∈ X.pn ++ pins, p.1 ≠ b)
  (keep : ∀ b o, b ≠ X.env.locals → b ∉ X.fs → b ∉ ch → s.heap.get? b = some o → H b = none → h'.get? b = some o)
  (slot : ∀ b o, b ≠ X.env.locals → b ∈ X.fs → b ∉ ch → s.heap.get? b = some o → H b = none → ∃ sl, h'.get? b = some { o with slots := sl }) (free : ∀ b o, b ∉ ch → s.heap.get? b = some o → H b = none → H' b = none)
  (there : ∀ b o, b ∉ ch → s.heap.get? b = some o → ∃ o', h'.get? b = some o')
  (tups : ∀ b xs, H b = some (.tup xs) → H' b = some (.tup xs)) (frzs : ∀ b o u, H b = some (.frz o u) → H' b = some (.frz o u)) (tbls : ∀ b ps, H b = some (.tbl ps) → ∃ more, H' b = some (.tbl (ps ++ more)))
  (ns : ∀ m, s.heap.Ns X.env.locals m → h'.Ns X.env.locals m) (hok : JQ X.prog X.w H' h') (hg : AllBare g') :
  Zv X pins σ H' { s with heap := h', gens := g', drawn := d', toks := t' } := by
 have neL : ∀ b o, X.s₀.heap.get? b = some o → b ≠ X.env.locals := fun b o e => Nat.ne_of_lt (Nat.lt_of_lt_of_le (Heap.lt_size e) I.ok.above)
 have neC : ∀ b o, X.s₀.heap.get? b = some o → b ∉ X.ex → b ∉ ch := fun b o e hx hb => by
  rcases (hch b hb).1 with z | z
  ·exact hx z
  ·exact absurd (Nat.lt_of_lt_of_le (Heap.lt_size e) z) (Nat.lt_irrefl _)
 have cellK : ∀ x c, X.env.cells.lookup x = some c → ∀ v, s.heap.IsCell c v → h'.IsCell c v := fun x c e v ⟨o, ho, hd⟩ => by
  have nch : c ∉ ch := fun z => (hch c z).2.2.1 x c e rfl
  by_cases hc : c ∈ X.fs
  ·obtain ⟨sl, q⟩ := slot c o (I.cne x c e) hc nch ho (I.freeC x c e)
   exact ⟨_, q, hd⟩
  ·exact ⟨o, keep c o (I.cne x c e) hc nch ho (I.freeC x c e), hd⟩
 refine ⟨I.ok, I.os, hg, ⟨fun b o e n hb hx => ?_, fun b o e n hb hx => ?_, fun b o e n hx => ?_, fun b o e hx => ?_, fun b xs e => tups b xs (I.base.tups b xs e), fun b o xs e => frzs b o xs (I.base.frzs b o xs e), fun b ps e => ?_⟩, ?_, fun x c e => ?_, ?_, fun x c e => ?_, fun p hp => ?_, hok, I.len⟩
 ·exact keep b o (neL b o e) hb (neC b o e hx) (I.base.keep b o e n hb hx) (I.base.free b o e n hx)
 ·obtain ⟨sl, e1⟩ := I.base.slot b o e n hb hx
  obtain ⟨sl', e2⟩ := slot b _ (neL b o e) hb (neC b o e hx) e1 (I.base.free b o e n hx)
  exact ⟨sl', e2⟩
 ·obtain ⟨o', e1⟩ := I.base.there b o e hx
  exact free b o' (neC b o e hx) e1 (I.base.free b o e n hx)
 ·obtain ⟨o', e1⟩ := I.base.there b o e hx
  exact there b o' (neC b o e hx) e1
 ·obtain ⟨m1, e1⟩ := I.base.tbls b ps e
  obtain ⟨m2, e2⟩ := tbls b _ e1
  exact ⟨m1 ++ m2, by rw [e2, Array.append_assoc]⟩
 ·obtain ⟨m, hn, hl⟩ := I.loc
  refine ⟨m, ns m hn, fun i x v e1 e2 e3 => ?_⟩
  obtain ⟨u, r, l⟩ := hl i x v e1 e2 e3
  refine ⟨u, r, ?_⟩
  rcases l with l | ⟨k, c, e, z⟩
  ·exact .inl l
  ·exact .inr ⟨k, c, e, cellK x c e _ z⟩
 ·obtain ⟨v, z⟩ := I.cell x c e
  exact ⟨v, cellK x c e v z⟩
 ·obtain ⟨m, ⟨o, _, _, ho, _⟩, _⟩ := I.loc
  exact free _ o (fun z => (hch _ z).2.1 rfl) ho I.free
 ·obtain ⟨v, o, ho, hd⟩ := I.cell x c e
  exact free c o (fun z => (hch c z).2.2.1 x c e rfl) ho (I.freeC x c e)
 ·obtain ⟨e, n, ne, nf, d⟩ := I.pin p hp
  have nch : p.1 ∉ ch := fun z => (hch p.1 z).2.2.2 p hp rfl
  exact ⟨keep p.1 p.2 ne nf nch e n, free p.1 p.2 nch e n, ne, nf, d⟩
theorem Zv.un {t' : Nat} (I : Zv X pins σ H s) (u : Un X.fs [] H H' s.heap h') (hok : JQ X.prog X.w H' h') : Zv X pins σ H' { s with heap := h', toks := t' } := by
 obtain ⟨m, ⟨o, es, ep, ho, r⟩, _⟩ := id I.loc
 obtain ⟨sl, hL⟩ := u.any ho I.free (by simp)
 exact I.step (g' := s.gens) (d' := s.drawn) (ch := []) (fun _ z => nomatch z) (fun b o _ hb _ e n => u.keep b o e n hb (by simp)) (fun b o _ hb _ e n => u.slot b o e n hb (by simp)) (fun b o _ e n => u.free b o e n (by simp)) (fun b o _ e => u.there b o e (by simp)) u.tups u.frzs u.tbls (fun m' hm => by
  obtain ⟨o', es', ep', ho', r'⟩ := hm
  rw [ho] at ho'; cases ho'
  exact ⟨_, es', ep', hL, r'⟩) hok I.bare
theorem Zv.call {g' : Array GenState} {t' : Nat} {d' : Drawn} {ch : List Addr} (I : Zv X pins σ H s) (u : Un (frs X.stack) ch H H' s.heap h') (hok : JQ X.prog X.w H' h') (hg : AllBare g')
  (hch : ∀ b ∈ ch, (b ∈ X.ex ∨ X.s₀.heap.objs.size ≤ b) ∧ b ≠ X.env.locals ∧ (∀ x c, X.env.cells.lookup x = some c → c ≠ b) ∧ ∀ p ∈ X.pn ++ pins, p.1 ≠ b) :
  Zv X pins σ H' { s with heap := h', gens := g', drawn := d', toks := t' } := by
 obtain ⟨m, ⟨o, es, ep, ho, r⟩, _⟩ := id I.loc
 obtain ⟨sl, hL⟩ := u.any ho I.free fun z => (hch _ z).2.1 rfl
 exact I.step (ch := ch) hch (fun b o hL hb hc e n => u.keep b o e n (fun z => (List.mem_cons.mp (I.stkSub b z)).elim hL hb) hc) (fun b o _ _ hc e n => u.any e n hc) (fun b o hc e n => u.free b o e n hc) (fun b o hc e => u.there b o e hc) u.tups u.frzs u.tbls (fun m' hm => by
  obtain ⟨o', es', ep', ho', r'⟩ := hm
  rw [ho] at ho'; cases ho'
  exact ⟨_, es', ep', hL, r'⟩) hok hg
theorem Zv.turned {t' : Nat} {it : Addr} (I : Zv X pins σ H s) (k : ∀ b o, b ≠ it → s.heap.get? b = some o → h'.get? b = some o) (hn : H it = none) (hL : it ≠ X.env.locals)
  (h1 : it ∈ X.ex ∨ X.s₀.heap.objs.size ≤ it) (h2 : ∀ x c, X.env.cells.lookup x = some c → c ≠ it) (h3 : ∀ p ∈ X.pn ++ pins, p.1 ≠ it) : Zv X pins σ H { s with heap := h', toks := t' } := by
 have nit : ∀ b u, H b = some u → b ≠ it := fun b u e z => by rw [z, hn] at e; cases e
 refine I.step (g' := s.gens) (d' := s.drawn) (ch := [it]) (fun b hb => ?_) (fun b o _ _ hc e _ => k b o (fun z => hc (by simp [z])) e) (fun b o _ _ hc e _ => ⟨o.slots, k b o (fun z => hc (by simp [z])) e⟩) (fun _ _ _ _ n => n)
  (fun b o hc e => ⟨o, k b o (fun z => hc (by simp [z])) e⟩) (fun _ _ e => e) (fun _ _ _ e => e) (fun b ps e => ⟨#[], by rw [e]; simp⟩) (fun m hm => ?_) (fun b u e => ?_) I.bare
 ·have e : b = it := by simpa using hb
  subst e
  exact ⟨h1, hL, h2, h3⟩
 ·obtain ⟨o, es, ep, ho, r⟩ := hm
  exact ⟨o, es, ep, k _ o (Ne.symm hL) ho, r⟩
 ·refine (I.hok b u e).stay (fun c v hc q => k c v ?_ q) (fun _ q => q) fun _ _ q => q
  rcases hc with z | z
  ·rw [z]; exact nit b u e
  ·exact nit c _ z
theorem Zv.tok (I : Zv X pins σ H s) (t : Nat) : Zv X pins σ H { s with toks := t } := I.un (h' := s.heap) (t' := t) Un.refl I.hok
theorem Zv.kept {t' : Nat} (I : Zv X pins σ H s) (k : ∀ b u, s.heap.get? b = some u → h'.get? b = some u) : Zv X pins σ H { s with heap := h', toks := t' } := I.un (Un.kept k) (I.hok.kept k)
theorem Zv.laid {a : Addr} {o : HO} {t' : Nat} (I : Zv X pins σ H s) (k : ∀ b u, s.heap.get? b = some u → h'.get? b = some u) (hp : s.heap.objs.size ≤ a) (new : ZS X.prog X.w (upd H a o) h' a o) :
  Zv X pins σ (upd H a o) { s with heap := h', toks := t' } := I.un (Un.laid k hp (I.hok.fresh hp)) (I.hok.laid k hp new)
theorem Zv.write {x e : Addr} {o : HO} {t' : Nat} (I : Zv X pins σ H s) (mu : Mut (H x)) (he : e = x ∨ H e = some (.own x)) (k : ∀ b u, b ≠ e → s.heap.get? b = some u → h'.get? b = some u) (heo : ∃ u, h'.get? e = some u)
  (new : ZS X.prog X.w (upd H x o) h' x o) : Zv X pins σ (upd H x o) { s with heap := h', toks := t' } := I.un (Un.write mu he k heo) (I.hok.write mu he k heo new)
theorem Zv.pins_of {pins' : List (Addr × Obj)} (I : Zv X pins σ H s) (h : ∀ p ∈ pins', s.heap.get? p.1 = some p.2 ∧ H p.1 = none ∧ p.1 ≠ X.env.locals ∧ p.1 ∉ X.fs ∧ ∀ v, p.2.data ≠ .cell v) : Zv X pins' σ H s :=
 ⟨I.ok, I.os, I.bare, I.base, I.loc, I.cell, I.free, I.freeC, fun p hp => (List.mem_append.mp hp).elim (fun z => I.pin p (List.mem_append_left _ z)) (h p), I.hok, I.len⟩
theorem Za4 {N : List Str} (hN : N.Nodup) {i j : Nat} {x : Str} (a : N[i]? = some x) (b : N[j]? = some x) : i = j := by
 obtain ⟨h1, e1⟩ := List.getElem?_eq_some_iff.mp a
 obtain ⟨h2, e2⟩ := List.getElem?_eq_some_iff.mp b
 exact (List.getElem_inj hN).mp (e1.trans e2.symm)
theorem V8 {M : Model} {A : Around} {E : Value → Shared → Prop} {i : Nat} {x : Str} {v : V} {u : Value} {Q : Unit → Shared → Prop} (I : Zv X pins σ H s) (hN : X.N.Nodup) (hi : X.N[i]? = some x) (hx : Loc X.env.scope x) (r : ZE v u)
  (h : ∀ s', Zv X pins (σ.set i (some v)) H s' → (∃ a, Heap.SameBut a s.heap s'.heap ∧ (a = X.env.locals ∨ X.env.cells.lookup x = some a)) → Q () s') (hf : X.fn x = true ∨ X.env.scope.names.lookup x = some .local := by first | exact .inl rfl | exact .inr rfl | assumption) : wpAny M A (storeName X.env x u) Q E s := by
 obtain ⟨m, hn, hl⟩ := id I.loc
 have hcls : (X.env.scope.kind == .class || (X.env.scope.kind == .module && X.env.locals != X.env.globals)) = false := by rw [I.ok.kind]; rfl
 have hiσ : i < σ.length := by rw [I.len]; exact (List.getElem?_eq_some_iff.mp hi).1
 have cne := I.cne
 have tracked : ∀ {a : Addr} {h' : Heap}, (∃ o, s.heap.get? a = some o ∧ H a = none) → Heap.SameBut a s.heap h' → JQ X.prog X.w H h' := fun {a h'} ha hs b ob e => by
  obtain ⟨_, _, hfree⟩ := ha
  refine (I.hok b ob e).stay (fun c w' hc q => (hs.2 c ?_).trans q) (fun _ q => q) fun _ _ q => q
  rintro rfl
  rcases hc with rfl | hc
  ·rw [hfree] at e; cases e
  ·rw [hfree] at hc; cases hc
 rcases hx with hk | hk
 ·refine wpAny_storeName_local hk hn (fun h' hn' hs => ?_) hcls
  obtain ⟨oL, _, _, hoL, _⟩ := id hn
  refine h _ ⟨I.ok, I.os, I.bare, ⟨fun b o e n hb hx => ?_, fun b o e n hb hx => ?_, I.base.free, fun b o e hx => ?_, I.base.tups, I.base.frzs, I.base.tbls⟩, ⟨_, hn', fun j y v' e1 e2 e3 => ?_⟩, fun y c e => ?_, I.free, I.freeC, fun p hp => ?_, tracked ⟨oL, hoL, I.free⟩ hs, by simpa using I.len⟩ ⟨_, hs, .inl rfl⟩
  ·exact (hs.2 b (Nat.ne_of_lt (Nat.lt_of_lt_of_le (Heap.lt_size e) I.ok.above))).trans (I.base.keep b o e n hb hx)
  ·obtain ⟨sl, e1⟩ := I.base.slot b o e n hb hx
   exact ⟨sl, (hs.2 b (Nat.ne_of_lt (Nat.lt_of_lt_of_le (Heap.lt_size e) I.ok.above))).trans e1⟩
  ·obtain ⟨o', e1⟩ := I.base.there b o e hx
   exact ⟨o', (hs.2 b (Nat.ne_of_lt (Nat.lt_of_lt_of_le (Heap.lt_size e) I.ok.above))).trans e1⟩
  ·by_cases hj : j = i
   ·subst hj
    rw [hi] at e1; cases e1
    rw [List.getElem?_set_self hiσ] at e2
    cases e2
    exact ⟨u, r, .inl ⟨hk, by simp⟩⟩
   ·rw [List.getElem?_set_ne (Ne.symm hj)] at e2
    obtain ⟨u', r', q⟩ := hl j y v' e1 e2 e3
    refine ⟨u', r', ?_⟩
    rcases q with ⟨k, e⟩ | ⟨k, c, e, z⟩
    ·refine .inl ⟨k, ?_⟩
     have : y ≠ x := fun e => hj (Za4 hN e1 (e ▸ hi))
     simp [this, e]
    ·exact .inr ⟨k, c, e, z.sameBut hs (cne y c e)⟩
  ·obtain ⟨w', z⟩ := I.cell y c e
   exact ⟨w', z.sameBut hs (cne y c e)⟩
  ·obtain ⟨e, n, ne, nf, d⟩ := I.pin p hp
   exact ⟨(hs.2 p.1 ne).trans e, n, ne, nf, d⟩
 ·have hfn : X.fn x = true := by
   rcases hf with z | z
   ·exact z
   ·rw [z] at hk; cases hk
  obtain ⟨c, hc⟩ := I.ok.has x (.inl hk)
  obtain ⟨w', z⟩ := I.cell x c hc
  refine wpAny_storeName_cell I.ok.kind hk hc z (fun h' hc' hs => ?_)
  obtain ⟨oc, hoc, hocd⟩ := id z
  refine h { s with heap := h' } ⟨I.ok, I.os, I.bare, ⟨fun b o e n hb hx => ?_, fun b o e n hb hx => ?_, I.base.free, fun b o e hx => ?_, I.base.tups, I.base.frzs, I.base.tbls⟩, ⟨m, hn.sameBut hs (Ne.symm (cne x c hc)), fun j y v' e1 e2 e3 => ?_⟩, fun y c' e => ?_, I.free, I.freeC, fun p hp => ?_, tracked ⟨oc, hoc, I.freeC x c hc⟩ hs, by simpa using I.len⟩ ⟨c, hs, .inr hc⟩
  ·exact (hs.2 b (Nat.ne_of_lt (Nat.lt_of_lt_of_le (Heap.lt_size e) (I.ok.cab x c hfn hc)))).trans (I.base.keep b o e n hb hx)
  ·obtain ⟨sl, e1⟩ := I.base.slot b o e n hb hx
   exact ⟨sl, (hs.2 b (Nat.ne_of_lt (Nat.lt_of_lt_of_le (Heap.lt_size e) (I.ok.cab x c hfn hc)))).trans e1⟩
  ·obtain ⟨o', e1⟩ := I.base.there b o e hx
   exact ⟨o', (hs.2 b (Nat.ne_of_lt (Nat.lt_of_lt_of_le (Heap.lt_size e) (I.ok.cab x c hfn hc)))).trans e1⟩
  ·by_cases hj : j = i
   ·subst hj
    rw [hi] at e1; cases e1
    rw [List.getElem?_set_self hiσ] at e2
    cases e2
    exact ⟨u, r, .inr ⟨.inl hk, c, hc, hc'⟩⟩
   ·rw [List.getElem?_set_ne (Ne.symm hj)] at e2
    obtain ⟨u', r', q⟩ := hl j y v' e1 e2 e3
    refine ⟨u', r', ?_⟩
    rcases q with q | ⟨k, c', e, z'⟩
    ·exact .inl q
    ·refine .inr ⟨k, c', e, z'.sameBut hs ?_⟩
     rintro rfl
     exact hj (Za4 hN e1 (I.ok.inj _ _ _ e hc ▸ hi))
  ·by_cases hcc : c' = c
   ·subst hcc; exact ⟨_, hc'⟩
   ·obtain ⟨w2, z2⟩ := I.cell y c' e
    exact ⟨w2, z2.sameBut hs hcc⟩
  ·obtain ⟨e, n, ne, nf, d⟩ := I.pin p hp
   refine ⟨(hs.2 p.1 ?_).trans e, n, ne, nf, d⟩
   intro q
   rw [q, hoc] at e
   have q' : oc = p.2 := Option.some.inj e
   exact d w' (by rw [← q']; exact hocd)
theorem Y7 {M : Model} {A : Around} {E : Value → Shared → Prop} {i : Nat} {x : Str} {v : V} {u : Value} {Q : Unit → Shared → Prop} (I : Zv X pins σ H s) (hN : X.N.Nodup) (hi : X.N[i]? = some x) (hx : Loc X.env.scope x) (r : ZE v u)
  (h : ∀ s', Zv X pins (σ.set i (some v)) H s' → Q () s') (hf : X.fn x = true ∨ X.env.scope.names.lookup x = some .local := by first | exact .inl rfl | exact .inr rfl | assumption) : wpAny M A (storeName X.env x u) Q E s :=
 V8 I hN hi hx r (fun s' I' _ => h s' I') hf
theorem Zv.call' {s' : Shared} {ch : List Addr} (I : Zv X pins σ H s) (ho : s'.os = s.os) (u : Un (frs X.stack) ch H H' s.heap s'.heap) (hok : JQ X.prog X.w H' s'.heap) (hg : AllBare s'.gens)
  (hch : ∀ b ∈ ch, (b ∈ X.ex ∨ X.s₀.heap.objs.size ≤ b) ∧ b ≠ X.env.locals ∧ (∀ x c, X.env.cells.lookup x = some c → c ≠ b) ∧ ∀ p ∈ X.pn ++ pins, p.1 ≠ b) : Zv X pins σ H' s' := by
 obtain ⟨h', g', d', t', o'⟩ := s'
 have e : o' = s.os := ho
 subst e
 exact I.call (g' := g') (t' := t') (d' := d') u hok hg hch
end
abbrev XK := Value → Option Addr → Hp → Prop
abbrev St := List (Option V)
abbrev VK := V → Hp → Prop
abbrev TE := St → Hp → VK → Prop
abbrev TT := St → Hp → (Bool → Hp → Prop) → Prop
abbrev TA := St → Hp → (List V → Hp → Prop) → Prop
structure Xi where
 nx : St → Hp → Prop
 rt : VK
 bk : St → Hp → Prop := fun _ _ => False
 ct : St → Hp → Prop := fun _ _ => False
abbrev TS := Xi → St → Hp → Prop
def EP (X : Cx) (pins : List (Addr × Obj)) (σ : St) (Q : VK) (u : Value) (s' : Shared) : Prop := ∃ v H', Zv X pins σ H' s' ∧ ZE v u ∧ Q v H'
def TP (X : Cx) (pins : List (Addr × Obj)) (σ : St) (Q : Bool → Hp → Prop) (b : Bool) (s' : Shared) : Prop := ∃ H', Zv X pins σ H' s' ∧ Q b H'
def AP (X : Cx) (pins : List (Addr × Obj)) (σ : St) (Q : List V → Hp → Prop) (us : List Value) (s' : Shared) : Prop := ∃ vs H', Zv X pins σ H' s' ∧ Zz vs us ∧ Q vs H'
def SP (X : Cx) (pins : List (Addr × Obj)) (D : Xi) (f : Flow) (s' : Shared) : Prop :=
 match f with
 | .next => ∃ σ' H', Zv X pins σ' H' s' ∧ D.nx σ' H'
 | .brk => ∃ σ' H', Zv X pins σ' H' s' ∧ D.bk σ' H'
 | .cont => ∃ σ' H', Zv X pins σ' H' s' ∧ D.ct σ' H'
 | .ret u => ∃ v σ' H', Zv X pins σ' H' s' ∧ ZE v u ∧ D.rt v H'
def PE (X : Cx) (e : Expr) (t : TE) : Prop :=
 ∀ (pins : List (Addr × Obj)) (s : Shared) (σ : St) (H : Hp) (Q : VK), Zv X pins σ H s → t σ H Q → wpAny (model X.prog X.w) X.A (eval e X.env) (EP X pins σ Q) X.xe s
def PT (X : Cx) (e : Expr) (t : TT) : Prop :=
 ∀ (pins : List (Addr × Obj)) (s : Shared) (σ : St) (H : Hp) (Q : Bool → Hp → Prop), Zv X pins σ H s → t σ H Q → wpAny (model X.prog X.w) X.A (isTrue e X.env (eval e X.env)) (TP X pins σ Q) X.xe s
def PW (X : Cx) (e : Expr) (t : TT) : Prop :=
 ∀ (whole : Sem Value) (pins : List (Addr × Obj)) (s : Shared) (σ : St) (H : Hp) (Q : Bool → Hp → Prop), Zv X pins σ H s → t σ H Q → wpAny (model X.prog X.w) X.A (isTrue e X.env whole) (TP X pins σ Q) X.xe s
theorem PW.pt {X : Cx} {e : Expr} {t : TT} (h : PW X e t) : PT X e t := h _
def PA (X : Cx) (es : List Expr) (t : TA) : Prop :=
 ∀ (pos : Pos) (pins : List (Addr × Obj)) (s : Shared) (σ : St) (H : Hp) (Q : List V → Hp → Prop), Zv X pins σ H s → t σ H Q → wpAny (model X.prog X.w) X.A (spliced (backTo pos (starEach es X.env))) (AP X pins σ Q) X.xe s
def PS (X : Cx) (st : Stmt) (t : TS) : Prop :=
 ∀ (pins : List (Addr × Obj)) (s : Shared) (σ : St) (H : Hp) (D : Xi), Zv X pins σ H s → t D σ H → wpAny (model X.prog X.w) X.A (exec st X.env) (SP X pins D) X.xe s
def PSs (X : Cx) (st : List Stmt) (t : TS) : Prop :=
 ∀ (pins : List (Addr × Obj)) (s : Shared) (σ : St) (H : Hp) (D : Xi), Zv X pins σ H s → t D σ H → wpAny (model X.prog X.w) X.A (execs st X.env) (SP X pins D) X.xe s
theorem ZT {α : Type} {t : Sem α} {Q Q' : α → Shared → Prop} {M : Model} {A : Around} {E : Value → Shared → Prop} {s : Shared} (h : wpAny M A t Q E s) (hQ : ∀ a s, Q a s → Q' a s) : wpAny M A t Q' E s := wpAny_mono h hQ fun _ _ x => x
section
variable {X : Cx}
def ZiY (i : Nat) : TE := fun σ H Q => ∃ v, σ[i]? = some (some v) ∧ Q v H
def tC (v : V) : TE := fun _ H Q => Q v H
theorem Zjk {i : Nat} {x : Str} {pos : Pos} (hN : X.N[i]? = some x) (hv : Vis X.env.scope x) (hd : (x == ("__debug__" : Str)) = false := by decide) (hcd : (x == ("__classdict__" : Str)) = false := by decide) : PE X (.Name x pos) (ZiY i) := by
 intro pins s σ H Q I h
 obtain ⟨v, e, h⟩ := h
 obtain ⟨m, hn, hl⟩ := I.loc
 obtain ⟨u, r, l⟩ := hl i x v hN e hv
 have fin : EP X pins σ Q u s := ⟨v, H, I, r, h⟩
 rcases l with ⟨hk, hm⟩ | ⟨hk, c, hc, hcell⟩
 ·exact wpAny_Name (wpAny_loadName_local I.ok.kind hk hn hm fin) hd
 ·rcases hk with hk | hk
  ·exact wpAny_Name (wpAny_loadName_cell I.ok.kind hk hc hcell fin) hd
  ·exact wpAny_Name (wpAny_loadName_free I.ok.kind hk hc hcell fin hcd) hd
theorem Zp {i j pos} : PE X (.Constant (.int i) j pos) (tC (.int i)) := fun _ _ _ H _ I h => wpAny_Constant_int ⟨.int i, H, I.tok _, ⟨_, rfl⟩, h⟩
theorem YH {b j pos} : PE X (.Constant (.bool b) j pos) (tC (.bl b)) := fun _ _ _ H _ I h => Constant_bool ⟨.bl b, H, I, rfl, h⟩
theorem Zfq {j pos} : PE X (.Constant .none j pos) (tC .non) := fun _ _ _ H _ I h => Constant_none ⟨.non, H, I, rfl, h⟩
theorem Wx {x j pos} : PE X (.Constant (.str x) j pos) (tC (.str x)) := fun _ _ _ H _ I h => Calls.Constant_str ⟨.str x, H, I.tok _, ⟨_, rfl⟩, h⟩
def Gl (X : Cx) (x : Str) : Prop := X.env.kindOf x = some .globalImplicit
theorem Zdb {E : Value → Shared → Prop} {pins : List (Addr × Obj)} {s : Shared} {σ : St} {H : Hp} {x : Str} {u : Value} {pos : Pos} {Q : Value → Shared → Prop} (I : Zv X pins σ H s) (hg : Gl X x) (hm : X.mg x = some u) (h : Q u s)
  (hd : (x == ("__debug__" : Str)) = false := by decide) : wpAny (model X.prog X.w) X.A (eval (.Name x pos) X.env) Q E s :=
 Calls.Name_function_global I.ok.kind hg (Calls.loadGlobal_global (by rw [I.ok.glob]; exact I.mod.glob.keeps I.bk) hm h) hd
theorem WV {E : Value → Shared → Prop} {pins : List (Addr × Obj)} {s : Shared} {σ : St} {H : Hp} {x : Str} {u : Value} {pos : Pos} {Q : Value → Shared → Prop} (I : Zv X pins σ H s) (hg : Gl X x) (hm : X.mg x = none) (hv : bootBuiltins x = some u) (h : Q u s)
  (hn : x ≠ "__name__" := by decide) (hd : (x == ("__debug__" : Str)) = false := by decide) : wpAny (model X.prog X.w) X.A (eval (.Name x pos) X.env) Q E s := by
 obtain ⟨mb, h1, h2⟩ := I.mod.blt
 exact Calls.Name_function_global I.ok.kind hg (Calls.loadGlobal_builtin (by rw [I.ok.glob]; exact I.mod.glob.keeps I.bk) hm (by rw [I.ok.blt]; exact h1.keeps I.bk) ((h2 x hn).trans hv) h) hd
theorem Zg9 {x : Str} {v : V} {u : Value} {pos : Pos} (hg : Gl X x) (hm : X.mg x = some u) (r : ZE v u) (hd : (x == ("__debug__" : Str)) = false := by decide) : PE X (.Name x pos) (tC v) :=
 fun _ _ _ H _ I h => Zdb I hg hm ⟨v, H, I, r, h⟩ hd
theorem Zhe {x : Str} {v : V} {u : Value} {pos : Pos} (hg : Gl X x) (hm : X.mg x = none) (hv : bootBuiltins x = some u) (r : ZE v u) (hn : x ≠ "__name__" := by decide) (hd : (x == ("__debug__" : Str)) = false := by decide) : PE X (.Name x pos) (tC v) :=
 fun _ _ _ H _ I h => WV I hg hm hv ⟨v, H, I, r, h⟩ hn hd
variable {a b : Expr} {ta tb : TE} {pos : Pos}
def PC (X : Cx) (op : CmpOp) (a b : Expr) (t : TE) : Prop :=
 ∀ (pins : List (Addr × Obj)) (s : Shared) (σ : St) (H : Hp) (Q : VK), Zv X pins σ H s → t σ H Q →
  wpAny (model X.prog X.w) X.A (eval a X.env) (fun v s₁ => wpAny (model X.prog X.w) X.A (eval b X.env) (fun u s₂ => wpAny (model X.prog X.w) X.A (compareOp op v u) (EP X pins σ Q) X.xe s₂) X.xe s₁) X.xe s
def tB (t : TE) : TT := fun σ H Q => t σ H fun x H1 => ∃ c, x = .bl c ∧ Q c H1
theorem Zfn {op : CmpOp} {t : TE} (h : PC X op a b t) (h1 : behindInMarks op b = false := by first | exact nobehind _ (by decide) (by decide) | rfl) : PT X (.Compare a [op] [b] pos) (tB t) := by
 intro pins s σ H Q I hw
 refine wpAny_isTrue_Compare1 (ZT (h pins s σ H _ I hw) fun v s1 h1 => ZT h1 fun u s2 h2 => ZT h2 fun c s3 ⟨x, H1, I1, r1, q1⟩ => ?_) h1
 obtain ⟨d, rfl, q⟩ := q1
 cases r1
 exact wpAny_truthy_bool ⟨H1, I1, q⟩
theorem Yw {e : Expr} {t : TE} (h : PE X e t) (he : ∀ whole, isTrue e X.env whole = (do let v ← whole; standAt e.pos; holding [v] (truthy v)) := by intro _; rfl) : PT X e (tB t) := by
 intro pins s σ H Q I hw
 refine isTrue_plain (ZT (h pins s σ H _ I hw) fun v s1 ⟨x, H1, I1, r1, q1⟩ => ?_) (he _)
 obtain ⟨d, rfl, q⟩ := q1
 cases r1
 exact wpAny_truthy_bool ⟨H1, I1, q⟩
variable {tA tB' : TT} {rest : List Expr}
def Zmn (t u : TT) : TT := fun σ H Q => t σ H fun c H1 => if c = true then u σ H1 Q else Q false H1
def tOr (t u : TT) : TT := fun σ H Q => t σ H fun c H1 => if c = true then Q true H1 else u σ H1 Q
def Zmh (t : TT) : TT := fun σ H Q => t σ H fun c H1 => Q (!c) H1
theorem Zg3 (ha : PT X a tA) : PW X (.BoolOp .And [a] pos) tA := by
 intro wh pins s σ H Q I h
 refine isTrue_and (ZT (ha pins s σ H Q I h) fun c s1 e => ?_)
 cases c with
 | true => exact isTrue_and_nil e
 | false => exact e
theorem WS (ha : PT X a tA) : PW X (.BoolOp .Or [a] pos) tA := by
 intro wh pins s σ H Q I h
 refine isTrue_or (ZT (ha pins s σ H Q I h) fun c s1 e => ?_)
 cases c with
 | false => exact isTrue_or_nil e
 | true => exact e
theorem Zje (ha : PT X a tA) (hb : PW X (.BoolOp .And (b :: rest) pos) tB') : PW X (.BoolOp .And (a :: b :: rest) pos) (Zmn tA tB') := by
 intro wh pins s σ H Q I h
 refine isTrue_and (ZT (ha pins s σ H _ I h) fun c s1 ⟨H1, I1, q1⟩ => ?_)
 cases c with
 | true => exact hb wh pins s1 σ H1 Q I1 q1
 | false => exact ⟨H1, I1, q1⟩
theorem JD (ha : PT X a tA) (hb : PW X (.BoolOp .Or (b :: rest) pos) tB') : PW X (.BoolOp .Or (a :: b :: rest) pos) (tOr tA tB') := by
 intro wh pins s σ H Q I h
 refine isTrue_or (ZT (ha pins s σ H _ I h) fun c s1 ⟨H1, I1, q1⟩ => ?_)
 cases c with
 | true => exact ⟨H1, I1, q1⟩
 | false => exact hb wh pins s1 σ H1 Q I1 q1
theorem Y0 (ha : PT X a tA) : PT X (.UnaryOp .Not a pos) (Zmh tA) := by
 intro pins s σ H Q I h
 exact isTrue_not (ha pins s σ H (fun c H1 => Q (!c) H1) I h)
def ZkN (ta tb : TE) : TE := fun σ H Q => ta σ H fun x H1 => ∃ c, x = .bl c ∧ if c = true then tb σ H1 Q else Q (.bl false) H1
def ZkG (ta : TE) : TE := fun σ H Q => ta σ H fun x H1 => ∃ c, x = .bl c ∧ Q (.bl (!c)) H1
theorem Zb2 {op} {t : TE} (h : PE X a t) : PE X (.BoolOp op [a] pos) t := fun pins s σ H Q I hw => BoolOp_one (h pins s σ H Q I hw)
theorem Vo (ha : PE X a ta) (hb : PE X (.BoolOp .And (b :: rest) pos) tb) : PE X (.BoolOp .And (a :: b :: rest) pos) (ZkN ta tb) := by
 intro pins s σ H Q I h
 refine BoolOp_and (ZT (ha pins s σ H _ I h) fun v s1 ⟨x, H1, I1, r1, q1⟩ => ?_)
 obtain ⟨c, rfl, q1⟩ := q1
 cases r1
 refine wpAny_truthy_bool ?_
 cases c with
 | true => exact hb pins s1 σ H1 Q I1 q1
 | false => exact ⟨.bl false, H1, I1, rfl, q1⟩
theorem Zjl (ha : PE X a ta) : PE X (.UnaryOp .Not a pos) (ZkG ta) := by
 intro pins s σ H Q I h
 refine UnaryOp_ (ZT (ha pins s σ H _ I h) fun v s1 ⟨x, H1, I1, r1, q1⟩ => ?_)
 obtain ⟨c, rfl, q1⟩ := q1
 cases r1
 exact not_of (wpAny_truthy_bool ⟨.bl (!c), H1, I1, rfl, q1⟩)
end
def Wp (K : PySem.W.Frag) (H : Hp) (a : Addr) (xs : List V) : Prop :=
 Rd H a (.lst xs) ∨
  ∃ (o : Obj) (its : Array Value) (n : Nat), K.lookup a = some o ∧ o.cls = .type "list" ∧ o.dict = none ∧ o.data = .seq its n ∧ its.size ≤ sizeLine ∧ Zz xs its.toList
def YW (K : PySem.W.Frag) (H : Hp) (a : Addr) (xs : List V) : Prop :=
 Rd H a (.tup xs) ∨
  ∃ (o : Obj) (its : Array Value) (n : Nat), K.lookup a = some o ∧ o.cls = .type "tuple" ∧ o.data = .seq its n ∧ its.size ≤ sizeLine ∧ Zz xs its.toList
def ZmI : Value → Option V
 | .none => some .non
 | .bool b => some (.bl b)
 | .int i _ => some (.int i)
 | .str x _ => some (.str x)
 | .bytes b _ => some (.byt b)
 | .float b _ => some (.flt b)
 | .ref a => some (.ref a)
 | .type n => some (.ty n)
 | _ => none
theorem ZE.abs {x : V} {u : Value} (r : ZE x u) : ZmI u = some x := by
 cases x with
 | non => cases r; rfl
 | bl _ => cases r; rfl
 | int _ => obtain ⟨t, rfl⟩ := r; rfl
 | str _ => obtain ⟨t, rfl⟩ := r; rfl
 | byt _ => obtain ⟨t, rfl⟩ := r; rfl
 | flt _ => obtain ⟨t, rfl⟩ := r; rfl
 | ref _ => cases r; rfl
 | ty _ => cases r; rfl
theorem ZE.inj {x y : V} {u : Value} (r : ZE x u) (q : ZE y u) : x = y := Option.some.inj (r.abs.symm.trans q.abs)
theorem Zz.inj : ∀ {xs ys : List V} {us : List Value}, Zz xs us → Zz ys us → xs = ys
 | _, _, _, .nil, .nil => rfl
 | _, _, _, .cons r t, .cons r' t' => by rw [r.inj r', Zz.inj t t']
section
variable {X : Cx} {pins : List (Addr × Obj)} {σ : St} {H : Hp} {s : Shared} {a : Addr} {xs ys : List V}
theorem Wp.of {K : PySem.W.Frag} (h : H a = some (.lst xs)) : Wp K H a xs := .inl (.inl h)
theorem YW.of {K : PySem.W.Frag} (h : H a = some (.tup xs)) : YW K H a xs := .inl (.inl h)
theorem Zv.list (I : Zv X pins σ H s) (h : Wp X.K H a xs) : ∃ its : List Value, Zz xs its ∧ PlainL s.heap a its.toArray ∧ xs.length ≤ sizeLine := by
 rcases h with h | ⟨o, its, n, hk, hc, hd, hs, hz, r⟩
 ·obtain ⟨z, its, n, r, e⟩ := h.ok I.hok
  exact ⟨its, r, ⟨_, n, e, rfl, rfl, rfl⟩, z⟩
 ·refine ⟨its.toList, r, ⟨o, n, I.kIn a o hk, hc, hd, by simpa using hs⟩, ?_⟩
  have e := r.length
  simp only [Array.length_toList] at e
  omega
theorem Zv.tuple (I : Zv X pins σ H s) (h : YW X.K H a xs) : ∃ its : List Value, Zz xs its ∧ IsTup s.heap a its.toArray ∧ xs.length ≤ sizeLine := by
 rcases h with h | ⟨o, its, n, hk, hc, hs, hz, r⟩
 ·obtain ⟨z, its, r, p⟩ := h.ok I.hok
  exact ⟨its, r, p, z⟩
 ·refine ⟨its.toList, r, ⟨o, I.kIn a o hk, hc, n, by simpa using hs⟩, ?_⟩
  have e := r.length
  simp only [Array.length_toList] at e
  omega
theorem Zv.list_inj (I : Zv X pins σ H s) (h : Wp X.K H a xs) (h' : Wp X.K H a ys) : xs = ys := by
 obtain ⟨its, r, ⟨o, n, e, _, _, d⟩, _⟩ := I.list h
 obtain ⟨its', r', ⟨o', n', e', _, _, d'⟩, _⟩ := I.list h'
 rw [e] at e'; cases e'
 rw [d] at d'
 injection d' with d1 _
 have : its = its' := by simpa using congrArg Array.toList d1
 subst this
 exact r.inj r'
theorem Zv.tuple_inj (I : Zv X pins σ H s) (h : YW X.K H a xs) (h' : YW X.K H a ys) : xs = ys := by
 obtain ⟨its, r, ⟨o, e, _, n, d⟩, _⟩ := I.tuple h
 obtain ⟨its', r', ⟨o', e', _, n', d'⟩, _⟩ := I.tuple h'
 rw [e] at e'; cases e'
 rw [d] at d'
 injection d' with d1 _
 have : its = its' := by simpa using congrArg Array.toList d1
 subst this
 exact r.inj r'
end
abbrev Cx.wish (X : Cx) (E : Value → Shared → Prop) : Cx := { X with xe := E }
abbrev Cx.nox (X : Cx) : Cx := X.wish fun _ _ => False
theorem Cx.Ok.wish {X : Cx} (ok : X.Ok) (E : Value → Shared → Prop) : (X.wish E).Ok :=
 ⟨ok.mod, ok.kind, ok.glob, ok.blt, ok.above, ok.inj, ok.has, ok.cab, ok.hd, ok.frames, ok.stk, ok.exf, ok.bs, ok.bsz, ok.noex, ok.exfs, ok.funs, ok.frf⟩
theorem Cx.Ok.unwish {X : Cx} {E : Value → Shared → Prop} (ok : (X.wish E).Ok) : X.Ok :=
 ⟨ok.mod, ok.kind, ok.glob, ok.blt, ok.above, ok.inj, ok.has, ok.cab, ok.hd, ok.frames, ok.stk, ok.exf, ok.bs, ok.bsz, ok.noex, ok.exfs, ok.funs, ok.frf⟩
section
variable {X : Cx} {pins : List (Addr × Obj)} {σ : St} {H : Hp} {s : Shared} {E : Value → Shared → Prop}
theorem Zv.wish (I : Zv X pins σ H s) (E : Value → Shared → Prop) : Zv (X.wish E) pins σ H s := ⟨I.ok.wish E, I.os, I.bare, I.base, I.loc, I.cell, I.free, I.freeC, I.pin, I.hok, I.len⟩
theorem Zv.unwish (I : Zv (X.wish E) pins σ H s) : Zv X pins σ H s := ⟨I.ok.unwish, I.os, I.bare, I.base, I.loc, I.cell, I.free, I.freeC, I.pin, I.hok, I.len⟩
theorem SP.unwish {D : Xi} {f : Flow} {s' : Shared} (h : SP (X.wish E) pins D f s') : SP X pins D f s' := by
 cases f with
 | next => obtain ⟨σ', H', I, q⟩ := h; exact ⟨σ', H', I.unwish, q⟩
 | brk => obtain ⟨σ', H', I, q⟩ := h; exact ⟨σ', H', I.unwish, q⟩
 | cont => obtain ⟨σ', H', I, q⟩ := h; exact ⟨σ', H', I.unwish, q⟩
 | ret u => obtain ⟨v, σ', H', I, r, q⟩ := h; exact ⟨v, σ', H', I.unwish, r, q⟩
theorem PSs.nox {st : List Stmt} {t : TS} (h : PSs X.nox st t) : PSs X st t := fun pins s σ H D I hw =>
 wpAny_mono (h pins s σ H D (I.wish _) hw) (fun _ _ q => q.unwish) fun _ _ z => False.elim z
end
section
variable {X : Cx} {st : Stmt} {rest : List Stmt} {t u : TS} {e : Expr} {te : TE} {pos : Pos}
def ZkH : TS := fun D σ H => D.nx σ H
def ZiZ (t u : TS) : TS := fun D σ H => t { D with nx := u D } σ H
theorem ZC : PSs X [] ZkH := fun _ _ σ H _ I h => wpAny_execs_nil ⟨σ, H, I, h⟩
theorem Zn (h1 : PS X st t) (h2 : PSs X rest u) : PSs X (st :: rest) (ZiZ t u) := by
 intro pins s σ H D I h
 refine wpAny_execs_cons (ZT (h1 pins s σ H { D with nx := u D } I h) fun f s1 q => ?_)
 cases f with
 | next =>
  obtain ⟨σ', H', I', q⟩ := q
  exact h2 pins s1 σ' H' D I' q
 | ret v => exact q
 | brk => exact q
 | cont => exact q
theorem Zo (h1 : PS X st t) : PSs X [st] t := by
 intro pins s σ H D I h
 refine wpAny_execs_cons (ZT (h1 pins s σ H D I h) fun f s1 q => ?_)
 cases f with
 | next => exact wpAny_execs_nil q
 | ret v => exact q
 | brk => exact q
 | cont => exact q
theorem Zv.quiet {pins : List (Addr × Obj)} {σ : St} {H : Hp} {s : Shared} (I : Zv X pins σ H s) : interactive X.env = false := by simp [interactive, I.ok.kind]
def ZeJ (te : TE) : TS := fun D σ H => te σ H fun _ H1 => D.nx σ H1
theorem YC (he : PE X e te) (hs : swapsWith e none pos.line X.env = pure false := by rfl) : PS X (.Expr e pos) (ZeJ te) := by
 intro pins s σ H D I h
 exact wpAny_Expr_any (ZT (he pins s σ H _ I h) fun v s1 ⟨x, H1, I1, r1, q1⟩ => ⟨σ, H1, I1, q1⟩) I.quiet hs
def Zmf (te : TE) : TS := fun D σ H => te σ H D.rt
theorem Zs (he : PE X e te) : PS X (.Return (some e) pos) (Zmf te) := by
 intro pins s σ H D I h
 exact wpAny_Return_some (ZT (he pins s σ H _ I h) fun v s1 ⟨x, H1, I1, r1, q1⟩ => ⟨x, σ, H1, I1, r1, q1⟩)
def ZkI (c : TT) (t u : TS) : TS := fun D σ H => c σ H fun b H1 => if b = true then t D σ H1 else u D σ H1
theorem Z4 {c : Expr} {a b : List Stmt} {tc : TT} (hc : PT X c tc) (ha : PSs X a t) (hb : PSs X b u) : PS X (.If c a b pos) (ZkI tc t u) := by
 intro pins s σ H D I h
 refine wpAny_If (ZT (hc pins s σ H _ I h) fun d s1 ⟨H1, I1, q1⟩ => ?_)
 cases d with
 | true => exact ha pins s1 σ H1 D I1 q1
 | false => exact hb pins s1 σ H1 D I1 q1
end
abbrev TG := V → St → Hp → (St → Hp → Prop) → Prop
abbrev TGs := List V → St → Hp → (St → Hp → Prop) → Prop
def PG (X : Cx) (target : Expr) (t : TG) : Prop :=
 ∀ (pins : List (Addr × Obj)) (s : Shared) (σ : St) (H : Hp) (v : V) (u : Value) (Q : St → Hp → Prop), Zv X pins σ H s → ZE v u → t v σ H Q →
  wpAny (model X.prog X.w) X.A (assign target X.env u) (fun _ s' => ∃ σ' H', Zv X pins σ' H' s' ∧ Q σ' H') X.xe s
def PGs (X : Cx) (ts : List Expr) (t : TGs) : Prop :=
 ∀ (pins : List (Addr × Obj)) (s : Shared) (σ : St) (H : Hp) (vs : List V) (us : List Value) (Q : St → Hp → Prop), Zv X pins σ H s → Zz vs us → t vs σ H Q →
  wpAny (model X.prog X.w) X.A (assignInOrder ((assignEach ts X.env).map (·.2)) us) (fun _ s' => ∃ σ' H', Zv X pins σ' H' s' ∧ Q σ' H') X.xe s
abbrev ZgD := V → V → V → Hp → (Hp → Prop) → Prop
def Zke (X : Cx) (t : ZgD) : Prop :=
 ∀ (pins : List (Addr × Obj)) (s : Shared) (σ : St) (H : Hp) (o i v : V) (ov iv u : Value) (Q : Hp → Prop), Zv X pins σ H s → ZE o ov → ZE i iv → ZE v u → t o i v H Q →
  wpAny (model X.prog X.w) X.A (setItem ov iv u) (fun _ s' => ∃ H', Zv X pins σ H' s' ∧ Q H') X.xe s
abbrev TIp := V → V → Hp → VK → Prop
def PIp (X : Cx) (op : Operator) (t : TIp) : Prop :=
 ∀ (pins : List (Addr × Obj)) (s : Shared) (σ : St) (H : Hp) (x y : V) (v u : Value) (Q : VK), Zv X pins σ H s → ZE x v → ZE y u → t x y H Q →
  wpAny (model X.prog X.w) X.A (inplaceOp op v u) (EP X pins σ Q) X.xe s
section
variable {X : Cx} {pos : Pos}
def Yh (i : Nat) : TG := fun v σ H Q => Q (σ.set i (some v)) H
theorem Zc1 {i : Nat} {x : Str} (hN : X.N.Nodup) (hi : X.N[i]? = some x) (hx : Loc X.env.scope x) (hf : X.fn x = true ∨ X.env.scope.names.lookup x = some .local := by first | exact .inl rfl | exact .inr rfl | assumption) : PG X (.Name x pos) (Yh i) := by
 intro pins s σ H v u Q I r h
 exact wpAny_assign_Name (Y7 I hN hi hx r (fun s' I' => ⟨_, H, I', h⟩) hf)
def Zgh : TGs := fun vs σ H Q => vs = [] ∧ Q σ H
def Xb (t : TG) (u : TGs) : TGs := fun vs σ H Q => ∃ v r, vs = v :: r ∧ t v σ H fun σ' H' => u r σ' H' Q
theorem Zg6 : PGs X [] Zgh := by
 intro pins s σ H vs us Q I r h
 obtain ⟨e, h⟩ := h
 subst e
 cases r
 exact assignInOrder_nil ⟨σ, H, I, h⟩
theorem ZaW {e : Expr} {es : List Expr} {t : TG} {u : TGs} (h1 : PG X e t) (h2 : PGs X es u)
  (hs : (assignEach (e :: es) X.env).map (·.2) = assign e X.env :: (assignEach es X.env).map (·.2) := by rfl) : PGs X (e :: es) (Xb t u) := by
 intro pins s σ H vs us Q I r h
 obtain ⟨v, vr, e1, h⟩ := h
 subst e1
 cases r with
 | cons r rr =>
  rw [hs]
  refine assignInOrder_cons (ZT (h1 pins s σ H _ _ _ I r h) fun _ s1 ⟨σ1, H1, I1, q1⟩ => ?_)
  exact h2 pins s1 σ1 H1 _ _ Q I1 rr q1
def Zgg (K : PySem.W.Frag) (n : Nat) (t : TGs) : TG := fun v σ H Q => ∃ a xs, v = .ref a ∧ YW K H a xs ∧ xs.length = n ∧ t xs σ H Q
theorem Zjj {es : List Expr} {k : Nat} {t : TGs} {n : Nat} (hc : X.calm = true) (h : PGs X es t)
  (hn : (assignEach es X.env).length = n := by rfl) (hst : (assignEach es X.env).findIdx? (·.1) = none := by rfl) : PG X (.Tuple es k pos) (Zgg X.K n t) := by
 intro pins s σ H v u Q I r hw
 obtain ⟨a, xs, e1, hq, hl, hw⟩ := hw
 subst e1
 cases r
 obtain ⟨its, rv, ht, hz⟩ := I.tuple hq
 refine assign_Tuple_tuple (I.ok.hd hc) ht (by simp [hn, ← hl, rv.length]) hst fun h' hx => ?_
 have I1 : Zv X pins σ H { s with heap := h' } := I.kept (t' := s.toks) fun b o e => hx b o (Nat.ne_of_lt (Heap.lt_size e)) e
 exact h pins _ σ H xs _ Q I1 (by simpa using rv) hw
def ZmF (to ti : TE) (t : ZgD) : TG := fun v σ H Q => to σ H fun o H1 => ti σ H1 fun i H2 => t o i v H2 fun H3 => Q σ H3
theorem Xo {o i : Expr} {to ti : TE} {t : ZgD} (ho : PE X o to) (hi : PE X i ti) (hs : Zke X t)
  (ha : ∀ v, assign (.Subscript o i pos) X.env v = (do
   let ov ← holding [v] (eval o X.env)
   let iv ← holding [v, ov] (eval i X.env)
   standAt pos
   holding [v, ov, iv] (setItem ov iv v)
   release [v, ov, iv] []) := by intro _; rfl) : PG X (.Subscript o i pos) (ZmF to ti t) := by
 intro pins s σ H v u Q I r h
 rw [ha]
 refine wpAny_bind (wpAny_holding (ZT (ho pins s σ H _ I h) fun ov s1 ⟨x, H1, I1, r1, q1⟩ => ?_))
 refine wpAny_bind (wpAny_holding (ZT (hi pins s1 σ H1 _ I1 q1) fun iv s2 ⟨y, H2, I2, r2, q2⟩ => ?_))
 refine wpAny_bind (wpAny_standAt (wpAny_bind (wpAny_holding (ZT (hs pins s2 σ H2 x y v ov iv u _ I2 r1 r2 r q2) fun _ s3 ⟨H3, I3, q3⟩ => ?_))))
 exact wpAny_release ⟨σ, H3, I3, q3⟩
def ZbP (te : TE) (g : TG) : TS := fun D σ H => te σ H fun x H1 => g x σ H1 D.nx
theorem Xn {tg e : Expr} {te : TE} {g : TG} (he : PE X e te) (hg : PG X tg g) (hs : swapsWithSole [tg] e pos.line X.env = pure false := by rfl) (hw : swappedStores [tg] e X.env = pure none := by rfl)
  (h1 : (assignEach [tg] X.env).map (·.2) = [assign tg X.env] := by rfl) : PS X (.Assign [tg] e pos) (ZbP te g) := by
 intro pins s σ H D I h
 refine wpAny_Assign_stores (ZT (he pins s σ H _ I h) fun v s1 ⟨x, H1, I1, r1, q1⟩ => ?_) hs hw
 rw [h1]
 exact ZT (hg pins s1 σ H1 x v _ I1 r1 q1) fun _ s2 q => q
theorem Zjg {i : Nat} {x : Str} {e : Expr} {te : TE} {pos' : Pos} (hN : X.N.Nodup) (hi : X.N[i]? = some x) (hx : Loc X.env.scope x) (he : PE X e te) (hs : swapsWith e (some (.Name x pos')) pos.line X.env = pure false := by rfl) (hf : X.fn x = true ∨ X.env.scope.names.lookup x = some .local := by first | exact .inl rfl | exact .inr rfl | assumption) :
  PS X (.Assign [.Name x pos'] e pos) (ZbP te (Yh i)) := by
 intro pins s σ H D I h
 refine wpAny_Assign_Name (ZT (he pins s σ H _ I h) fun v s1 ⟨y, H1, I1, r1, q1⟩ => ?_) hs
 exact Y7 I1 hN hi hx r1 (fun s2 I2 => ⟨_, H1, I2, q1⟩) hf
def Zmg (i j : Nat) (ta : TA) : TS := fun D σ H => ta σ H fun vs H1 => ∃ v w, vs = [v, w] ∧ D.nx ((σ.set i (some v)).set j (some w)) H1
theorem Zjh {i j : Nat} {x y : Str} {a b : Expr} {ta : TA} {px py pt : Pos} {kt k2 pt2} (hc : X.calm = true) (hN : X.N.Nodup) (hi : X.N[i]? = some x) (hj : X.N[j]? = some y) (hij : i ≠ j)
  (hx : X.env.scope.names.lookup x = some .local) (hy : X.env.scope.names.lookup y = some .local) (ha : PA X [a, b] ta)
  (hw : swappedStores [.Tuple [.Name x px, .Name y py] kt pt] (.Tuple [a, b] k2 pt2) X.env = pure (some [x, y]))
  (hs : swapsWithSole [.Tuple [.Name x px, .Name y py] kt pt] (.Tuple [a, b] k2 pt2) pos.line X.env = pure false := by rfl) :
  PS X (.Assign [.Tuple [.Name x px, .Name y py] kt pt] (.Tuple [a, b] k2 pt2) pos) (Zmg i j ta) := by
 intro pins s σ H D I h
 rw [exec_Assign_arm]
 refine wpAny_bind (wpAny_standAt ?_)
 rw [hs]
 refine wpAny_bind (wpAny_pure ?_)
 rw [if_neg (by decide)]
 refine wpAny_bind (Tuple_ (ZT (ha _ pins s σ H _ I h) fun us s1 ⟨vs, H1, I1, r1, q1⟩ => ?_))
 obtain ⟨v, w, e1, q1⟩ := q1
 subst e1
 obtain ⟨u1, u2, rfl, rv, rw'⟩ : ∃ u1 u2, us = [u1, u2] ∧ ZE v u1 ∧ ZE w u2 := by
  cases r1 with
  | cons p q =>
   cases q with
   | cons p' q' =>
    cases q'
    exact ⟨_, _, rfl, p, p'⟩
 refine wpAny_newObj_type ?_ (by show 2 ≤ sizeLine; decide)
 have I2 : Zv X pins σ H1 { s1 with heap := s1.heap.push { cls := .type "tuple", data := .seq [u1, u2].toArray } } := I1.kept (t' := s1.toks) fun b o e => Heap.get?_push_of_some _ e
 rw [hw]
 refine wpAny_bind (wpAny_pure ?_)
 show wpAny (model X.prog X.w) X.A (do rule "assign.swapped-stores"; let items ← unpackItems (.ref s1.heap.objs.size) 2 none; assignInOrder [fun v => bindName X.env y v, fun v => bindName X.env x v] items.reverse; pure Flow.next) _ _ _
 refine wpAny_bind (wpAny_rule (wpAny_bind (unpackItems_tuple (items := #[u1, u2]) (I.ok.hd hc) (IsTup.new s1.heap _) fun h' hx' => ?_)))
 have I3 := I2.kept (h' := h') (t' := s1.toks) fun b o e => hx' b o (Nat.ne_of_lt (Heap.lt_size e)) e
 show wpAny _ _ (assignInOrder [fun v => bindName X.env y v, fun v => bindName X.env x v] [u2, u1] >>= fun _ => pure Flow.next) _ _ _
 refine wpAny_bind (assignInOrder_cons (wpAny_bindName (Y7 I3 hN hj (.inl hy) rw' (fun s2 I4 => ?_) (.inr hy))))
 refine assignInOrder_cons (wpAny_bindName (Y7 I4 hN hi (.inl hx) rv (fun s3 I5 => assignInOrder_nil (wpAny_pure ?_)) (.inr hx)))
 rw [List.set_comm _ _ (Ne.symm hij)] at I5
 exact ⟨_, H1, I5, q1⟩
def Zmm (i : Nat) (te : TE) (ti : TIp) : TS := fun D σ H => ∃ x, σ[i]? = some (some x) ∧ te σ H fun y H1 => ti x y H1 fun z H2 => D.nx (σ.set i (some z)) H2
theorem Zb0 {i : Nat} {x : Str} {e : Expr} {te : TE} {op : Operator} {ti : TIp} {pos' : Pos} (hN : X.N.Nodup) (hi : X.N[i]? = some x) (hx : Loc X.env.scope x) (he : PE X e te) (ho : PIp X op ti) (hf : X.fn x = true ∨ X.env.scope.names.lookup x = some .local := by first | exact .inl rfl | exact .inr rfl | assumption) :
  PS X (.AugAssign (.Name x pos') op e pos) (Zmm i te ti) := by
 intro pins s σ H D I h
 obtain ⟨v, e1, h⟩ := h
 obtain ⟨m, hn, hl⟩ := I.loc
 have vis : Vis X.env.scope x := by rcases hx with k | k; exact .inl k; exact .inr (.inl k)
 obtain ⟨u, r, l⟩ := hl i x v hi e1 vis
 refine wpAny_AugAssign_Name ?_
 have go : wpAny (model X.prog X.w) X.A (eval e X.env) (fun w s₂ => wpAny (model X.prog X.w) X.A (inplaceOp op u w) (fun r s₃ => wpAny (model X.prog X.w) X.A (storeName X.env x r) (fun _ => SP X pins D .next) X.xe s₃) X.xe s₂) X.xe s := by
  refine ZT (he pins s σ H _ I h) fun w s1 ⟨y, H1, I1, r1, q1⟩ => ?_
  refine ZT (ho pins s1 σ H1 v y u w _ I1 r r1 q1) fun z s2 ⟨zv, H2, I2, r2, q2⟩ => ?_
  exact Y7 I2 hN hi hx r2 (fun s3 I3 => ⟨_, H2, I3, q2⟩) hf
 rcases l with ⟨hk, hm⟩ | ⟨hk, c, hc, hcell⟩
 ·exact wpAny_loadName_local I.ok.kind hk hn hm go
 ·rcases hk with hk | hk
  ·exact wpAny_loadName_cell I.ok.kind hk hc hcell go
  ·rcases hx with k | k
   ·have : X.env.scope.names.lookup x = some .free := hk
    rw [k] at this; cases this
   ·have : X.env.scope.names.lookup x = some .free := hk
    rw [k] at this; cases this
def ZkM (to ti te : TE) (tget : V → V → Hp → VK → Prop) (tip : TIp) (tset : ZgD) : TS := fun D σ H => to σ H fun o H1 => ti σ H1 fun i H2 => tget o i H2 fun x H3 => te σ H3 fun y H4 => tip x y H4 fun z H5 => tset o i z H5 fun H6 => D.nx σ H6
def ZlP (X : Cx) (t : V → V → Hp → VK → Prop) : Prop :=
 ∀ (pins : List (Addr × Obj)) (s : Shared) (σ : St) (H : Hp) (o i : V) (ov iv : Value) (Q : VK), Zv X pins σ H s → ZE o ov → ZE i iv → t o i H Q →
  wpAny (model X.prog X.w) X.A (getItem ov iv) (EP X pins σ Q) X.xe s
theorem J3 {o i e : Expr} {to ti te : TE} {tget : V → V → Hp → VK → Prop} {tip : TIp} {tset : ZgD} {op : Operator} {tpos : Pos} (ho : PE X o to) (hi : PE X i ti) (hg : ZlP X tget) (he : PE X e te) (hp : PIp X op tip) (hs : Zke X tset)
  (ha : ∀ ov iv new, augStore i ov iv new = (do holding [new, ov, iv] (setItem ov iv new); release [new, ov, iv] []; pure .next) := by intros; rfl) : PS X (.AugAssign (.Subscript o i tpos) op e pos) (ZkM to ti te tget tip tset) := by
 intro pins s σ H D I h
 refine wpAny_AugAssign_SubscriptAny (ZT (ho pins s σ H _ I h) fun ov s1 ⟨x1, H1, I1, r1, q1⟩ => ?_) ha
 refine ZT (hi pins s1 σ H1 _ I1 q1) fun iv s2 ⟨x2, H2, I2, r2, q2⟩ => ?_
 refine ZT (hg pins s2 σ H2 x1 x2 ov iv _ I2 r1 r2 q2) fun old s3 ⟨x3, H3, I3, r3, q3⟩ => ?_
 refine ZT (he pins s3 σ H3 _ I3 q3) fun v s4 ⟨x4, H4, I4, r4, q4⟩ => ?_
 refine ZT (hp pins s4 σ H4 x3 x4 old v _ I4 r3 r4 q4) fun new s5 ⟨x5, H5, I5, r5, q5⟩ => ?_
 exact ZT (hs pins s5 σ H5 x1 x2 x5 ov iv new _ I5 r1 r2 r5 q5) fun _ s6 ⟨H6, I6, q6⟩ => ⟨σ, H6, I6, q6⟩
def ipI (f : Int → Int → Int) : TIp := fun x y H Q => ∃ i j, x = .int i ∧ y = .int j ∧ Q (.int (f i j)) H
theorem Xu : PIp X .Add (ipI fun i j => i + j) := by
 intro pins s σ H x y v u Q I r1 r2 h
 obtain ⟨i, j, e1, e2, q⟩ := h
 subst e1; subst e2
 obtain ⟨t, rfl⟩ := r1
 obtain ⟨t', rfl⟩ := r2
 exact iadd_int ⟨.int _, H, I.tok _, ⟨_, rfl⟩, q⟩
theorem Zf9 : PIp X .Sub (ipI fun i j => i - j) := by
 intro pins s σ H x y v u Q I r1 r2 h
 obtain ⟨i, j, e1, e2, q⟩ := h
 subst e1; subst e2
 obtain ⟨t, rfl⟩ := r1
 obtain ⟨t', rfl⟩ := r2
 exact isub_int ⟨.int _, H, I.tok _, ⟨_, rfl⟩, q⟩
end
section
variable {X : Cx} {pos : Pos}
def ZeH (c : TT) (tb : TS) : TS := fun D σ H => ∃ W : Nat → St → Hp → Prop, (∃ m, W m σ H) ∧ ∀ m σ H, W m σ H →
 c σ H fun b H1 => if b = true then ∃ N : St → Hp → Prop, (∀ σ' H', N σ' H' → ∃ m', m' < m ∧ W m' σ' H') ∧ tb { D with nx := N, ct := N, bk := D.nx } σ H1 else D.nx σ H1
theorem Y8 {c : Expr} {body : List Stmt} {tc : TT} {tb : TS} (hp : PassesOwn (model X.prog X.w) X.A X.env X.xe) (hc : PT X c tc) (hb : PSs X body tb) : PS X (.While c body [] pos) (ZeH tc tb) := by
 intro pins s σ H D I h
 obtain ⟨W, ⟨m0, w0⟩, turn⟩ := h
 refine wpAny_While (codeAny_whileLoop (fun n s' => ∃ σ' H', Zv X pins σ' H' s' ∧ W n σ' H') ?_ m0 ⟨σ, H, I, w0⟩)
 rintro n s1 ⟨σ1, H1, I1, w1⟩
 refine wpAny_passesOwn hp (ZT (hc pins s1 σ1 H1 _ I1 (turn n σ1 H1 w1)) fun b s2 ⟨H2, I2, q2⟩ => ?_)
 cases b with
 | true =>
  obtain ⟨N, hN, q2⟩ := q2
  rw [if_pos rfl]
  refine wpAny_passesOwn hp (ZT (hb pins s2 σ1 H2 _ I2 q2) fun f s3 q3 => ?_)
  cases f with
  | next =>
   obtain ⟨σ3, H3, I3, n3⟩ := q3
   obtain ⟨m', hm, w3⟩ := hN σ3 H3 n3
   exact ⟨m', hm, σ3, H3, I3, w3⟩
  | cont =>
   obtain ⟨σ3, H3, I3, n3⟩ := q3
   obtain ⟨m', hm, w3⟩ := hN σ3 H3 n3
   exact ⟨m', hm, σ3, H3, I3, w3⟩
  | brk => exact q3
  | ret v => exact q3
 | false =>
  rw [if_neg Bool.false_ne_true]
  exact wpAny_execs_nil ⟨σ1, H2, I2, q2⟩
end
structure It where
 go : Nat → Hp → Prop
 yld : Nat → Hp → V → Hp → Prop
 stop : Nat → Hp → Prop
def V5 (X : Cx) (pins : List (Addr × Obj)) (H : Hp) (b : Addr) : Prop :=
 H b = none ∧ b ≠ X.env.locals ∧ b ∉ X.fs ∧ (b ∈ X.ex ∨ X.s₀.heap.objs.size ≤ b) ∧ (∀ x c, X.env.cells.lookup x = some c → c ≠ b) ∧ ∀ p ∈ X.pn ++ pins, p.1 ≠ b
theorem Zv.fpOk {X : Cx} {pins : List (Addr × Obj)} {σ : St} {H H' : Hp} {s : Shared} {b : Addr} (I : Zv X pins σ H s) (hb : s.heap.objs.size ≤ b) (hn : H' b = none) : V5 X pins H' b := by
 refine ⟨hn, Nat.ne_of_gt (Nat.lt_of_lt_of_le I.lt hb), I.nofs hb, .inr (Nat.le_trans I.sz hb), fun x c e z => ?_, fun p hp z => ?_⟩
 ·obtain ⟨v, q⟩ := I.cell x c e
  exact absurd (Nat.lt_of_lt_of_le q.lt (by rw [z]; exact hb)) (Nat.lt_irrefl _)
 ·exact absurd (Nat.lt_of_lt_of_le (Heap.lt_size (I.pin p hp).1) (by rw [z]; exact hb)) (Nat.lt_irrefl _)
structure Zar (P : Program) (w : World) (K : PySem.W.Frag) (tg : Expr) (J : It) (fp : List Addr) (it : Addr) (tn : Nat → Heap → Prop) : Prop where
 mem : it ∈ fp
 obj : ∀ i h, tn i h → ∀ b ∈ fp, ∃ o, h.get? b = some o ∧ ∀ v, o.data ≠ .cell v
 keep : ∀ i h h', tn i h → (∀ b ∈ fp, ∀ o, h.get? b = some o → h'.get? b = some o) → tn i h'
 item : ∀ (X : Cx), X.prog = P → X.w = w → X.K = K → X.calm = true → ∀ (i : Nat) (pins : List (Addr × Obj)) (s : Shared) (σ : St) (H : Hp) (E : Value → Shared → Prop), Zv X pins σ H s → (∀ b ∈ fp, V5 X pins H b) → tn i s.heap → J.go i H →
  wpAny (model P w) X.A (pyNext (.ref it)) (fun r s1 => ∃ u, r = some u ∧
   wpAny (model P w) X.A (letOwnedTupleGo tg (.ref it) u) (fun _ s2 => ∃ x H', Zv X pins σ H' s2 ∧ ZE x u ∧ J.yld i H x H' ∧ tn (i + 1) s2.heap ∧ ∀ b ∈ fp, H' b = none) E s1) E s
 done : ∀ (X : Cx), X.prog = P → X.w = w → X.K = K → X.calm = true → ∀ (i : Nat) (pins : List (Addr × Obj)) (s : Shared) (σ : St) (H : Hp) (E : Value → Shared → Prop), Zv X pins σ H s → (∀ b ∈ fp, V5 X pins H b) → tn i s.heap → J.stop i H →
  wpAny (model P w) X.A (pyNext (.ref it)) (fun r s1 => r = none ∧ Zv X pins σ H s1) E s
 self : ∀ (A : Around) (i : Nat) (s : Shared) (Q : Value → Shared → Prop) (E : Value → Shared → Prop), tn i s.heap → Q (.ref it) s → wpAny (model P w) A (pyIter (.ref it)) Q E s
abbrev TI := St → Hp → (It → Hp → Prop) → Prop
def PIE (X : Cx) (pins : List (Addr × Obj)) (σ : St) (tg : Expr) (R : It → Hp → Prop) (itv : Value) (s2 : Shared) : Prop :=
 ∃ (it : Addr) (fp : List Addr) (tn : Nat → Heap → Prop) (J : It) (H' : Hp), itv = .ref it ∧ Zv X pins σ H' s2 ∧ Zar X.prog X.w X.K tg J fp it tn ∧ tn 0 s2.heap ∧ (∀ b ∈ fp, V5 X pins H' b) ∧ R J H'
def PI (X : Cx) (tg iter : Expr) (wi : TI) : Prop :=
 ∀ (pins : List (Addr × Obj)) (s : Shared) (σ : St) (H : Hp) (R : It → Hp → Prop), Zv X pins σ H s → wi σ H R →
  wpAny (model X.prog X.w) X.A (eval iter X.env) (fun v s1 => wpAny (model X.prog X.w) X.A (pyIter v) (PIE X pins σ tg R) X.xe s1) X.xe s
theorem Zdf {M : Model} {A : Around} {E : Value → Shared → Prop} {s : Shared} {tg : Expr} {it : Addr} {u : Value} {o : Obj} {n : String} {vs : Array Value} {Q : Unit → Shared → Prop} (ho : s.heap.get? it = some o) (hc : o.cls = .type n) (hd : o.data = .fields vs)
    (hn : ["enumerate", "zip", "dict_itemiterator", "dict_reverseitemiterator", "odict_iterator", "itertools.zip_longest", "itertools.pairwise"].contains n = false) (hQ : Q () s) : wpAny M A (letOwnedTupleGo tg (.ref it) u) Q E s := by
  unfold letOwnedTupleGo
  cases tg <;> first
    | exact wpAny_pure hQ
    | (cases u <;> first
        | exact wpAny_pure hQ
        | (refine wpAny_bind (wpAny_load ho ?_)
           rw [hc, hd]
           show wpAny M A (if (["enumerate", "zip", "dict_itemiterator", "dict_reverseitemiterator", "odict_iterator", "itertools.zip_longest", "itertools.pairwise"].contains n && vs[0]? == some (rawInt _)) = true then _ else _) Q E s
           rw [if_neg (by intro h; rw [hn, Bool.false_and] at h; cases h)]
           exact wpAny_pure hQ))
def Itl (K : PySem.W.Frag) (a : Addr) : It :=
 ⟨fun i H => ∃ xs x, Wp K H a xs ∧ xs[i]? = some x, fun i H x H' => H' = H ∧ ∀ xs, Wp K H a xs → xs[i]? = some x, fun i H => ∃ xs, Wp K H a xs ∧ xs.length ≤ i⟩
def Itt (K : PySem.W.Frag) (a : Addr) : It :=
 ⟨fun i H => ∃ xs x, YW K H a xs ∧ xs[i]? = some x, fun i H x H' => H' = H ∧ ∀ xs, YW K H a xs → xs[i]? = some x, fun i H => ∃ xs, YW K H a xs ∧ xs.length ≤ i⟩
def Itr (lo : Int) (n : Nat) : It := ⟨fun i _ => i < n, fun i H x H' => H' = H ∧ x = .int (lo + i), fun i _ => n ≤ i⟩
theorem ZdC {P : Program} {w : World} {K : PySem.W.Frag} {tg : Expr} (a it : Addr) : Zar P w K tg (Itl K a) [it] it (fun i h => h.IsListIter it a i) where
 mem := by simp
 obj := fun i h st b hb => by
  have e : b = it := by simpa using hb
  subst e
  obtain ⟨o, e, c, d⟩ := st
  exact ⟨o, e, fun v z => by rw [d] at z; cases z⟩
 keep := fun i h h' st k => st.at fun o e => k it (by simp) o e
 item := by
  intro X hP hw hK hc i pins s σ H E I hf st hg
  subst hP hw hK
  obtain ⟨xs, x, hq, hx⟩ := hg
  obtain ⟨its, rv, p, hz⟩ := I.list hq
  obtain ⟨u, hu, ru⟩ := rv.get hx
  obtain ⟨f0, f1, f2, f3, f4, f5⟩ := hf it (by simp)
  refine wpAny_pyNext_list_item st p.isList (x := u) (by simpa using hu) fun h' st' sb => ?_
  have I1 : Zv X pins σ H { s with heap := h' } := I.turned (t' := s.toks) (fun b o hb e => (sb.2 b hb).trans e) f0 f1 f3 f4 f5
  obtain ⟨o, e, c, d⟩ := id st'
  exact ⟨u, rfl, Zdf (s := { s with heap := h' }) e c d (by decide) ⟨x, H, I1, ru, ⟨rfl, fun ys hy => by rw [I.list_inj hy hq]; exact hx⟩, st', fun b hb => (hf b hb).1⟩⟩
 done := by
  intro X hP hw hK hc i pins s σ H E I hf st hg
  subst hP hw hK
  obtain ⟨xs, hq, hx⟩ := hg
  obtain ⟨its, rv, p, hz⟩ := I.list hq
  obtain ⟨f0, f1, f2, f3, f4, f5⟩ := hf it (by simp)
  have hl := rv.length
  exact wpAny_pyNext_list_end (I.ok.hd hc) st p.isList (by simp; omega) fun h' eb => ⟨rfl, I.turned (t' := s.toks) (fun b o hb e => eb b o hb e) f0 f1 f3 f4 f5⟩
 self := fun _ _ _ _ _ st h => wpAny_pyIter_listiter st h
theorem ZbM {P : Program} {w : World} {K : PySem.W.Frag} {tg : Expr} (a it : Addr) : Zar P w K tg (Itt K a) [it] it (fun i h => h.IsTupleIter it a i) where
 mem := by simp
 obj := fun i h st b hb => by
  have e : b = it := by simpa using hb
  subst e
  obtain ⟨o, e, c, d⟩ := st
  exact ⟨o, e, fun v z => by rw [d] at z; cases z⟩
 keep := fun i h h' st k => st.at fun o e => k it (by simp) o e
 item := by
  intro X hP hw hK hc i pins s σ H E I hf st hg
  subst hP hw hK
  obtain ⟨xs, x, hq, hx⟩ := hg
  obtain ⟨its, rv, p, hz⟩ := I.tuple hq
  obtain ⟨u, hu, ru⟩ := rv.get hx
  obtain ⟨f0, f1, f2, f3, f4, f5⟩ := hf it (by simp)
  refine wpAny_pyNext_tuple_item st (show s.heap.IsTuple a its.toArray from p) (x := u) (by simpa using hu) fun h' st' sb => ?_
  have I1 : Zv X pins σ H { s with heap := h' } := I.turned (t' := s.toks) (fun b o hb e => (sb.2 b hb).trans e) f0 f1 f3 f4 f5
  obtain ⟨o, e, c, d⟩ := id st'
  exact ⟨u, rfl, Zdf (s := { s with heap := h' }) e c d (by decide) ⟨x, H, I1, ru, ⟨rfl, fun ys hy => by rw [I.tuple_inj hy hq]; exact hx⟩, st', fun b hb => (hf b hb).1⟩⟩
 done := by
  intro X hP hw hK hc i pins s σ H E I hf st hg
  subst hP hw hK
  obtain ⟨xs, hq, hx⟩ := hg
  obtain ⟨its, rv, p, hz⟩ := I.tuple hq
  obtain ⟨f0, f1, f2, f3, f4, f5⟩ := hf it (by simp)
  have hl := rv.length
  exact wpAny_pyNext_tuple_end (I.ok.hd hc) st (show s.heap.IsTuple a its.toArray from p) (by simp; omega) fun h' eb => ⟨rfl, I.turned (t' := s.toks) (fun b o hb e => eb b o hb e) f0 f1 f3 f4 f5⟩
 self := fun _ _ _ _ _ st h => wpAny_pyIter_tupleiter st h
theorem ZbN {P : Program} {w : World} {K : PySem.W.Frag} {tg : Expr} (it : Addr) (lo : Int) (n : Nat) : Zar P w K tg (Itr lo n) [it] it (fun i h => IsRangeIter h it (lo + (i : Nat) * 1) ((n : Int) - (i : Nat)) 1) where
 mem := by simp
 obj := fun i h st b hb => by
  have e : b = it := by simpa using hb
  subst e
  exact ⟨_, st, fun v z => by
   have z' : Data.fields _ = Data.cell v := z
   cases z'⟩
 keep := fun i h h' st k => k it (by simp) _ st
 item := by
  intro X hP hw hK hc i pins s σ H E I hf st hg
  subst hP hw hK
  obtain ⟨f0, f1, f2, f3, f4, f5⟩ := hf it (by simp)
  have W := Walks.range (prog := X.prog) (w := X.w) (I.ok.hd hc) it lo 1 n
  refine W.item i s _ _ hg st fun v h' tk hv st' kk => ?_
  obtain ⟨t, rfl⟩ := hv
  have I1 : Zv X pins σ H { s with heap := h', toks := tk } := I.turned (fun b o hb e => kk b o (by simpa using hb) e) f0 f1 f3 f4 f5
  refine ⟨_, rfl, Zdf (s := { s with heap := h', toks := tk }) (n := "range_iterator") st' rfl rfl (by decide) ⟨.int (lo + i), H, I1, ⟨t, ?_⟩, ⟨rfl, rfl⟩, st', fun b hb => (hf b hb).1⟩⟩
  rw [Int.mul_one]
 done := by
  intro X hP hw hK hc i pins s σ H E I hf st hg
  subst hP hw hK
  obtain ⟨f0, f1, f2, f3, f4, f5⟩ := hf it (by simp)
  exact wpAny_pyNext_range_end (I.ok.hd hc) st (by have : n ≤ i := hg; omega) fun h' eb => ⟨rfl, I.turned (t' := s.toks) (fun b o hb e => eb b o hb e) f0 f1 f3 f4 f5⟩
 self := fun _ _ _ _ _ st h => wpAny_pyIter_rangeiter st h
section
variable {X : Cx} {tg : Expr}
def ZiL (K : PySem.W.Frag) (tl : TE) : TI := fun σ H R => tl σ H fun x H1 => ∃ a, x = .ref a ∧ (∃ xs, Wp K H1 a xs) ∧ R (Itl K a) H1
def Zlr (K : PySem.W.Frag) (tl : TE) : TI := fun σ H R => tl σ H fun x H1 => ∃ a, x = .ref a ∧ (∃ xs, YW K H1 a xs) ∧ R (Itt K a) H1
theorem Zg5 {l : Expr} {tl : TE} (hl : PE X l tl) : PI X tg l (ZiL X.K tl) := by
 intro pins s σ H R I h
 refine ZT (hl pins s σ H _ I h) fun v s1 ⟨x, H1, I1, r1, q1⟩ => ?_
 obtain ⟨a, e, ⟨xs, hq⟩, q⟩ := q1
 subst e
 cases r1
 obtain ⟨its, rv, p, hz⟩ := I1.list hq
 refine wpAny_pyIter_list p.isList ?_
 refine ⟨s1.heap.objs.size, [s1.heap.objs.size], _, _, H1, rfl, I1.kept (t' := s1.toks) fun b o e => Heap.get?_push_of_some _ e, ZdC a _, ⟨_, Heap.get?_push_size _ rfl, rfl, rfl⟩, fun b hb => ?_, q⟩
 have e : b = s1.heap.objs.size := by simpa using hb
 subst e
 exact I1.fpOk (Nat.le_refl _) (I1.hok.fresh (Nat.le_refl _))
theorem Zji {l : Expr} {tl : TE} (hl : PE X l tl) : PI X tg l (Zlr X.K tl) := by
 intro pins s σ H R I h
 refine ZT (hl pins s σ H _ I h) fun v s1 ⟨x, H1, I1, r1, q1⟩ => ?_
 obtain ⟨a, e, ⟨xs, hq⟩, q⟩ := q1
 subst e
 cases r1
 obtain ⟨its, rv, p, hz⟩ := I1.tuple hq
 refine wpAny_pyIter_tuple (show s1.heap.IsTuple a its.toArray from p) ?_
 refine ⟨s1.heap.objs.size, [s1.heap.objs.size], _, _, H1, rfl, I1.kept (t' := s1.toks) fun b o e => Heap.get?_push_of_some _ e, ZbM a _, ⟨_, Heap.get?_push_size _ rfl, rfl, rfl⟩, fun b hb => ?_, q⟩
 have e : b = s1.heap.objs.size := by simpa using hb
 subst e
 exact I1.fpOk (Nat.le_refl _) (I1.hok.fresh (Nat.le_refl _))
theorem ZaU {pins : List (Addr × Obj)} {σ : St} {H : Hp} {s : Shared} {R : It → Hp → Prop} {E : Value → Shared → Prop} {lo hi : Int} {t u v : Tok} {tk : Nat} (I : Zv X pins σ H s) (h1 : -(2 ^ 62) ≤ lo) (h2 : lo < 2 ^ 62) (h3 : -(2 ^ 62) ≤ hi) (h4 : hi < 2 ^ 62)
  (q : R (Itr lo (hi - lo).toNat) H) : wpAny (model X.prog X.w) X.A (pyIter (.ref s.heap.objs.size)) (PIE X pins σ tg R) E { s with heap := s.heap.push { cls := .type "range", data := .fields #[.int lo t, .int hi u, .int 1 v] }, toks := tk } := by
 refine wpAny_pyIter_range (IsRange.new ..) (small_one h1 h2 h3 h4) ?_
 have I1 : Zv X pins σ H { s with heap := s.heap.push { cls := .type "range", data := .fields #[.int lo t, .int hi u, .int 1 v] }, toks := tk } := I.kept fun b o e => Heap.get?_push_of_some _ e
 refine ⟨(s.heap.push { cls := .type "range", data := .fields #[.int lo t, .int hi u, .int 1 v] }).objs.size, [(s.heap.push { cls := .type "range", data := .fields #[.int lo t, .int hi u, .int 1 v] }).objs.size], _, _, H, rfl,
  I1.kept (t' := tk) fun b o e => Heap.get?_push_of_some _ e, ZbN _ lo (hi - lo).toNat, ?_, fun b hb => ?_, q⟩
 ·have e1 : lo + ((0 : Nat) : Int) * 1 = lo := by simp
  have e2 : (((hi - lo).toNat : Nat) : Int) - ((0 : Nat) : Int) = Builtin.Range.rangeSize lo hi 1 := by rw [rangeSize_one]; split <;> omega
  show IsRangeIter _ _ (lo + ((0 : Nat) : Int) * 1) ((((hi - lo).toNat : Nat) : Int) - ((0 : Nat) : Int)) 1
  rw [e1, e2]
  exact Heap.get?_push_size _ rfl
 ·have e : b = (s.heap.push { cls := .type "range", data := .fields #[.int lo t, .int hi u, .int 1 v] }).objs.size := by simpa using hb
  subst e
  exact I1.fpOk (Nat.le_refl _) (I1.hok.fresh (Nat.le_refl _))
def ZiK (ta : TA) : TI := fun σ H R => ta σ H fun vs H1 => ∃ j : Int, vs = [.int j] ∧ -(2 ^ 62) ≤ j ∧ j < 2 ^ 62 ∧ R (Itr 0 j.toNat) H1
def ZiJ (ta : TA) : TI := fun σ H R => ta σ H fun vs H1 => ∃ i j : Int, vs = [.int i, .int j] ∧ (-(2 ^ 62) ≤ i ∧ i < 2 ^ 62 ∧ -(2 ^ 62) ≤ j ∧ j < 2 ^ 62) ∧ R (Itr i (j - i).toNat) H1
theorem ZdK {a : Expr} {ta : TA} {p pos : Pos} (hg : Gl X "range") (hm : X.mg "range" = none) (ha : PA X [a] ta) (hs : starEach [a] X.env = [(false, eval a X.env)] := by rfl) : PI X tg (.Call (.Name "range" p) [a] [] pos) (ZiK ta) := by
 intro pins s σ H R I h
 refine Call_ (WV I hg hm boot_range (PyProof.Rows.callWith_type1 (ZT (ha pos pins s σ H _ I h) fun us s1 ⟨vs, H1, I1, r1, q1⟩ => ?_) hs rfl))
 obtain ⟨j, e, q1, q2, q⟩ := q1
 subst e
 cases r1 with
 | cons r rr =>
  cases rr
  obtain ⟨t, rfl⟩ := r
  exact call_range_1 (ZaU I1 (by omega) (by omega) q1 q2 (by simpa using q))
theorem ZdJ {a b : Expr} {ta : TA} {p pos : Pos} (hg : Gl X "range") (hm : X.mg "range" = none) (ha : PA X [a, b] ta) (hs : starEach [a, b] X.env = [(false, eval a X.env), (false, eval b X.env)] := by rfl) (hs2 : starEach [b] X.env = [(false, eval b X.env)] := by rfl) :
  PI X tg (.Call (.Name "range" p) [a, b] [] pos) (ZiJ ta) := by
 intro pins s σ H R I h
 refine Call_ (WV I hg hm boot_range (PyProof.Rows.callWith_type1 (ZT (ha pos pins s σ H _ I h) fun us s1 ⟨vs, H1, I1, r1, q1⟩ => ?_) (by rw [hs, hs2]) (by rw [hs2]; rfl)))
 obtain ⟨i, j, e, ⟨q1, q2, q3, q4⟩, q⟩ := q1
 subst e
 cases r1 with
 | cons r rr =>
  cases rr with
  | cons r' rr =>
   cases rr
   obtain ⟨t, rfl⟩ := r
   obtain ⟨t', rfl⟩ := r'
   exact call_range_2 (ZaU I1 q1 q2 q3 q4 q)
def Zmi (wi : TI) (g : TG) (tb : TS) : TS := fun D σ H => wi σ H fun J H1 => ∃ W : Nat → Nat → St → Hp → Prop, (∃ m, W 0 m σ H1) ∧ ∀ i m σ H, W i m σ H →
 (J.stop i H ∧ D.nx σ H) ∨ (J.go i H ∧ ∃ N : St → Hp → Prop, (∀ σ' H', N σ' H' → ∃ m', m' < m ∧ W (i + 1) m' σ' H') ∧ ∀ x H', J.yld i H x H' → g x σ H' fun σ2 H2 => tb { D with nx := N, ct := N, bk := D.nx } σ2 H2)
def Vm (fp : List Addr) (h : Heap) : List (Addr × Obj) := fp.filterMap fun b => (h.get? b).map fun o => (b, o)
theorem WU {fp : List Addr} {h : Heap} {b : Addr} {o : Obj} (hb : b ∈ fp) (e : h.get? b = some o) : (b, o) ∈ Vm fp h := List.mem_filterMap.mpr ⟨b, hb, by rw [e]; rfl⟩
theorem ZdV {fp : List Addr} {h : Heap} {p : Addr × Obj} (hp : p ∈ Vm fp h) : p.1 ∈ fp ∧ h.get? p.1 = some p.2 := by
 obtain ⟨b, hb, e⟩ := List.mem_filterMap.mp hp
 cases q : h.get? b with
 | none => rw [q] at e; cases e
 | some o =>
  rw [q] at e
  have e' : (b, o) = p := Option.some.inj e
  subst e'
  exact ⟨hb, q⟩
theorem Zv.pinned {pins : List (Addr × Obj)} {σ : St} {H : Hp} {s : Shared} {fp : List Addr} (I : Zv X pins σ H s) (hf : ∀ b ∈ fp, V5 X pins H b) (ho : ∀ b ∈ fp, ∃ o, s.heap.get? b = some o ∧ ∀ v, o.data ≠ .cell v) : Zv X (pins ++ Vm fp s.heap) σ H s :=
 I.pins_of fun p hp => (List.mem_append.mp hp).elim (fun z => I.pin p (List.mem_append_right _ z)) fun z => by
  obtain ⟨hb, e⟩ := ZdV z
  obtain ⟨f0, f1, f2, _⟩ := hf p.1 hb
  obtain ⟨o, e', d⟩ := ho p.1 hb
  rw [e] at e'; cases e'
  exact ⟨e, f0, f1, f2, d⟩
theorem Zv.unpinned {pins pl : List (Addr × Obj)} {σ : St} {H : Hp} {s : Shared} (I : Zv X (pins ++ pl) σ H s) : Zv X pins σ H s := I.pins_of fun p hp => I.pin p (List.mem_append_right _ (List.mem_append_left _ hp))
theorem ZI {iter : Expr} {body : List Stmt} {wi : TI} {g : TG} {tb : TS} {pos : Pos} (hp : PassesOwn (model X.prog X.w) X.A X.env X.xe) (hc : X.calm = true) (hi : PI X tg iter wi) (hg : PG X tg g) (hb : PSs X body tb)
  (hs : ∀ x, foldedSetIterable iter X.env x = pure x := by intro _; rfl) : PS X (.For tg iter body [] pos) (Zmi wi g tb) := by
 intro pins s σ H D I h
 refine wpAny_For (ZT (hi pins s σ H _ I h) fun v s1 h1 => ZT h1 fun itv s2 h2 => ?_) hs
 obtain ⟨it, fp, tn, J, H2, e, I2, T, st2, f2, W, ⟨m0, w0⟩, turn⟩ := h2
 subst e
 have stat : ∀ {H' : Hp}, (∀ b ∈ fp, H' b = none) → ∀ b ∈ fp, V5 X pins H' b := fun hn b hb => ⟨hn b hb, (f2 b hb).2⟩
 refine codeAny_forLoop_any (fun n s' => ∃ i σ' H', Zv X pins σ' H' s' ∧ tn i s'.heap ∧ (∀ b ∈ fp, H' b = none) ∧ W i n σ' H') ?_ m0 ⟨0, σ, H2, I2, st2, fun b hb => (f2 b hb).1, w0⟩
 rintro n s3 ⟨i, σ3, H3, I3, st3, fr3, w3⟩
 rcases turn i n σ3 H3 w3 with ⟨stop, qn⟩ | ⟨go, N, hN, step⟩
 ·refine wpAny_passesOwn hp (ZT (T.done X rfl rfl rfl hc i pins s3 σ3 H3 X.xe I3 (stat fr3) st3 stop) fun r s4 ⟨hr, I4⟩ => ?_)
  subst hr
  exact wpAny_execs_nil ⟨σ3, H3, I4, qn⟩
 ·refine wpAny_passesOwn hp (ZT (T.item X rfl rfl rfl hc i pins s3 σ3 H3 X.xe I3 (stat fr3) st3 go) fun r s4 ⟨u, hr, h4⟩ => ?_)
  subst hr
  refine wpAny_passesOwn hp (ZT h4 fun _ s5 ⟨x, H5, I5, r5, y5, st5, fr5⟩ => ?_)
  have I5' := I5.pinned (stat fr5) (T.obj _ _ st5)
  refine wpAny_passesOwn hp (ZT (hg _ s5 σ3 H5 x u _ I5' r5 (step x H5 y5)) fun _ s6 ⟨σ6, H6, I6, q6⟩ => ?_)
  refine wpAny_passesOwn hp (ZT (hb _ s6 σ6 H6 _ I6 q6) fun f s7 q7 => ?_)
  have again : ∀ {σ7 : St} {H7 : Hp}, Zv X (pins ++ Vm fp s5.heap) σ7 H7 s7 → N σ7 H7 → ∃ m, m < n ∧ ∃ i σ' H', Zv X pins σ' H' s7 ∧ tn i s7.heap ∧ (∀ b ∈ fp, H' b = none) ∧ W i m σ' H' := fun {σ7 H7} I7 n7 => by
   obtain ⟨m', hm, w7⟩ := hN σ7 H7 n7
   refine ⟨m', hm, i + 1, σ7, H7, I7.unpinned, T.keep _ _ _ st5 fun b hb o e => (I7.pin (b, o) (List.mem_append_right _ (List.mem_append_right _ (WU hb e)))).1, fun b hb => ?_, w7⟩
   obtain ⟨o, e, d⟩ := T.obj _ _ st5 b hb
   exact (I7.pin (b, o) (List.mem_append_right _ (List.mem_append_right _ (WU hb e)))).2.1
  cases f with
  | next => obtain ⟨σ7, H7, I7, n7⟩ := q7; exact again I7 n7
  | cont => obtain ⟨σ7, H7, I7, n7⟩ := q7; exact again I7 n7
  | brk => obtain ⟨σ7, H7, I7, q7⟩ := q7; exact ⟨σ7, H7, I7.unpinned, q7⟩
  | ret v => obtain ⟨x7, σ7, H7, I7, r7, q7⟩ := q7; exact ⟨x7, σ7, H7, I7.unpinned, r7, q7⟩
end
theorem ZhQ {K : PySem.W.Frag} {a : Addr} {xs : List V} {g : TG} {tb : TS} {D : Xi} {σ : St} {H : Hp} (Pv : Nat → St → Hp → Prop) (h0 : Pv 0 σ H) (hl : ∀ i σ H, i ≤ xs.length → Pv i σ H → YW K H a xs)
  (hs : ∀ i x σ H, xs[i]? = some x → Pv i σ H → g x σ H fun σ2 H2 => tb { D with nx := Pv (i + 1), ct := Pv (i + 1), bk := D.nx } σ2 H2) (hd : ∀ σ H, Pv xs.length σ H → D.nx σ H) :
  ∃ W : Nat → Nat → St → Hp → Prop, (∃ m, W 0 m σ H) ∧ ∀ i m σ H, W i m σ H →
   ((Itt K a).stop i H ∧ D.nx σ H) ∨ ((Itt K a).go i H ∧ ∃ N : St → Hp → Prop, (∀ σ' H', N σ' H' → ∃ m', m' < m ∧ W (i + 1) m' σ' H') ∧ ∀ x H', (Itt K a).yld i H x H' → g x σ H' fun σ2 H2 => tb { D with nx := N, ct := N, bk := D.nx } σ2 H2) := by
 refine ⟨fun i m σ H => m = xs.length - i ∧ i ≤ xs.length ∧ Pv i σ H, ⟨xs.length, by simp, Nat.zero_le _, h0⟩, ?_⟩
 rintro i m σ H ⟨rfl, hi, p⟩
 have q := hl i σ H hi p
 by_cases hlt : i < xs.length
 ·refine .inr ⟨⟨xs, xs[i], q, by simp [hlt]⟩, Pv (i + 1), fun σ' H' p' => ⟨xs.length - (i + 1), by omega, rfl, hlt, p'⟩, fun x H' y => ?_⟩
  obtain ⟨e, y⟩ := y
  subst e
  exact hs i x σ _ (y xs q) p
 ·have e : i = xs.length := by omega
  subst e
  exact .inl ⟨⟨xs, q, Nat.le_refl _⟩, hd σ H p⟩
theorem ZR {lo : Int} {n : Nat} {g : TG} {tb : TS} {D : Xi} {σ : St} {H : Hp} (Pv : Nat → St → Hp → Prop) (h0 : Pv 0 σ H)
  (hs : ∀ i σ H, i < n → Pv i σ H → g (.int (lo + i)) σ H fun σ2 H2 => tb { D with nx := Pv (i + 1), ct := Pv (i + 1), bk := D.nx } σ2 H2) (hd : ∀ σ H, Pv n σ H → D.nx σ H) :
  ∃ W : Nat → Nat → St → Hp → Prop, (∃ m, W 0 m σ H) ∧ ∀ i m σ H, W i m σ H →
   ((Itr lo n).stop i H ∧ D.nx σ H) ∨ ((Itr lo n).go i H ∧ ∃ N : St → Hp → Prop, (∀ σ' H', N σ' H' → ∃ m', m' < m ∧ W (i + 1) m' σ' H') ∧ ∀ x H', (Itr lo n).yld i H x H' → g x σ H' fun σ2 H2 => tb { D with nx := N, ct := N, bk := D.nx } σ2 H2) := by
 refine ⟨fun i m σ H => m = n - i ∧ i ≤ n ∧ Pv i σ H, ⟨n, by simp, Nat.zero_le _, h0⟩, ?_⟩
 rintro i m σ H ⟨rfl, hi, p⟩
 by_cases hlt : i < n
 ·refine .inr ⟨hlt, Pv (i + 1), fun σ' H' p' => ⟨n - (i + 1), by omega, rfl, hlt, p'⟩, fun x H' y => ?_⟩
  obtain ⟨e, y⟩ := y
  subst e y
  exact hs i σ _ hlt p
 ·have e : i = n := by omega
  subst e
  exact .inl ⟨Nat.le_refl _, hd σ H p⟩
abbrev R2 := V → V → Hp → VK → Prop
def JP (X : Cx) (f : Value → Value → Sem Value) (r : R2) : Prop :=
 ∀ (pins : List (Addr × Obj)) (s : Shared) (σ : St) (H : Hp) (x y : V) (v u : Value) (Q : VK), Zv X pins σ H s → ZE x v → ZE y u → r x y H Q →
  wpAny (model X.prog X.w) X.A (f v u) (EP X pins σ Q) X.xe s
def UnR (X : Cx) (f : Value → Sem Value) (r : V → Hp → VK → Prop) : Prop :=
 ∀ (pins : List (Addr × Obj)) (s : Shared) (σ : St) (H : Hp) (x : V) (v : Value) (Q : VK), Zv X pins σ H s → ZE x v → r x H Q →
  wpAny (model X.prog X.w) X.A (f v) (EP X pins σ Q) X.xe s
def Yi (X : Cx) (f : Value) (r : List V → Hp → VK → Prop) : Prop :=
 ∀ (pins : List (Addr × Obj)) (s : Shared) (σ : St) (H : Hp) (xs : List V) (us : List Value) (Q : VK), Zv X pins σ H s → Zz xs us → r xs H Q →
  wpAny (model X.prog X.w) X.A (call f us) (EP X pins σ Q) X.xe s
def tOp (r : R2) (ta tb : TE) : TE := fun σ H Q => ta σ H fun x H1 => tb σ H1 fun y H2 => r x y H2 Q
def tUn (r : V → Hp → VK → Prop) (ta : TE) : TE := fun σ H Q => ta σ H fun x H1 => r x H1 Q
def rI (C : Int → Int → Prop) (g : Int → Int → V) : R2 := fun x y H Q => ∃ i j, x = .int i ∧ y = .int j ∧ C i j ∧ Q (g i j) H
def rI0 (g : Int → Int → V) : R2 := fun x y H Q => ∃ i j, x = .int i ∧ y = .int j ∧ Q (g i j) H
def rU (g : Int → V) : V → Hp → VK → Prop := fun x H Q => ∃ i, x = .int i ∧ Q (g i) H
section
variable {X : Cx} {a b c : Expr} {ta tb tc : TE} {pos : Pos}
theorem Zj7 (ha : PE X a ta) (hb : PE X b tb) {pins : List (Addr × Obj)} {s : Shared} {σ : St} {H : Hp} {R : V → V → Hp → Prop} (I : Zv X pins σ H s)
  (h : ta σ H fun x H1 => tb σ H1 fun y H2 => R x y H2) {Q : Value → Shared → Prop} {f : Value → Value → Sem Value}
  (hf : ∀ v u s2 x y H2, Zv X pins σ H2 s2 → ZE x v → ZE y u → R x y H2 → wpAny (model X.prog X.w) X.A (f v u) Q X.xe s2) :
  wpAny (model X.prog X.w) X.A (eval a X.env) (fun v s₁ => wpAny (model X.prog X.w) X.A (eval b X.env) (fun u s₂ => wpAny (model X.prog X.w) X.A (f v u) Q X.xe s₂) X.xe s₁) X.xe s := by
 refine ZT (ha pins s σ H _ I h) fun v s1 ⟨x, H1, I1, r1, q1⟩ => ?_
 refine ZT (hb pins s1 σ H1 _ I1 q1) fun u s2 ⟨y, H2, I2, r2, q2⟩ => ?_
 exact hf v u s2 x y H2 I2 r1 r2 q2
theorem Zq {op : Operator} {r : R2} (ho : JP X (binaryOp op) r) (ha : PE X a ta) (hb : PE X b tb) : PE X (.BinOp a op b pos) (tOp r ta tb) := by
 intro pins s σ H Q I h
 exact wpAny_BinOp (Zj7 ha hb I h fun v u s2 x y H2 I2 rx ry q => ho pins s2 σ H2 x y v u Q I2 rx ry q)
theorem W9 {op : UnaryOp} {r : V → Hp → VK → Prop} (ho : UnR X (unaryOp op) r) (ha : PE X a ta) : PE X (.UnaryOp op a pos) (tUn r ta) := by
 intro pins s σ H Q I h
 exact UnaryOp_ (ZT (ha pins s σ H _ I h) fun v s1 ⟨x, H1, I1, r1, q1⟩ => ho pins s1 σ H1 x v Q I1 r1 q1)
theorem opI {f : Value → Value → Sem Value} {C : Int → Int → Prop} {g : Int → Int → Int}
  (rule : ∀ (i j : Int) (t u : Tok) (s : Shared) (Q : Value → Shared → Prop) (E : Value → Shared → Prop), C i j → Q (.int (g i j) s.toks) { s with toks := s.toks + 1 } → wpAny (model X.prog X.w) X.A (f (.int i t) (.int j u)) Q E s) :
  JP X f (rI C fun i j => .int (g i j)) := by
 intro pins s σ H x y v u Q I rx ry h
 obtain ⟨i, j, rfl, rfl, hc, q⟩ := h
 obtain ⟨t, rfl⟩ := rx
 obtain ⟨t', rfl⟩ := ry
 exact rule i j t t' s _ _ hc ⟨.int (g i j), H, I.tok _, ⟨_, rfl⟩, q⟩
theorem Zle {f : Value → Value → Sem Value} {g : Int → Int → Int}
  (rule : ∀ (i j : Int) (t u : Tok) (s : Shared) (Q : Value → Shared → Prop) (E : Value → Shared → Prop), Q (.int (g i j) s.toks) { s with toks := s.toks + 1 } → wpAny (model X.prog X.w) X.A (f (.int i t) (.int j u)) Q E s) :
  JP X f (rI0 fun i j => .int (g i j)) := by
 intro pins s σ H x y v u Q I rx ry h
 obtain ⟨i, j, rfl, rfl, q⟩ := h
 obtain ⟨t, rfl⟩ := rx
 obtain ⟨t', rfl⟩ := ry
 exact rule i j t t' s _ _ ⟨.int (g i j), H, I.tok _, ⟨_, rfl⟩, q⟩
theorem Zlg {f : Value → Value → Sem Value} {g : Int → Int → Bool}
  (rule : ∀ (i j : Int) (t u : Tok) (s : Shared) (Q : Value → Shared → Prop) (E : Value → Shared → Prop), Q (.bool (g i j)) s → wpAny (model X.prog X.w) X.A (f (.int i t) (.int j u)) Q E s) :
  JP X f (rI0 fun i j => .bl (g i j)) := by
 intro pins s σ H x y v u Q I rx ry h
 obtain ⟨i, j, rfl, rfl, q⟩ := h
 obtain ⟨t, rfl⟩ := rx
 obtain ⟨t', rfl⟩ := ry
 exact rule i j t t' s _ _ ⟨.bl (g i j), H, I, rfl, q⟩
def ZmQ (i j : Int) : Prop := 0 < j ∧ j < 1073741824
def ZmP (i j : Int) : Prop := 0 ≤ j ∧ j ≤ 1000000 ∧ i.natAbs < 2 ^ 64
def Zia (i j : Int) : Prop := (-(2 ^ 64) < i ∧ i < 2 ^ 64) ∨ (-(2 ^ 64) < j ∧ j < 2 ^ 64)
theorem Zia.ok {i j : Int} (h : Zia i j) : IntMulOk i j := by
 rcases h with ⟨h1, h2⟩ | ⟨h1, h2⟩
 ·exact .of_left (intBits_le_64 h1 h2)
 ·exact .of_right (intBits_le_64 h1 h2)
theorem ZO : JP X (binaryOp .Add) (rI0 fun i j => .int (i + j)) := Zle fun _ _ _ _ _ _ _ q => add_int q
theorem Yl : JP X (binaryOp .Sub) (rI0 fun i j => .int (i - j)) := Zle fun _ _ _ _ _ _ _ q => sub_int q
theorem Z0 : JP X (binaryOp .Mult) (rI Zia fun i j => .int (i * j)) := opI fun _ _ _ _ _ _ _ hc q => mul_int q hc.ok
theorem YD : JP X (binaryOp .FloorDiv) (rI ZmQ fun i j => .int (i / j)) := opI fun i j _ _ _ _ _ hc q => by
 have h1 : (0 : Int) < j := hc.1
 have h2 : j < 1073741824 := hc.2
 exact floordiv_int (by omega) (by rw [Int.fdiv_eq_ediv_of_nonneg i (by omega)]; exact q) (.inl (PyProof.noPylong_small (by omega)))
theorem Z5 : JP X (binaryOp .Mod) (rI (fun _ j => 0 < j) fun i j => .int (i % j)) := opI fun i j _ _ _ _ _ hc q => by
 have h1 : (0 : Int) < j := hc
 exact mod_int' (by omega) (by rw [Int.fmod_eq_emod_of_nonneg i (by omega)]; exact q)
theorem Zfu : JP X (binaryOp .Pow) (rI ZmP fun i j => .int (i ^ j.toNat)) := opI fun _ _ _ _ _ _ _ hc q => pow_int_small hc.1 hc.2.1 hc.2.2 q
theorem unI {f : Value → Sem Value} {g : Int → Int}
  (rule : ∀ (i : Int) (t : Tok) (s : Shared) (Q : Value → Shared → Prop) (E : Value → Shared → Prop), Q (.int (g i) s.toks) { s with toks := s.toks + 1 } → wpAny (model X.prog X.w) X.A (f (.int i t)) Q E s) :
  UnR X f (rU fun i => .int (g i)) := by
 intro pins s σ H x v Q I rx h
 obtain ⟨i, rfl, q⟩ := h
 obtain ⟨t, rfl⟩ := rx
 exact rule i t s _ _ ⟨.int (g i), H, I.tok _, ⟨_, rfl⟩, q⟩
theorem Wq : UnR X (unaryOp .USub) (rU fun i => .int (-i)) := unI fun _ _ _ _ _ q => neg_int q
end
def ZkP : V → V → Bool
 | .non, .non => true | .non, .int _ => true | .int _, .non => true | .non, .bl _ => true | .bl _, .non => true | .non, .str _ => true | .str _, .non => true
 | .int _, .int _ => true | .bl _, .bl _ => true | .str _, .str _ => true | .byt _, .byt _ => true
 | .int _, .str _ => true | .str _, .int _ => true | .bl _, .str _ => true | .str _, .bl _ => true
 | _, _ => false
def rEq : R2 := fun x y H Q => ZkP x y = true ∧ Q (.bl (decide (x = y))) H
def rNe : R2 := fun x y H Q => ZkP x y = true ∧ Q (.bl (!decide (x = y))) H
theorem Yd {i j : Int} : decide (V.int i = V.int j) = (i == j) := by
 rw [Bool.eq_iff_iff]
 simp
theorem Zgs {i j : Bool} : decide (V.bl i = V.bl j) = (i == j) := by
 rw [Bool.eq_iff_iff]
 simp
theorem Zdl {i j : Str} : decide (V.str i = V.str j) = (i == j) := by
 rw [Bool.eq_iff_iff]
 simp
theorem Zdm {i j : Array UInt8} : decide (V.byt i = V.byt j) = (i.toList == j.toList) := by
 rw [Bool.eq_iff_iff]
 cases i
 cases j
 simp
section
variable {X : Cx} {a b c : Expr} {ta tb tc : TE} {pos : Pos}
theorem ZJ {pins : List (Addr × Obj)} {σ : St} {H : Hp} {s : Shared} {Q : VK} {k k' : Bool} (I : Zv X pins σ H s) (q : Q (.bl k) H) (e : k = k') : EP X pins σ Q (.bool k') s := by
 subst e
 exact ⟨.bl k, H, I, rfl, q⟩
theorem XD : JP X (compareOp .Eq) rEq := by
 intro pins s σ H x y v u Q I rx ry h
 obtain ⟨hs, q⟩ := h
 cases x with
 | non =>
  cases rx
  cases y with
  | non => cases ry; exact PySem.EqNone.eq_none_none (ZJ I q (by simp))
  | bl j => cases ry; exact PySem.EqNone.eq_none_bool (ZJ I q (by simp))
  | int j => obtain ⟨t', rfl⟩ := ry; exact PySem.EqNone.eq_none_int (ZJ I q (by simp))
  | str j => obtain ⟨t', rfl⟩ := ry; exact PySem.EqNone.eq_none_str (ZJ I q (by simp))
  | _ => exact absurd (show false = true from hs) Bool.false_ne_true
 | bl i =>
  cases rx
  cases y with
  | non => cases ry; exact PySem.EqNone.eq_bool_none (ZJ I q (by simp))
  | bl j => cases ry; exact eq_bool (ZJ I q Zgs)
  | str j => obtain ⟨t', rfl⟩ := ry; exact PySem.EqMixed.eq_bool_str (ZJ I q (by simp))
  | _ => exact absurd (show false = true from hs) Bool.false_ne_true
 | int i =>
  obtain ⟨t, rfl⟩ := rx
  cases y with
  | non => cases ry; exact PySem.EqNone.eq_int_none (ZJ I q (by simp))
  | int j => obtain ⟨t', rfl⟩ := ry; exact eq_int (ZJ I q Yd)
  | str j => obtain ⟨t', rfl⟩ := ry; exact PySem.EqMixed.eq_int_str (ZJ I q (by simp))
  | _ => exact absurd (show false = true from hs) Bool.false_ne_true
 | str i =>
  obtain ⟨t, rfl⟩ := rx
  cases y with
  | non => cases ry; exact PySem.EqNone.eq_str_none (ZJ I q (by simp))
  | bl j => cases ry; exact PySem.EqMixed.eq_str_bool (ZJ I q (by simp))
  | int j => obtain ⟨t', rfl⟩ := ry; exact PySem.EqMixed.eq_str_int (ZJ I q (by simp))
  | str j => obtain ⟨t', rfl⟩ := ry; exact eq_str (ZJ I q Zdl)
  | _ => exact absurd (show false = true from hs) Bool.false_ne_true
 | byt i =>
  obtain ⟨t, rfl⟩ := rx
  cases y with
  | byt j => obtain ⟨t', rfl⟩ := ry; exact PySem.W.eq_bytes (ZJ I q Zdm)
  | _ => exact absurd (show false = true from hs) Bool.false_ne_true
 | _ => cases y <;> exact absurd (show false = true from hs) Bool.false_ne_true
theorem WJ : JP X (compareOp .NotEq) rNe := by
 intro pins s σ H x y v u Q I rx ry h
 obtain ⟨hs, q⟩ := h
 cases x with
 | non =>
  cases rx
  cases y with
  | non => cases ry; exact PySem.EqNone.ne_none_none (ZJ I q (by simp))
  | bl j => cases ry; exact PySem.EqNone.ne_none_bool (ZJ I q (by simp))
  | int j => obtain ⟨t', rfl⟩ := ry; exact PySem.EqNone.ne_none_int (ZJ I q (by simp))
  | str j => obtain ⟨t', rfl⟩ := ry; exact PySem.EqNone.ne_none_str (ZJ I q (by simp))
  | _ => exact absurd (show false = true from hs) Bool.false_ne_true
 | bl i =>
  cases rx
  cases y with
  | non => cases ry; exact PySem.EqNone.ne_bool_none (ZJ I q (by simp))
  | bl j => cases ry; exact ne_bool (ZJ I q (congrArg not Zgs))
  | str j => obtain ⟨t', rfl⟩ := ry; exact PySem.EqMixed.ne_bool_str (ZJ I q (by simp))
  | _ => exact absurd (show false = true from hs) Bool.false_ne_true
 | int i =>
  obtain ⟨t, rfl⟩ := rx
  cases y with
  | non => cases ry; exact PySem.EqNone.ne_int_none (ZJ I q (by simp))
  | int j => obtain ⟨t', rfl⟩ := ry; exact ne_int (ZJ I q (congrArg not Yd))
  | str j => obtain ⟨t', rfl⟩ := ry; exact PySem.EqMixed.ne_int_str (ZJ I q (by simp))
  | _ => exact absurd (show false = true from hs) Bool.false_ne_true
 | str i =>
  obtain ⟨t, rfl⟩ := rx
  cases y with
  | non => cases ry; exact PySem.EqNone.ne_str_none (ZJ I q (by simp))
  | bl j => cases ry; exact PySem.EqMixed.ne_str_bool (ZJ I q (by simp))
  | int j => obtain ⟨t', rfl⟩ := ry; exact PySem.EqMixed.ne_str_int (ZJ I q (by simp))
  | str j => obtain ⟨t', rfl⟩ := ry; exact ne_str (ZJ I q (congrArg not Zdl))
  | _ => exact absurd (show false = true from hs) Bool.false_ne_true
 | byt i =>
  obtain ⟨t, rfl⟩ := rx
  cases y with
  | byt j => obtain ⟨t', rfl⟩ := ry; exact PySem.W.ne_bytes (ZJ I q (congrArg not Zdm))
  | _ => exact absurd (show false = true from hs) Bool.false_ne_true
 | _ => cases y <;> exact absurd (show false = true from hs) Bool.false_ne_true
theorem Zc2 : JP X (compareOp .Lt) (rI0 fun i j => .bl (decide (i < j))) := Zlg fun _ _ _ _ _ _ _ q => lt_int q
theorem ZaY : JP X (compareOp .Gt) (rI0 fun i j => .bl (decide (j < i))) := Zlg fun _ _ _ _ _ _ _ q => gt_int q
theorem ZB (b : Expr) {op : CmpOp} (h : op ≠ .In := by decide) (h2 : op ≠ .NotIn := by decide) : behindInMarks op b = false := by
 have e1 : (op == CmpOp.In) = false := by cases op <;> first | rfl | exact absurd rfl h
 have e2 : (op == CmpOp.NotIn) = false := by cases op <;> first | rfl | exact absurd rfl h2
 cases b <;> simp [behindInMarks, e1, e2]
theorem J4 {op : CmpOp} {r : R2} (ho : JP X (compareOp op) r) (ha : PE X a ta) (hb : PE X b tb) (hm : behindInMarks op b = false) : PE X (.Compare a [op] [b] pos) (tOp r ta tb) := by
 intro pins s σ H Q I h
 exact wpAny_Compare1 (Zj7 ha hb I h fun v u s2 x y H2 I2 rx ry q => ho pins s2 σ H2 x y v u Q I2 rx ry q) hm
def ZkD (t : TE) : TT := fun σ H Q => t σ H fun x H' => ∃ k, x = .bl k ∧ Q k H'
theorem Zx {op : CmpOp} {r : R2} (ho : JP X (compareOp op) r) (ha : PE X a ta) (hb : PE X b tb) (hm : behindInMarks op b = false) : PT X (.Compare a [op] [b] pos) (ZkD (tOp r ta tb)) := by
 intro pins s σ H Q I h
 refine wpAny_isTrue_Compare1 (ZT (ha pins s σ H _ I h) fun v s1 ⟨x, H1, I1, r1, q1⟩ => ZT (hb pins s1 σ H1 _ I1 q1) fun u s2 ⟨y, H2, I2, r2, q2⟩ =>
  ZT (ho pins s2 σ H2 x y v u _ I2 r1 r2 q2) fun c s3 ⟨z, H3, I3, r3, k, e, q3⟩ => ?_) hm
 subst e
 cases r3
 exact wpAny_truthy_bool ⟨H3, I3, q3⟩
theorem Vu : (sizeLine : Nat) < 2 ^ 63 := by rw [sizeLine_eq]; decide
theorem W4 {x : V} {us : List Value} (r : Zz [x] us) : ∃ u, us = [u] ∧ ZE x u := by
 cases r with
 | cons r1 r2 => cases r2; exact ⟨_, rfl, r1⟩
theorem Zib {x y : V} {us : List Value} (r : Zz [x, y] us) : ∃ u w', us = [u, w'] ∧ ZE x u ∧ ZE y w' := by
 cases r with
 | cons r1 r2 =>
  cases r2 with
  | cons r3 r4 => cases r4; exact ⟨_, _, rfl, r1, r3⟩
theorem Zer (hc : X.calm = true) : Yi X (.builtin "max") (fun xs H Q => ∃ i j, xs = [.int i, .int j] ∧ Q (.int (if j > i then j else i)) H) := by
 intro pins s σ H xs us Q I r h
 obtain ⟨i, j, rfl, q⟩ := h
 obtain ⟨u, w', rfl, ⟨t, rfl⟩, ⟨t', rfl⟩⟩ := Zib r
 refine max_two_ints (I.ok.hd hc) fun h' tk k => ⟨_, H, I.kept k, ?_, q⟩
 by_cases hj : j > i
 ·rw [if_pos hj, if_pos hj]; exact ⟨_, rfl⟩
 ·rw [if_neg hj, if_neg hj]; exact ⟨_, rfl⟩
theorem Zeq (hc : X.calm = true) : Yi X (.builtin "min") (fun xs H Q => ∃ i j, xs = [.int i, .int j] ∧ Q (.int (if j < i then j else i)) H) := by
 intro pins s σ H xs us Q I r h
 obtain ⟨i, j, rfl, q⟩ := h
 obtain ⟨u, w', rfl, ⟨t, rfl⟩, ⟨t', rfl⟩⟩ := Zib r
 refine min_two_ints (I.ok.hd hc) fun h' tk k => ⟨_, H, I.kept k, ?_, q⟩
 by_cases hj : j < i
 ·rw [if_pos hj, if_pos hj]; exact ⟨_, rfl⟩
 ·rw [if_neg hj, if_neg hj]; exact ⟨_, rfl⟩
end
structure Zkg (h : Heap) (x dx C : Addr) (mA : Str → Option Value) : Prop where
 obj : h.get? x = some (PySem.W.instObj C dx)
 ns : h.Ns1 dx mA
 ne : dx ≠ x
theorem ZdZ {h : Heap} {dx : Addr} {mA : Str → Option Value} (n : h.Ns1 dx mA) : ∃ od, h.get? dx = some od ∧ ∀ name, PySem.W.lookIn name od = some (mA name) := by
 obtain ⟨o, es, ep, ho, hd, hk, _, hm⟩ := n
 refine ⟨o, ho, fun name => ?_⟩
 have e := hm name
 unfold nsFind findBy at e
 rw [← Array.find?_toList] at e
 unfold PySem.W.lookIn
 rw [hd]
 dsimp only
 split
 ·rename_i y q
  rw [q] at e
  exact congrArg some e
 ·rename_i q
  rw [q] at e
  have a : es.toList.any (·.refKey) = false := by
   rw [List.any_eq_false]
   intro y hy
   obtain ⟨z, t, hkey⟩ := hk y (Array.mem_toList_iff.mp hy)
   simp [DictEntry.refKey, hkey]
  have a' : ¬ es.toList.any (·.refKey) = true := by rw [a]; exact Bool.false_ne_true
  rw [if_neg a']
  exact congrArg some e
theorem Zkg.look {h : Heap} {x dx C : Addr} {mA : Str → Option Value} (I : Zkg h x dx C mA) : ∃ od, PySem.W.InstAt h x (PySem.W.instObj C dx) C (some od) ∧ ∀ name, PySem.W.lookIn name od = some (mA name) :=
 let ⟨od, ho, hl⟩ := ZdZ I.ns
 ⟨od, ⟨I.obj, rfl, rfl, ho⟩, hl⟩
section
variable {prog : Program} {w : World} {A : Around} {E : Value → Shared → Prop} {s : Shared} {K : PySem.W.Frag} {x dx C f : Addr} {mA : Str → Option Value} {name : Str} {v : Value}
end
theorem VS.some_of {v : V} {o : Option Value} (r : VS (some v) o) : ∃ u, o = some u ∧ ZE v u := by
 cases o with
 | none => exact (show False from r).elim
 | some u => exact ⟨u, rfl, r⟩
section
variable {P : Program} {w : World} {H H' : Hp} {h h' : Heap} {a C dx : Addr} {fs fs' : List (Str × V)}
theorem ZhL (hok : JQ P w H h) (e : H a = some (.ins C dx fs)) : ∃ mA, Zkg h a dx C mA ∧ (∀ f, VS (fs.lookup f) (mA f)) ∧ PySem.Within mA (fs.map (·.1)) ∧ fs.length ≤ 1000 ∧ H dx = some (.own a) := by
 obtain ⟨d, z, ne, ob, mA, n, r, q⟩ := (show ZS P w H h a (.ins C dx fs) from hok a _ e)
 exact ⟨mA, ⟨ob, n, ne⟩, r, q, z, d⟩
end
structure Cls (K : PySem.W.Frag) (C : Addr) : Prop where
 pg : PySem.W.plainGet K C Str.empty = true
 hd : PySem.W.hasDictIn K C = true
 po : PySem.W.plainOver K C = true
 sa : PySem.W.findIn K (.ref C) "__setattr__" = some (some (.builtin "object.__setattr__"))
theorem Cls.get {K : PySem.W.Frag} {C : Addr} (c : Cls K C) (f : Str) : PySem.W.plainGet K C f = true := c.pg
section
variable {X : Cx} {pins : List (Addr × Obj)} {σ : St} {H : Hp} {s : Shared} {a C dx : Addr} {fs : List (Str × V)} {f : Str} {v : V} {A : Around} {E : Value → Shared → Prop}
end
section
variable {X : Cx} {o e value : Expr} {f : Str} {pos pos' tpos : Pos} {ta tv : TE}
end
section
variable {X : Cx} {pins : List (Addr × Obj)} {σ : St} {H : Hp} {s : Shared} {A : Around} {E : Value → Shared → Prop} {Q : Value → Shared → Prop} {c : Value} {b : Bool}
inductive Xg (K : PySem.W.Frag) (H : Hp) : V → Value → Prop where
 | non : Xg K H .non (.type "NoneType")
 | bl (x : Bool) : Xg K H (.bl x) (.type "bool")
 | int (i : Int) : Xg K H (.int i) (.type "int")
 | str (x : Str) : Xg K H (.str x) (.type "str")
 | flt (x : UInt64) : Xg K H (.flt x) (.type "float")
 | lst {a : Addr} {xs : List V} (e : H a = some (.lst xs)) : Xg K H (.ref a) (.type "list")
 | frz {a : Addr} {o : Obj} {xs : List V} (e : H a = some (.frz o (.lst xs))) : Xg K H (.ref a) (.type "list")
 | tup {a : Addr} {xs : List V} (e : H a = some (.tup xs)) : Xg K H (.ref a) (.type "tuple")
 | dK {a : Addr} {kvs : List (Z9 × V)} (e : H a = some (.dK kvs)) : Xg K H (.ref a) (.type "dict")
 | dT {a : Addr} {kvs : List (List Z9 × V)} (e : H a = some (.dT kvs)) : Xg K H (.ref a) (.type "dict")
 | ins {a C dx : Addr} {fs : List (Str × V)} (e : H a = some (.ins C dx fs)) (cl : Cls K C) (ha : PySem.W.findIn K (.ref C) "__class__" = some (some (.builtin "object.__class__")))
   (hn : PySem.W.specialIn K (.builtin "object.__class__") "__get__" = some (some (.builtin "getset_descriptor.__get__"))) (htk : PySem.W.takesIn K (.builtin "object.__class__") = some true)
   (hm : PySem.W.mroIn K C (.type "object") = some true) : Xg K H (.ref a) (.ref C)
theorem Zd4 {x : V} {u t : Value} (I : Zv X pins σ H s) (rx : ZE x u) (ty : Xg X.K H x t) (e : PySem.W.kitOne X.K t c = some b) (h : ∀ tk, Q (.bool b) { s with toks := tk }) :
  wpAny (model X.prog X.w) A (call (.builtin "isinstance") [u, c]) Q E s := by
 cases ty with
 | non => cases (show u = Value.none from rx); exact PySem.W.kia_one PySem.W.kitx_none I.kIn True.intro e (fun z => nomatch z) h
 | bl y => cases (show u = Value.bool y from rx); exact PySem.W.kia_one PySem.W.kitx_bool I.kIn True.intro e (fun z => nomatch z) h
 | int i => obtain ⟨t, q⟩ := (show ∃ t, u = Value.int i t from rx); cases q; exact PySem.W.kia_one PySem.W.kitx_int I.kIn True.intro e (fun z => nomatch z) h
 | str y => obtain ⟨t, q⟩ := (show ∃ t, u = Value.str y t from rx); cases q; exact PySem.W.kia_one PySem.W.kitx_str I.kIn True.intro e (fun z => nomatch z) h
 | flt y => obtain ⟨t, q⟩ := (show ∃ t, u = Value.float y t from rx); cases q; exact PySem.W.kia_one PySem.W.kitx_float I.kIn True.intro e (fun z => nomatch z) h
 | @lst a xs ea =>
  cases (show u = Value.ref a from rx)
  obtain ⟨_, _, n, _, h1⟩ := (show ZS X.prog X.w H s.heap a (.lst xs) from I.hok a _ ea)
  exact PySem.W.kia_one PySem.W.kitx_list I.kIn ⟨_, h1, rfl⟩ e (fun z => nomatch z) h
 | @frz a ob xs ea =>
  cases (show u = Value.ref a from rx)
  obtain ⟨_, _, _, n, _, h1⟩ := (show ZS X.prog X.w H s.heap a (.frz ob (.lst xs)) from I.hok a _ ea)
  exact PySem.W.kia_one PySem.W.kitx_list I.kIn ⟨_, h1, rfl⟩ e (fun z => nomatch z) h
 | @tup a xs ea =>
  cases (show u = Value.ref a from rx)
  obtain ⟨_, _, _, p⟩ := (show ZS X.prog X.w H s.heap a (.tup xs) from I.hok a _ ea)
  obtain ⟨o, h1, h2, _⟩ := p
  exact PySem.W.kia_one PySem.W.kitx_tuple I.kIn ⟨o, h1, h2⟩ e (fun z => nomatch z) h
 | @dK a kvs ea =>
  cases (show u = Value.ref a from rx)
  obtain ⟨_, _, vs, _, p⟩ := (show ZS X.prog X.w H s.heap a (.dK kvs) from I.hok a _ ea)
  obtain ⟨o, es, ep, h1, h2, _⟩ := p
  exact PySem.W.kia_one PySem.W.kitx_dict I.kIn ⟨o, h1, h2.1⟩ e (fun z => nomatch z) h
 | @dT a kvs ea =>
  cases (show u = Value.ref a from rx)
  obtain ⟨_, _, xs, _, o, es, ep, h1, h2, _⟩ := (show ZS X.prog X.w H s.heap a (.dT kvs) from I.hok a _ ea)
  exact PySem.W.kia_one PySem.W.kitx_dict I.kIn ⟨o, h1, h2.1⟩ e (fun z => nomatch z) h
 | @ins a C dx fs ea cl ha hn htk hm =>
  cases (show u = Value.ref a from rx)
  obtain ⟨mA, O, _⟩ := ZhL I.hok ea
  obtain ⟨od, J, _⟩ := O.look
  exact PySem.W.kia_one (PySem.W.kitx_own (cl.get _) cl.hd ha hn htk hm) I.kIn J e (fun z => nomatch z) h
end
structure WO (k : Nat) (A : Around) : Prop where
 hd : A.handled = none
 dp : A.depth + 3 * k + 5 < recursionLimit
 un : A.units + 16 * k + 200 < cLine
 gd : A.guards = some []
theorem WO.mono {j k : Nat} {A : Around} (r : WO k A) (h : j ≤ k) : WO j A := ⟨r.hd, by have := r.dp; omega, by have := r.un; omega, r.gd⟩
theorem WO.deeper {k : Nat} {A : Around} (r : WO (k + 1) A) (env : Env) : WO k (A.deeper env) :=
 ⟨r.hd, by have := r.dp; show A.depth + 1 + 3 * k + 5 < _; omega, by have := r.un; show A.units + 3 + 16 * k + 200 < _; omega, r.gd⟩
theorem WO.depth {k : Nat} {A : Around} (r : WO k A) : A.depth < recursionLimit := by have := r.dp; omega
theorem WO.units {k : Nat} {A : Around} (r : WO k A) : A.units + 64 < cLine := by have := r.un; omega
def ZgM : TA := fun _ H Q => Q [] H
def Zaz (ta : TE) (tr : TA) : TA := fun σ H Q => ta σ H fun x H1 => tr σ H1 fun xs H2 => Q (x :: xs) H2
section
variable {X : Cx} {e : Expr} {es : List Expr} {te : TE} {t : TA} {pos : Pos}
theorem Zl : PA X [] ZgM := fun _ _ _ _ H Q I h => Calls.spliced_nil ⟨[], H, I, .nil, h⟩
theorem Zhi (ha : PE X e te) (hr : PA X es t) (hs : starEach (e :: es) X.env = (false, eval e X.env) :: starEach es X.env := by rfl) : PA X (e :: es) (Zaz te t) := by
 intro pos pins s σ H Q I h
 rw [hs]
 show wpAny _ _ (spliced ((false, eval e X.env) :: backTo pos (starEach es X.env))) _ _ s
 refine Calls.spliced_cons (ZT (ha pins s σ H _ I h) fun u s1 ⟨x, H1, I1, r1, q1⟩ => ?_)
 exact ZT (hr pos pins s1 σ H1 _ I1 q1) fun us s2 ⟨xs, H2, I2, r2, q2⟩ => ⟨x :: xs, H2, I2, .cons r1 r2, q2⟩
def Zme (t : TA) : TE := fun σ H Q => t σ H fun xs H1 => xs.length ≤ sizeLine ∧ ∀ p, H1 p = none → Q (.ref p) (upd H1 p (.tup xs))
def Zi0 (t : TA) : TE := fun σ H Q => t σ H fun xs H1 => xs.length ≤ sizeLine ∧ ∀ p, H1 p = none → Q (.ref p) (upd H1 p (.lst xs))
theorem Ja {x1} (h : PA X es t) : PE X (.Tuple es x1 pos) (Zme t) := by
 intro pins s σ H Q I hq
 refine wpAny_Tuple_spliced (ZT (h pos pins s σ H _ I hq) fun us s1 ⟨xs, H1, I1, r, z, q⟩ => ⟨by rw [← r.length]; exact z, ?_⟩)
 have hf : H1 s1.heap.objs.size = none := I1.hok.fresh (Nat.le_refl _)
 refine ⟨.ref s1.heap.objs.size, upd H1 s1.heap.objs.size (.tup xs), I1.laid (t' := s1.toks) (fun b u e => Heap.get?_push_of_some _ e) (Nat.le_refl _) ?_, rfl, q _ hf⟩
 exact ⟨z, us, r, ⟨_, Heap.get?_push_size _ rfl, rfl, _, rfl⟩⟩
theorem ZD (h : PA X es t) : PE X (.List es pos) (Zi0 t) := by
 intro pins s σ H Q I hq
 refine wpAny_List_spliced (ZT (h pos pins s σ H _ I hq) fun us s1 ⟨xs, H1, I1, r, z, q⟩ => ⟨by rw [← r.length]; exact z, ?_⟩)
 have hf : H1 s1.heap.objs.size = none := I1.hok.fresh (Nat.le_refl _)
 refine ⟨.ref s1.heap.objs.size, upd H1 s1.heap.objs.size (.lst xs), I1.laid (t' := s1.toks) (fun b u e => Heap.get?_push_of_some _ e) (Nat.le_refl _) ?_, rfl, q _ hf⟩
 exact ⟨z, us, 0, r, Heap.get?_push_size _ rfl⟩
end
abbrev Sp := List V → Hp → VK → XK → Prop
abbrev CXT := List Env → Hp → Shared → XK → Value → Shared → Prop
structure Zh8 (P : Program) (w : World) (K : PySem.W.Frag) (mg : Str → Option Value) (base : Heap) (A : Around) (outer : List Env) (s : Shared) (H : Hp) : Prop where
 frames : A.frames = some outer
 mod : Mod K mg base
 bs : ∀ b o, base.get? b = some o → s.heap.get? b = some o ∧ H b = none
 bsz : base.objs.size ≤ s.heap.objs.size
 funs : s.heap.FunFrames base outer
 frf : ∀ b ∈ frs outer, H b = none
 hok : JQ P w H s.heap
 bare : AllBare s.gens
def CE (outer : List Env) (P : Program) (w : World) (H : Hp) (s : Shared) (Q : VK) (u : Value) (s' : Shared) : Prop :=
 ∃ v H', s'.os = s.os ∧ AllBare s'.gens ∧ Un (frs outer) [] H H' s.heap s'.heap ∧ JQ P w H' s'.heap ∧ ZE v u ∧ Q v H'
def CR (CX : CXT) (outer : List Env) (P : Program) (w : World) (H : Hp) (s : Shared) (Q : VK) (E : XK) (r : Result) (s' : Shared) : Prop :=
 match r with
 | .ok (.ret u) => CE outer P w H s Q u s'
 | .ok _ => False
 | .error e => CX outer H s E e s'
structure ZH (P : Program) (w : World) (K : PySem.W.Frag) (mg : Str → Option Value) (base : Heap) (CX : CXT) (k : Nat) (f : Addr) (fd : FuncData) (ps : List Str) (sp : Sp) : Prop where
 len : ∀ vs H Q E, sp vs H Q E → vs.length = ps.length
 run : ∀ (A : Around) (outer : List Env) (s : Shared) (H : Hp) (args : Args) (us : List Value) (vs : List V) (Q : VK) (E : XK), WO k A → Zh8 P w K mg base A outer s H → BindsTo s fd args (ps.zip us) → Zz vs us → sp vs H Q E →
  codeAny (model P w) A (.call (.ref f) args) (CR CX outer P w H s Q E) s
section
variable {X : Cx} {pins : List (Addr × Obj)} {σ : St} {H : Hp} {s s' : Shared}
theorem Zv.env0 (I : Zv X pins σ H s) : Zh8 X.prog X.w X.K X.mg X.base X.A X.stack s H :=
 ⟨I.ok.frames, I.ok.mod, I.bs, Nat.le_trans I.ok.bsz I.sz, I.stack, I.stkFree, I.hok, I.bare⟩
theorem Zv.after {Q : VK} {u : Value} (I : Zv X pins σ H s) (h : CE X.stack X.prog X.w H s Q u s') : EP X pins σ Q u s' := by
 obtain ⟨v, H', os, bare, un, hok, r, q⟩ := h
 obtain ⟨hh, g, d, t, os'⟩ := s'
 obtain rfl : os' = s.os := os
 exact ⟨v, H', I.call (h' := hh) (g' := g) (d' := d) (t' := t) (ch := []) un hok bare (fun b z => absurd z (by simp)), r, q⟩
end
def Zid (sp : Sp) (dvs : List V) (E : XK) (t : TA) : TE := fun σ H Q => t σ H fun vs H1 => sp (vs ++ dvs) H1 Q E
def UI (K : PySem.W.Frag) (fd : FuncData) (ps : List Str) (ds : List Value) : Prop :=
 ∀ (s : Shared) (us : List Value), K.In s.heap → (us ++ ds).length = ps.length → BindsTo s fd ⟨us, []⟩ (ps.zip (us ++ ds))
theorem UI.all {K : PySem.W.Frag} {fd : FuncData} {ps : List Str} (h : ∀ us : List Value, us.length = ps.length → bindArgs fd ⟨us, []⟩ = pure (ps.zip us)) : UI K fd ps [] := fun s us _ hl => by
 rw [List.append_nil] at hl ⊢
 exact .of_eq (h us hl)
def Zas (CX : CXT) (X : Cx) (E : XK) : Prop := ∀ (pins : List (Addr × Obj)) (σ : St) (H : Hp) (s : Shared) (e : Value) (s' : Shared), Zv X pins σ H s → CX X.stack H s E e s' → X.xe e s'
section
variable {X : Cx} {CX : CXT} {k : Nat} {f C : Addr} {fd : FuncData} {ps : List Str} {sp : Sp} {dvs : List V} {ds : List Value} {E : XK} {x m : Str} {p pos apos : Pos} {e o : Expr} {es : List Expr} {ta : TE} {t : TA}
theorem Zi9 {pins : List (Addr × Obj)} {σ : St} {H : Hp} {s : Shared} {Q : VK} {us : List Value} {vs : List V} (F : ZH X.prog X.w X.K X.mg X.base CX k f fd ps sp) (hr : WO k X.A) (hb : UI X.K fd ps ds) (hd : Zz dvs ds) (hx : Zas CX X E)
  (I : Zv X pins σ H s) (r : Zz vs us) (h : sp (vs ++ dvs) H Q E) : wpAny (model X.prog X.w) X.A (call (.ref f) us) (EP X pins σ Q) X.xe s := by
 have r2 : Zz (vs ++ dvs) (us ++ ds) := r.append hd
 have hl : (us ++ ds).length = ps.length := by rw [← r2.length]; exact F.len _ _ _ _ h
 refine wpAny_call (codeAny_mono (F.run X.A X.stack s H ⟨us, []⟩ (us ++ ds) (vs ++ dvs) Q E hr I.env0 (hb s us I.kIn hl) r2 h) fun r s' hq => ?_)
 cases r with
 | error e => exact hx pins σ H s e s' I hq
 | ok fl =>
  cases fl with
  | ret u => exact I.after hq
  | next => exact False.elim hq
  | brk => exact False.elim hq
  | cont => exact False.elim hq
theorem Zhd (F : ZH X.prog X.w X.K X.mg X.base CX k f fd ps sp) (hr : WO k X.A) (hg : Gl X x) (hm : X.mg x = some (.ref f)) (hk : PySem.W.keepIn X.K (.ref f) = true) (hb : UI X.K fd ps ds) (hd : Zz dvs ds) (hx : Zas CX X E)
  (ha : PA X (e :: es) t) (hdb : (x == ("__debug__" : Str)) = false := by decide) (he : starEach (e :: es) X.env = (false, eval e X.env) :: starEach es X.env := by rfl) (hpl : (backTo pos (starEach es X.env)).any (·.1) = false := by rfl) :
  PE X (.Call (.Name x p) (e :: es) [] pos) (Zid sp dvs E t) := by
 intro pins s σ H Q I h
 refine wpAny_Call_Name_kw (Zdb I hg hm ?_ hdb)
 refine PySem.W.callWith_K (h₀ := X.base) I.ok.mod.kin hk (ZT (ha pos pins s σ H _ I h) fun us s1 ⟨vs, H1, I1, r, q⟩ => ⟨I1.kIn, ?_⟩) he hpl
 exact Zi9 F hr hb hd hx I1 r q
end
section
variable {X : Cx} {CX : CXT} {k : Nat} {f C : Addr} {fd : FuncData} {ps ks : List Str} {sp : Sp} {E : XK} {x m : Str} {p pos apos kpos : Pos} {e o : Expr} {es : List Expr} {kws : List Keyword} {te ta : TE} {t tk : TA} {nm : Option Str}
variable {g : List Value → List Value → List Value} {gV : List V → List V → List V}
end
structure XY (N P : List Str) (sc : Scope) : Prop where
 kind : sc.kind = .function
 co : sc.isCoroutine = false
 gen : sc.isGenerator = false
 nd : N.Nodup
 pre : N.take P.length = P
 par : ∀ x ∈ P, sc.names.lookup x = some .local ∨ sc.names.lookup x = some .cell
 nofree : ∀ y ∈ sc.names, y.2 ≠ .free
theorem FS {N P : List Str} {sc : Scope} (a : sc.kind = .function := by rfl) (b : sc.isCoroutine = false := by rfl) (c : sc.isGenerator = false := by rfl) (d : N.Nodup := by decide +kernel) (e : N.take P.length = P := by rfl) (f : ∀ x ∈ P, sc.names.lookup x = some .local ∨ sc.names.lookup x = some .cell := by decide +kernel) (g : ∀ y ∈ sc.names, y.2 ≠ .free := by decide +kernel) : XY N P sc := ⟨a, b, c, d, e, f, g⟩
theorem bd1 {α : Type} {f g : List Value → α} (h : ∀ a, f [a] = g [a]) (us : List Value) (l : us.length = 1) : f us = g us := by
  cases us with
  | nil => cases l
  | cons a r => cases r with
    | nil => exact h a
    | cons b r => simp at l
theorem XQ {α : Type} {f g : List Value → α} (h : ∀ a b, f [a, b] = g [a, b]) (us : List Value) (l : us.length = 2) : f us = g us := by
  cases us with
  | nil => cases l
  | cons a r => exact bd1 (f := fun r => f (a :: r)) (g := fun r => g (a :: r)) (h a) r (Nat.succ.inj l)
theorem bd3 {α : Type} {f g : List Value → α} (h : ∀ a b c, f [a, b, c] = g [a, b, c]) (us : List Value) (l : us.length = 3) : f us = g us := by
  cases us with
  | nil => cases l
  | cons a r => exact XQ (f := fun r => f (a :: r)) (g := fun r => g (a :: r)) (h a) r (Nat.succ.inj l)
theorem bd4 {α : Type} {f g : List Value → α} (h : ∀ a b c d, f [a, b, c, d] = g [a, b, c, d]) (us : List Value) (l : us.length = 4) : f us = g us := by
  cases us with
  | nil => cases l
  | cons a r => exact bd3 (f := fun r => f (a :: r)) (g := fun r => g (a :: r)) (h a) r (Nat.succ.inj l)
theorem UC {kindOf : Str → Option NameKind} {x : Str} : ∀ {binds : List (Str × Value)} {m : Str → Option Value}, (∀ v, (x, v) ∉ binds) → bindL kindOf binds m x = m x
 | [], _, _ => rfl
 | (n, v) :: r, m, h => by
  unfold bindL
  rw [UC fun w hw => h w (List.mem_cons_of_mem _ hw)]
  split
  ·have : x ≠ n := by rintro rfl; exact h v List.mem_cons_self
   simp [this]
  ·rfl
theorem UE {kindOf : Str → Option NameKind} {x : Str} : ∀ {binds : List (Str × Value)} {m : Str → Option Value}, (∀ v, (x, v) ∉ binds) → bindC kindOf binds m x = m x
 | [], _, _ => rfl
 | (n, v) :: r, m, h => by
  unfold bindC
  rw [UE fun w hw => h w (List.mem_cons_of_mem _ hw)]
  split
  ·rfl
  ·have : x ≠ n := by rintro rfl; exact h v List.mem_cons_self
   simp [this]
theorem UD {kindOf : Str → Option NameKind} {x : Str} {v : Value} : ∀ {P : List Str} {vs : List Value} {i : Nat} {m : Str → Option Value}, P.Nodup → P[i]? = some x → vs[i]? = some v → kindOf x = some .local →
  bindL kindOf (P.zip vs) m x = some v
 | [], _, _, _, _, h, _, _ => by simp at h
 | _ :: _, [], _, _, _, _, h, _ => by simp at h
 | p :: P, w :: vs, 0, m, nd, h1, h2, hk => by
  simp at h1 h2; subst h1; subst h2
  show bindL kindOf ((p, w) :: P.zip vs) m p = _
  unfold bindL
  rw [UC fun v hv => (List.nodup_cons.mp nd).1 (List.of_mem_zip hv).1, if_pos hk]
  simp
 | p :: P, w :: vs, i + 1, m, nd, h1, h2, hk => by
  show bindL kindOf ((p, w) :: P.zip vs) m x = _
  unfold bindL
  exact UD (i := i) (List.nodup_cons.mp nd).2 (by simpa using h1) (by simpa using h2) hk
theorem UF {kindOf : Str → Option NameKind} {x : Str} {v : Value} : ∀ {P : List Str} {vs : List Value} {i : Nat} {m : Str → Option Value}, P.Nodup → P[i]? = some x → vs[i]? = some v → kindOf x ≠ some .local →
  bindC kindOf (P.zip vs) m x = some v
 | [], _, _, _, _, h, _, _ => by simp at h
 | _ :: _, [], _, _, _, _, h, _ => by simp at h
 | p :: P, w :: vs, 0, m, nd, h1, h2, hk => by
  simp at h1 h2; subst h1; subst h2
  show bindC kindOf ((p, w) :: P.zip vs) m p = _
  unfold bindC
  rw [UE fun v hv => (List.nodup_cons.mp nd).1 (List.of_mem_zip hv).1, if_neg hk]
  simp
 | p :: P, w :: vs, i + 1, m, nd, h1, h2, hk => by
  show bindC kindOf ((p, w) :: P.zip vs) m x = _
  unfold bindC
  exact UF (i := i) (List.nodup_cons.mp nd).2 (by simpa using h1) (by simpa using h2) hk
def start (N : List Str) (vs : List V) : St := vs.map some ++ List.replicate (N.length - vs.length) none
def Zej (CX : CXT) (P : Program) (w : World) (K : PySem.W.Frag) (mg : Str → Option Value) (base : Heap) (N : List Str) (qual : Str) (scope : Scope) (f : Addr) (cd : Value) (A : Around) (outer : List Env) (s : Shared) (H : Hp) (E : XK) : Cx where
 prog := P
 w := w
 K := K
 mg := mg
 base := base
 A := A.deeper (envOfC qual scope s.heap.objs.size f cd)
 N := N
 s₀ := s
 H₀ := H
 env := envOfC qual scope s.heap.objs.size f cd
 outer := outer
 stack := envOfC qual scope s.heap.objs.size f cd :: outer
 ex := []
 calm := true
 fn := fun _ => true
 pn := []
 xe := fun e s' => wpAny (model P w) (A.deeper (envOfC qual scope s.heap.objs.size f cd)) (leaving (envOfC qual scope s.heap.objs.size f cd) e) (fun _ s'' => CX outer H s E e s'') (fun e' s'' => CX outer H s E e' s'') s'
theorem ZbA {sc : Scope} {n : Nat} {x : Str} (h : sc.names.lookup x = some .cell) : ∃ c, (cellsFrom n sc.names []).lookup x = some c := by
 have q := PySem.W.cellsFrom_some sc.names n [] (.inl h)
 exact Option.isSome_iff_exists.mp q
theorem Zd6 {CX : CXT} {P : Program} {w : World} {K : PySem.W.Frag} {mg : Str → Option Value} {base : Heap} {N ps : List Str} {qual : Str} {scope : Scope} {f : Addr} {cd : Value} {A : Around} {outer : List Env} {s s1 : Shared} {H : Hp} {E : XK} {us : List Value} {vs : List V}
  (S : XY N ps scope) (hd : A.handled = none) (e0 : Zh8 P w K mg base A outer s H) (hl : vs.length = ps.length) (r : Zz vs us)
  (x : InCallC s s.heap.objs.size (bindL (envOfC qual scope s.heap.objs.size f cd).kindOf (ps.zip us) fun _ => none) (cellsFrom (s.heap.objs.size + 1) scope.names []) (bindC (envOfC qual scope s.heap.objs.size f cd).kindOf (ps.zip us) fun _ => none) s1) :
  Zv (Zej CX P w K mg base N qual scope f cd A outer s H E) [] (start N vs) H s1 := by
 have hpl : ps.length ≤ N.length := by have := congrArg List.length S.pre; rw [List.length_take] at this; omega
 obtain ⟨h1, tk, rfl, hk⟩ := x.done
 have noA : ∀ b : Addr, b ∉ (Zej CX P w K mg base N qual scope f cd A outer s H E).ex := fun b z => absurd (show b ∈ ([] : List Addr) from z) (by simp)
 refine ⟨⟨e0.mod, S.kind, rfl, rfl, Nat.le_refl _, fun y z c h1 h2 => ?_, fun y hy => ?_, fun y c _ h => ?_, fun _ => hd, Around.frames_deeper e0.frames, .inr ⟨rfl, rfl⟩, fun b z => absurd z (noA b), e0.bs, e0.bsz, fun b _ _ => noA b, fun b z => absurd z (noA b), e0.funs, e0.frf⟩,
  rfl, e0.bare, Un.kept hk, ⟨_, x.toInCall.ns, fun i y v h1 h2 h3 => ?_⟩, fun y c h => ⟨_, x.cell y c h⟩, e0.hok.fresh (Nat.le_refl _), fun y c h => ?_, fun p hp => absurd (show p ∈ ([] : List (Addr × Obj)) from hp) (by simp), e0.hok.kept hk, ?_⟩
 ·exact name_of_addr x.apart (PySem.mem_of_lookup h1) (PySem.mem_of_lookup h2)
 ·have hy : scope.names.lookup y = some .cell ∨ scope.names.lookup y = some .free := hy
  rcases hy with hy | hy
  ·exact ZbA hy
  ·exact absurd rfl (S.nofree _ (PySem.mem_of_lookup hy))
 ·exact Nat.le_of_lt (x.above y c (PySem.mem_of_lookup h))
 ·have hi : i < vs.length := by
   unfold start at h2
   by_cases hi : i < vs.length
   ·exact hi
   ·rw [List.getElem?_append_right (by simpa using hi)] at h2
    rw [List.getElem?_replicate] at h2
    split at h2 <;> cases h2
  have ha : vs[i]? = some v := by
   unfold start at h2
   rw [List.getElem?_append_left (by simpa using hi), Zc] at h2
   cases e : vs[i]? with
   | none => rw [e] at h2; cases h2
   | some a => rw [e] at h2; cases h2; rfl
  obtain ⟨u, hu, rv⟩ := r.get ha
  have hp : ps[i]? = some y := by
   rw [← S.pre, List.getElem?_take_of_lt (by omega)]; exact h1
  have ndP : ps.Nodup := by rw [← S.pre]; exact S.nd.sublist (List.take_sublist _ _)
  refine ⟨u, rv, ?_⟩
  rcases S.par y (List.mem_of_getElem? hp) with k | k
  ·exact .inl ⟨k, UD ndP hp hu k⟩
  ·obtain ⟨c, e⟩ := ZbA (n := s.heap.objs.size + 1) k
   refine .inr ⟨.inl k, c, e, ?_⟩
   have q := x.cell y c e
   rw [UF ndP hp hu (by show scope.names.lookup y ≠ _; rw [k]; decide)] at q
   exact q
 ·exact e0.hok.fresh (Nat.le_of_lt (x.above y c (PySem.mem_of_lookup h)))
 ·unfold start
  show _ = N.length
  rw [Zd, Za, Ze]
  omega
theorem Zlt {CX : CXT} {P : Program} {w : World} {K : PySem.W.Frag} {mg : Str → Option Value} {base : Heap} {k : Nat} {f : Addr} {name qual : Str} {params : Arguments} {body : List Stmt} {scope : Scope} {dV kV doc pm cdv ct oc : Value} {an od : Option Addr}
  {osl : Array (Option Value)} {N ps : List Str} {sp : Sp} (lk : K.lookup f = some ⟨oc, od, .func (PySem.W.fnOf name qual params body scope dV kV doc pm an cdv ct), osl⟩) (hcd : PySem.W.codeIn K cdv qual = true) (S : XY N ps scope)
  (len : ∀ vs H Q E, sp vs H Q E → vs.length = ps.length)
  (hbody : ∀ (A : Around) (outer : List Env) (s : Shared) (H : Hp) (vs : List V) (Q : VK) (E : XK), WO k (A.deeper (envOfC qual scope s.heap.objs.size f cdv)) → sp vs H Q E →
   ∃ t, PSs (Zej CX P w K mg base N qual scope f cdv A outer s H E) body t ∧ t { nx := fun _ H' => Q .non H', rt := Q } (start N vs) H) :
  ZH P w K mg base CX (k + 1) f (PySem.W.fnOf name qual params body scope dV kV doc pm an cdv ct) ps sp := by
 refine ⟨len, fun A outer s H args us vs Q E hr e0 hb r hsp => ?_⟩
 have hl := len _ _ _ _ hsp
 have KX : K.In s.heap := e0.mod.kin.keeps fun b o e => (e0.bs b o e).1
 have lim : s.heap.NoLimit := e0.mod.nolimit.keeps fun b o e => (e0.bs b o e).1
 have hkind : ∀ y ∈ ps.zip us, scope.names.lookup y.1 = some .local ∨ (scope.names.lookup y.1 = some .cell ∧ ((cellsFrom (s.heap.objs.size + 1) scope.names []).lookup y.1).isSome = true) := fun ⟨n, v⟩ hy => by
  rcases S.par n (List.of_mem_zip hy).1 with q | q
  ·exact .inl q
  ·exact .inr ⟨q, PySem.W.cellsFrom_some _ _ _ (.inl q)⟩
 refine codeAny_call_function hr.depth (KX _ _ lk) rfl S.co S.gen rfl (PySem.W.codeRec_of KX hcd) (hb _ _ _ _ ?_)
 refine wpAny_newFunctionEnv_cells S.kind hkind fun env he s1 x => ?_
 subst he
 refine ⟨lim.keeps x.toInCall.keep, codeAny_func ?_⟩
 obtain ⟨t, ht, hq⟩ := hbody A outer s H vs Q E (hr.deeper _) hsp
 have I : Zv (Zej CX P w K mg base N qual scope f cdv A outer s H E) [] (start N vs) H s1 := Zd6 S hr.hd e0 hl r x
 refine wpAny_mono (ht [] s1 (start N vs) H _ I hq) (fun fl s' hs => ?_) fun e s' hs => hs
 have fin : ∀ {σ' : St} {H' : Hp} {v : V} {u : Value}, Zv (Zej CX P w K mg base N qual scope f cdv A outer s H E) [] σ' H' s' → ZE v u → Q v H' → CE outer P w H s Q u s' :=
  fun {σ' H' v u} J rv q => ⟨v, H', J.os, J.bare, J.base, J.hok, rv, q⟩
 cases fl with
 | ret u =>
  obtain ⟨v, σ', H', J, rv, q⟩ := hs
  exact fin J rv q
 | next =>
  obtain ⟨σ', H', J, q⟩ := hs
  exact fin (v := V.non) (u := Value.none) J rfl q
 | brk =>
  obtain ⟨_, _, _, q⟩ := hs
  exact False.elim q
 | cont =>
  obtain ⟨_, _, _, q⟩ := hs
  exact False.elim q
section
variable {X : Cx} {x : Str} {p pos : Pos} {e : Expr} {es : List Expr} {t : TA} {id T : String} {r : List V → Hp → VK → Prop}
def tCB (r : List V → Hp → VK → Prop) (t : TA) : TE := fun σ H Q => t σ H fun vs H1 => r vs H1 Q
theorem Zfs (hc : Yi X (.builtin id) r) (hg : Gl X x) (hm : X.mg x = none) (hv : bootBuiltins x = some (.builtin id)) (ha : PA X (e :: es) t) (hn : x ≠ "__name__" := by decide) (hdb : (x == ("__debug__" : Str)) = false := by decide)
  (he : starEach (e :: es) X.env = (false, eval e X.env) :: starEach es X.env := by rfl) (hpl : (backTo pos (starEach es X.env)).any (·.1) = false := by rfl) : PE X (.Call (.Name x p) (e :: es) [] pos) (tCB r t) := by
 intro pins s σ H Q I h
 refine wpAny_Call_Name_kw (WV I hg hm hv ?_ hn hdb)
 exact PyProof.Rows.callWith_builtin1 (ZT (ha pos pins s σ H _ I h) fun us s1 ⟨vs, H1, I1, r1, q1⟩ => hc pins s1 σ H1 vs us Q I1 r1 q1) he hpl
theorem ZdL (hc : Yi X (.type T) r) (hg : Gl X x) (hm : X.mg x = none) (hv : bootBuiltins x = some (.type T)) (ha : PA X (e :: es) t) (hn : x ≠ "__name__" := by decide) (hdb : (x == ("__debug__" : Str)) = false := by decide)
  (he : starEach (e :: es) X.env = (false, eval e X.env) :: starEach es X.env := by rfl) (hpl : (backTo pos (starEach es X.env)).any (·.1) = false := by rfl) : PE X (.Call (.Name x p) (e :: es) [] pos) (tCB r t) := by
 intro pins s σ H Q I h
 refine wpAny_Call_Name_kw (WV I hg hm hv ?_ hn hdb)
 exact PyProof.Rows.callWith_type1 (ZT (ha pos pins s σ H _ I h) fun us s1 ⟨vs, H1, I1, r1, q1⟩ => hc pins s1 σ H1 vs us Q I1 r1 q1) he hpl
end
end L2
namespace HT
open PySem PyProof.Rows
section
open PySem.SeqAt
open PySem.AutoSeq1 (wpAny_loadPart')
open PySem.MeetsSeq PySem.MeetsSeq2 PySem.MeetsSeq3
end
section
variable {prog : Program} {w : World} {A : Around} {E : Value → Shared → Prop} {s : Shared}
theorem Zh1 {t b : Addr} {vs ws : List Value} {Q : Value → Shared → Prop} (ht : IsTup s.heap t vs.toArray) (hb : IsTup s.heap b ws.toArray) (hv : vs ≠ [])
  (h1 : ws = [] → Q (.ref t) s) (h2 : ws ≠ [] → Q (.ref s.heap.objs.size) { s with heap := s.heap.push { cls := .type "tuple", data := .seq (vs ++ ws).toArray } })
  (hsz : vs.length + ws.length ≤ sizeLine) : wpAny (model prog w) A (binaryOp .Add (.ref t) (.ref b)) Q E s := by
 obtain ⟨⟨cls, dd, data, sl⟩, ho, hc, n, hd⟩ := id ht
 obtain ⟨⟨cls2, dd2, data2, sl2⟩, ho2, hc2, n2, hd2⟩ := id hb
 simp only at hc hd hc2 hd2
 subst hc hd hc2 hd2
 have e : vs.toArray ++ ws.toArray = (vs ++ ws).toArray := by simp
 by_cases hw : ws = []
 ·exact concat_meets ⟨_, ho, rfl⟩ ⟨_, ho2, rfl⟩ noFill_tuple_add seq_tuple_add PySem.F.slot_tuple_add PySem.F.entry_tuple_add (PySem.F.args_tuple_add_2 _ _)
   (tuple_addW1 t b vs.toArray ws.toArray n n2 dd dd2 sl sl2 (by simpa using hv) (by simp [hw])) ⟨ho, ho2, h1 hw⟩
 ·refine concat_meets ⟨_, ho, rfl⟩ ⟨_, ho2, rfl⟩ noFill_tuple_add seq_tuple_add PySem.F.slot_tuple_add PySem.F.entry_tuple_add (PySem.F.args_tuple_add_2 _ _)
   (tuple_addW2 t b vs.toArray ws.toArray n n2 dd dd2 sl sl2 (by simpa using hv) (by simpa using hw) (by rw [Zh, Zh]; exact hsz)) ⟨ho, ho2, ?_⟩
  rw [e]
  exact h2 hw
def Yv (n d : Nat) : Option Int → Nat
 | none => d
 | some v => if v < 0 then (v + (n : Int)).toNat else min v.toNat n
theorem ZaM (n d : Nat) : Yv n d none = d := rfl
theorem UV (n d k : Nat) : Yv n d (some (k : Int)) = min k n := by
 show (if (k : Int) < 0 then ((k : Int) + (n : Int)).toNat else min (k : Int).toNat n) = min k n
 rw [if_neg (by omega), Zj]
theorem Zi8 (n d : Nat) (hd : d ≤ n) (o : Option Int) : Yv n d o ≤ n := by
 cases o with
 | none => exact hd
 | some v =>
  show (if v < 0 then (v + (n : Int)).toNat else min v.toNat n) ≤ n
  by_cases hv : v < 0
  ·rw [if_pos hv]; omega
  ·rw [if_neg hv]; exact Nat.min_le_right _ _
theorem Zdq (v : Int) (n d : Nat) : (if v < 0 then max (v + (n : Int)) 0 else min v (n : Int)) = ((Yv n d (some v) : Nat) : Int) := by
 show (if v < 0 then max (v + (n : Int)) 0 else min v (n : Int)) = (((if v < 0 then (v + (n : Int)).toNat else min v.toNat n) : Nat) : Int)
 by_cases hv : v < 0
 ·simp only [if_pos hv]; omega
 ·simp only [if_neg hv]; omega
theorem Zcn (lo hi : Option Int) (n : Nat) : Builtin.Slice.sliceAdjust lo hi 1 (n : Int) = (((Yv n 0 lo : Nat) : Int), ((Yv n n hi : Nat) : Int)) := by
 have h1 : ¬ ((1 : Int) < 0) := by omega
 unfold Builtin.Slice.sliceAdjust
 simp only [h1, if_false]
 refine Prod.ext ?_ ?_
 ·cases lo with
  | none => rfl
  | some v => exact Zdq v n 0
 ·cases hi with
  | none => rfl
  | some v => exact Zdq v n n
theorem Zb1 (i j : Nat) : Builtin.Slice.slicePlaces (i : Int) (j : Int) 1 = j - i := by
 unfold Builtin.Slice.slicePlaces
 have h1 : (1 : Int) > 0 := by omega
 simp only [h1, if_true, Int.ediv_one]
 split <;> omega
theorem Ve {v : Value} {o : Option Int} {Q : Option Int → Shared → Prop} (p : IsPart v o) (h : Q o s) : wpAny (model prog w) A (Builtin.Slice.slicePartIndex v) Q E s := by
 cases p with
 | none => exact slicePart_none h
 | int i t => exact slicePart_int h
theorem WH {sl : Addr} {vl vu : Value} {lo hi : Option Int} {n : Nat} {Q : Int × Int × Nat → Shared → Prop} (hs : s.heap.IsSliceOf sl vl vu .none) (pl : IsPart vl lo) (pu : IsPart vu hi)
  (h : Q (((Yv n 0 lo : Nat) : Int), 1, Yv n n hi - Yv n 0 lo) s) : wpAny (model prog w) A (Builtin.Slice.sliceApplied (.ref sl) (pure (n : Int))) Q E s := by
 obtain ⟨os, hos, hcs, hds⟩ := id hs
 unfold Builtin.Slice.sliceApplied Builtin.Slice.sliceFields
 refine wpAny_bind (wpAny_bind (wpAny_field hos hds (x := vl) rfl (wpAny_bind (wpAny_field hos hds (x := vu) rfl (wpAny_bind (wpAny_field hos hds (x := .none) rfl (wpAny_pure ?_)))))))
 refine wpAny_bind (slicePart_none ?_)
 show wpAny _ _ (if ((1 : Int) == 0) = true then _ else _) _ _ s
 rw [if_neg (by decide)]
 refine wpAny_bind (Ve pl (wpAny_bind (Ve pu (wpAny_bind (wpAny_pure ?_)))))
 show wpAny _ _ (match Builtin.Slice.sliceAdjust lo hi 1 (n : Int) with | (lo, hi) => pure (lo, (1 : Int), Builtin.Slice.slicePlaces lo hi 1)) _ _ s
 rw [Zcn lo hi n]
 show wpAny _ _ (pure (((Yv n 0 lo : Nat) : Int), (1 : Int), Builtin.Slice.slicePlaces ((Yv n 0 lo : Nat) : Int) ((Yv n n hi : Nat) : Int) 1)) _ _ s
 rw [Zb1]
 exact wpAny_pure h
theorem Zfp (xs : Array Value) (i k : Nat) : ((List.range k).filterMap fun (m : Nat) => xs[((i : Int) + (m : Int) * 1).toNat]?).toArray = ((xs.toList.drop i).take k).toArray := by
 have e : (fun (m : Nat) => xs[((i : Int) + (m : Int) * 1).toNat]?) = fun m => xs[i + m]? := by
  funext m
  have : ((i : Int) + (m : Int) * 1).toNat = i + m := by omega
  rw [this]
 rw [e]
 have := pick_run xs i k
 rw [List.filterMap_map] at this
 have e2 : ((fun x => xs[x]?) ∘ fun x => i + x) = fun m => xs[i + m]? := rfl
 rw [e2] at this
 rw [this]
theorem Xa {t sl : Addr} {items : Array Value} {vl vu : Value} {lo hi : Option Int} {Q : Value → Shared → Prop} (ht : IsTup s.heap t items) (hs : s.heap.IsSliceOf sl vl vu .none) (pl : IsPart vl lo) (pu : IsPart vu hi)
  (hw : ¬ (Yv items.size 0 lo = 0 ∧ Yv items.size items.size hi = items.size))
  (h : Q (.ref s.heap.objs.size) { s with heap := s.heap.push { cls := .type "tuple", data := .seq ((items.toList.drop (Yv items.size 0 lo)).take (Yv items.size items.size hi - Yv items.size 0 lo)).toArray } })
  (hsz : items.size ≤ sizeLine) : wpAny (model prog w) A (getItem (.ref t) (.ref sl)) Q E s := by
 have htake : sizeOk (.seq ((items.toList.drop (Yv items.size 0 lo)).take (Yv items.size items.size hi - Yv items.size 0 lo)).toArray) := by
  show ((items.toList.drop (Yv items.size 0 lo)).take (Yv items.size items.size hi - Yv items.size 0 lo)).toArray.size ≤ sizeLine
  rw [Zh, List.length_take, List.length_drop, Array.length_toList]
  omega
 have hj : Yv items.size items.size hi ≤ items.size := Zi8 _ _ (Nat.le_refl _) hi
 obtain ⟨os, hos, hcs, hds⟩ := id hs
 have hTs : s.TypeIs (.ref sl) "slice" := ⟨os, hos, hcs⟩
 unfold getItem
 try with_reducible refine wpAny_holding ?_
 first | refine wpAny_bind (wpAny_pure ?_) | skip
 refine wpAny_bind (wpAny_sequenceKey ht.typeIs (by decide) ?_)
 refine wpAny_bind (wpAny_callSpecial?_slot (name := Str.ofString "__getitem__") ht.typeIs PyProof.Rows.slot_tuple_getitem
  (wpAny_call_entry PyProof.Rows.slot_tuple_getitem ht.typeIs entry_tuple_getitem ?_ (args_tuple_getitem _ _)))
 show wpAny _ _ (Builtin.Tuple.tupleItemsOf (.ref t) >>= _) _ _ s
 refine wpAny_bind (tupleItemsOf_ ht ?_)
 refine wpAny_bind (wpAny_typeOf hTs ?_)
 rw [if_pos (by decide)]
 refine wpAny_bind (WH hs pl pu ?_)
 have hno : ¬ ((((Yv items.size 0 lo : Nat) : Int) == 0 && (1 : Int) == 1 && (Yv items.size items.size hi - Yv items.size 0 lo) == items.size) = true) := by
  intro q
  rw [Bool.and_eq_true, Bool.and_eq_true] at q
  have q1 : ((Yv items.size 0 lo : Nat) : Int) = 0 := eq_of_beq q.1.1
  have q2 : Yv items.size items.size hi - Yv items.size 0 lo = items.size := eq_of_beq q.2
  exact hw ⟨by omega, by omega⟩
 show wpAny _ _ (if (((Yv items.size 0 lo : Nat) : Int) == 0 && (1 : Int) == 1 && (Yv items.size items.size hi - Yv items.size 0 lo) == items.size) = true then _ else _) _ _ s
 rw [if_neg hno, Zfp]
 first
  | exact wpAny_bind (m := Builtin.Tuple.tupleExact _) (wpAny_newObj_type (wpAny_pure ⟨_, rfl, wpAny_pure h⟩) htake)
  | exact wpAny_bind (m := Builtin.Tuple.tupleExact _) (wpAny_newObj_type (wpAny_bind (wpAny_pure (wpAny_pure ⟨_, rfl, wpAny_pure h⟩))) htake)
  | exact wpAny_bind (wpAny_bind (m := Builtin.Tuple.tupleExact _) (wpAny_newObj_type (wpAny_pure (wpAny_pure ⟨_, rfl, wpAny_pure h⟩)) htake))
  | exact wpAny_bind (wpAny_bind (m := Builtin.Tuple.tupleExact _) (wpAny_newObj_type (wpAny_pure ⟨_, rfl, wpAny_pure h⟩) htake))
end
end HT
namespace L2
open PySem PySem.Spec PyProof.Rows
abbrev TO := St → Hp → (Option Int → Hp → Prop) → Prop
def PO (X : Cx) (e : Option Expr) (t : TO) : Prop :=
 ∀ (pins : List (Addr × Obj)) (s : Shared) (σ : St) (H : Hp) (Q : Option Int → Hp → Prop), Zv X pins σ H s → t σ H Q →
  wpAny (model X.prog X.w) X.A (evalPart e X.env) (fun u s' => ∃ o H', Zv X pins σ H' s' ∧ IsPart u o ∧ Q o H') X.xe s
def ZgL : TO := fun _ H Q => Q none H
def ZkE (t : TE) : TO := fun σ H Q => t σ H fun x H1 => ∃ i, x = .int i ∧ Q (some i) H1
section
variable {X : Cx} {e : Expr} {te : TE} {lo hi : Option Expr} {tl th : TO} {pos p2 : Pos}
theorem Yp : PO X none ZgL := by
 intro pins s σ H Q I h
 rw [evalPart_none]
 exact wpAny_pure ⟨none, H, I, .none, h⟩
theorem Yo (h : PE X e te) : PO X (some e) (ZkE te) := by
 intro pins s σ H Q I hw
 rw [evalPart_some]
 refine ZT (h pins s σ H _ I hw) fun u s1 ⟨x, H1, I1, r1, q1⟩ => ?_
 obtain ⟨i, rfl, q⟩ := q1
 obtain ⟨t, rfl⟩ := r1
 exact ⟨some i, H1, I1, .int i t, q⟩
def SlR (X : Cx) (r : V → Option Int → Option Int → Hp → VK → Prop) : Prop :=
 ∀ (pins : List (Addr × Obj)) (s : Shared) (σ : St) (H : Hp) (x : V) (v vl vu : Value) (lo hi : Option Int) (sl : Addr) (Q : VK), Zv X pins σ H s → ZE x v → s.heap.IsSliceOf sl vl vu .none → IsPart vl lo → IsPart vu hi → r x lo hi H Q →
  ∃ T id, typeLookup (.type T) "__getitem__" = pure (some (.builtin id)) ∧ s.TypeIs v T ∧ wpAny (model X.prog X.w) X.A (getItem v (.ref sl)) (EP X pins σ Q) X.xe s
def tSl (r : V → Option Int → Option Int → Hp → VK → Prop) (te : TE) (tl th : TO) : TE := fun σ H Q => te σ H fun x H1 => tl σ H1 fun l H2 => th σ H2 fun u H3 => r x l u H3 Q
theorem ZW {r : V → Option Int → Option Int → Hp → VK → Prop} (hr : SlR X r) (he : PE X e te) (hl : PO X lo tl) (hu : PO X hi th) : PE X (.Subscript e (.Slice lo hi none p2) pos) (tSl r te tl th) := by
 intro pins s σ H Q I h
 refine Subscript_ (ZT (he pins s σ H _ I h) fun v s1 ⟨x, H1, I1, r1, q1⟩ => ?_)
 refine wpAny_Slice (ZT (hl pins s1 σ H1 _ I1 q1) fun vl s2 ⟨l, H2, I2, pl, q2⟩ => ZT (hu pins s2 σ H2 _ I2 q2) fun vu s3 ⟨u, H3, I3, pu, q3⟩ => ?_)
 rw [evalPart_none]
 refine wpAny_pure ?_
 have I4 : Zv X pins σ H3 { s3 with heap := s3.heap.push { cls := .type "slice", data := .fields #[vl, vu, .none] } } := I3.kept (t' := s3.toks) fun b ob q => Heap.get?_push_of_some _ q
 obtain ⟨T, id, hT, ht, hg⟩ := hr pins { s3 with heap := s3.heap.push { cls := .type "slice", data := .fields #[vl, vu, .none] } } σ H3 x v vl vu l u s3.heap.objs.size Q I4 r1 (Heap.IsSliceOf.new ..) pl pu q3
 show wpAny (model X.prog X.w) X.A (subscriptTail e (.Slice lo hi none p2) v (.ref s3.heap.objs.size)) (EP X pins σ Q) X.xe { s3 with heap := s3.heap.push { cls := .type "slice", data := .fields #[vl, vu, .none] } }
 exact tail_any (ops := [.ref s3.heap.objs.size, v]) ht hT hg (by with_unfolding_all rfl)
def W1 (xs : List V) (lo hi : Option Int) : List V := (xs.drop (HT.Yv xs.length 0 lo)).take (HT.Yv xs.length xs.length hi - HT.Yv xs.length 0 lo)
theorem Wb (xs : List V) (lo hi : Option Int) : (W1 xs lo hi).length ≤ xs.length := by
 unfold W1
 rw [List.length_take, List.length_drop]
 omega
def Zmq (K : PySem.W.Frag) : V → Option Int → Option Int → Hp → VK → Prop := fun x lo hi H Q => ∃ a xs, x = .ref a ∧ YW K H a xs ∧
 ¬ (HT.Yv xs.length 0 lo = 0 ∧ HT.Yv xs.length xs.length hi = xs.length) ∧ ∀ p, H p = none → Q (.ref p) (upd H p (.tup (W1 xs lo hi)))
theorem Zi5 : SlR X (Zmq X.K) := by
 intro pins s σ H x v vl vu lo hi sl Q I rx hs pl pu h
 obtain ⟨a, xs, rfl, hx, hw, q⟩ := h
 cases rx
 obtain ⟨its, r, ht, hz⟩ := I.tuple hx
 have hlen : its.toArray.size = xs.length := by rw [Zh]; exact r.length.symm
 refine ⟨"tuple", _, PyProof.Rows.slot_tuple_getitem.lookup, ht.typeIs, ?_⟩
 refine HT.Xa ht hs pl pu (by rw [hlen]; exact hw) ?_ (by rw [hlen]; exact hz)
 rw [hlen]
 refine ⟨.ref s.heap.objs.size, _, I.laid (t' := s.toks) (o := .tup (W1 xs lo hi)) (fun b ob q => Heap.get?_push_of_some _ q) (Nat.le_refl _) ?_, rfl, q _ (I.hok.fresh (Nat.le_refl _))⟩
 exact ⟨Nat.le_trans (Wb xs lo hi) hz, _, (r.drop (HT.Yv xs.length 0 lo)).take (HT.Yv xs.length xs.length hi - HT.Yv xs.length 0 lo), IsTup.new _ _⟩
def Zk7 (K : PySem.W.Frag) : R2 := fun x y H Q => ∃ a b xs ys, x = .ref a ∧ y = .ref b ∧ YW K H a xs ∧ YW K H b ys ∧ xs ≠ [] ∧ xs.length + ys.length ≤ sizeLine ∧
 (ys = [] → Q (.ref a) H) ∧ (ys ≠ [] → ∀ p, H p = none → Q (.ref p) (upd H p (.tup (xs ++ ys))))
theorem Zz.nil_iff {xs : List V} {us : List Value} (r : Zz xs us) : us = [] ↔ xs = [] := by
 cases r with
 | nil => simp
 | cons _ _ => simp
theorem Zhk : JP X (binaryOp .Add) (Zk7 X.K) := by
 intro pins s σ H x y v u Q I rx ry h
 obtain ⟨a, b, xs, ys, rfl, rfl, ha, hb, hx, hz, q1, q2⟩ := h
 cases rx
 cases ry
 obtain ⟨its, r1, p1, _⟩ := I.tuple ha
 obtain ⟨its2, r2, p2, _⟩ := I.tuple hb
 refine HT.Zh1 p1 p2 (fun z => hx (r1.nil_iff.mp z)) (fun z => ⟨.ref a, H, I, rfl, q1 (r2.nil_iff.mp z)⟩) (fun z => ?_) (by rw [← r1.length, ← r2.length]; exact hz)
 refine ⟨.ref s.heap.objs.size, _, I.laid (t' := s.toks) (o := .tup (xs ++ ys)) (fun b ob q => Heap.get?_push_of_some _ q) (Nat.le_refl _) ?_, rfl, q2 (fun w => z (r2.nil_iff.mpr w)) _ (I.hok.fresh (Nat.le_refl _))⟩
 exact ⟨by rw [Zd]; exact hz, _, r1.append r2, IsTup.new _ _⟩
end
def ixN (n : Nat) (i : Int) : Option Nat := if 0 ≤ i then (if i < n then some i.toNat else none) else if -(n : Int) ≤ i then some (i + n).toNat else none
def VU {α : Type} (xs : List α) (i : Int) : Option α := (ixN xs.length i).bind fun j => xs[j]?
theorem Zac {n : Nat} {i : Int} {j : Nat} (h : ixN n i = some j) : seqIndex? i n = some j ∧ j < n ∧ -(n : Int) ≤ i ∧ i < n := by
 unfold ixN at h
 by_cases h0 : 0 ≤ i
 ·rw [if_pos h0] at h
  by_cases h1 : i < n
  ·rw [if_pos h1] at h
   have e : i.toNat = j := Option.some.inj h
   exact ⟨by rw [seqIndex_of h0 h1, e], by omega, by omega, h1⟩
  ·rw [if_neg h1] at h; cases h
 ·rw [if_neg h0] at h
  by_cases h1 : -(n : Int) ≤ i
  ·rw [if_pos h1] at h
   have e : (i + n).toNat = j := Option.some.inj h
   exact ⟨by rw [seqIndex_neg (by omega) h1, e], by omega, h1, by omega⟩
  ·rw [if_neg h1] at h; cases h
theorem Zds {α : Type} {xs : List α} {i : Int} {v : α} (h : VU xs i = some v) : ∃ j, seqIndex? i xs.length = some j ∧ xs[j]? = some v ∧ j < xs.length ∧ -(xs.length : Int) ≤ i ∧ i < xs.length := by
 unfold VU at h
 cases e : ixN xs.length i with
 | none => rw [e] at h; cases h
 | some j =>
  rw [e] at h
  obtain ⟨h1, h2, h3, h4⟩ := Zac e
  exact ⟨j, h1, h, h2, h3, h4⟩
theorem YG {α : Type} {xs : List α} {j : Nat} {v : α} (h : xs[j]? = some v) : VU xs (j : Int) = some v := by
 have hj : j < xs.length := (List.getElem?_eq_some_iff.mp h).1
 have e : ixN xs.length (j : Int) = some j := by
  unfold ixN
  rw [if_pos (by omega), if_pos (by omega)]; simp
 unfold VU; rw [e]; exact h
theorem ZgB {α : Type} (xs : List α) (v : α) : VU (xs ++ [v]) (-1) = some v := by
 have hl : (xs ++ [v]).length = xs.length + 1 := by simp
 have e : ixN (xs ++ [v]).length (-1) = some xs.length := by
  unfold ixN
  rw [hl, if_neg (by decide), if_pos (by omega)]
  congr 1
  omega
 unfold VU
 rw [e]
 show (xs ++ [v])[xs.length]? = some v
 simp
def Zh5 (b : Expr) : Prop := ∀ o i, subscripted b false o i = operate [o, i] (getItem o i)
def IxR (X : Cx) (r : R2) : Prop :=
 ∀ (value slice : Expr) (pins : List (Addr × Obj)) (s : Shared) (σ : St) (H : Hp) (x y : V) (v u : Value) (Q : VK), Zv X pins σ H s → ZE x v → ZE y u → r x y H Q →
  subscripted slice false v u = operate [v, u] (getItem v u) → wpAny (model X.prog X.w) X.A (subscriptTail value slice v u) (EP X pins σ Q) X.xe s
def MtR (X : Cx) (id : String) (r : V → List V → Hp → VK → Prop) : Prop :=
 ∀ (pins : List (Addr × Obj)) (s : Shared) (σ : St) (H : Hp) (x : V) (xs : List V) (v : Value) (us : List Value) (Q : VK), Zv X pins σ H s → ZE x v → Zz xs us → r x xs H Q →
  wpAny (model X.prog X.w) X.A (call (.builtin id) (v :: us)) (EP X pins σ Q) X.xe s
section
variable {X : Cx} {a b : Expr} {ta tb : TE} {pos : Pos}
theorem ZN {r : R2} (hr : IxR X r) (ha : PE X a ta) (hb : PE X b tb) (hs : Zh5 b) : PE X (.Subscript a b pos) (tOp r ta tb) := by
 intro pins s σ H Q I h
 exact Subscript_ (Zj7 ha hb I h fun v u s2 x y H2 I2 rx ry q => hr a b pins s2 σ H2 x y v u Q I2 rx ry q (hs _ _))
def Zk3 (K : PySem.W.Frag) : R2 := fun x y H Q => ∃ p xs i v, x = .ref p ∧ y = .int i ∧ Wp K H p xs ∧ VU xs i = some v ∧ Q v H
def Zk1 (K : PySem.W.Frag) : R2 := fun x y H Q => ∃ p xs i v, x = .ref p ∧ y = .int i ∧ YW K H p xs ∧ VU xs i = some v ∧ Q v H
theorem Zdc : IxR X (Zk3 X.K) := by
 intro value slice pins s σ H x y v u Q I rx ry h hs
 obtain ⟨p, xs, i, z, rfl, rfl, hq, he, q⟩ := h
 cases rx
 obtain ⟨t, rfl⟩ := ry
 obtain ⟨its, r, pl, hz⟩ := I.list hq
 obtain ⟨j, h1, h2, h3, h4, h5⟩ := Zds he
 obtain ⟨w, ew, rw'⟩ := r.get h2
 have hl := r.length
 have hn := Vu
 have fin : EP X pins σ Q w s := ⟨z, H, I, rw', q⟩
 by_cases h0 : 0 ≤ i
 ·have hj : i.toNat = j := by
   rw [seqIndex_of h0 h5] at h1
   exact Option.some.inj h1
  exact item_listR pl.isList h0 (by omega) (by rw [hj]; simpa using ew) fin hs
 ·have hj : (i + (its.toArray.size : Int)).toNat = j := by
   rw [seqIndex_neg (by omega) h4] at h1
   rw [Zh, ← hl]
   exact Option.some.inj h1
  exact subscriptTail_builtinR (x := w) pl.isList.typeIs slot_list_getitem.lookup
   (wpAny_getItem_list_neg (Q := fun r s' => r = w ∧ EP X pins σ Q r s') pl.isList (by omega) (by rw [Zh] <;> omega) (by omega) (by rw [hj]; simpa using ew) ⟨rfl, fin⟩) hs
theorem Zf3 : IxR X (Zk1 X.K) := by
 intro value slice pins s σ H x y v u Q I rx ry h hs
 obtain ⟨p, xs, i, z, rfl, rfl, hq, he, q⟩ := h
 cases rx
 obtain ⟨t, rfl⟩ := ry
 obtain ⟨its, r, pl, hz⟩ := I.tuple hq
 obtain ⟨j, h1, h2, h3, h4, h5⟩ := Zds he
 obtain ⟨w, ew, rw'⟩ := r.get h2
 have hl := r.length
 have hn := Vu
 have fin : EP X pins σ Q w s := ⟨z, H, I, rw', q⟩
 exact subscriptTail_builtinR (x := w) pl.typeIs slot_tuple_getitem.lookup
  (getItem_tuple (j := j) (Q := fun r s' => r = w ∧ EP X pins σ Q r s') pl (by omega) (by omega) (by rw [Zh, ← hl]; exact h1) (by simpa using ew) ⟨rfl, fin⟩) hs
theorem Zb8 (its : List Value) (n j : Nat) (u : Value) : Obj.mapSeq (·.setIfInBounds j u) { cls := .type "list", data := .seq its.toArray n } = { cls := .type "list", data := .seq (its.set j u).toArray n } := by
 simp [Obj.mapSeq]
theorem Zv.lst {pins : List (Addr × Obj)} {σ : St} {H : Hp} {s : Shared} {p : Addr} {xs : List V} (I : Zv X pins σ H s) (h : H p = some (.lst xs)) :
  ∃ (its : List Value) (n : Nat), Zz xs its ∧ s.heap.get? p = some { cls := .type "list", data := .seq its.toArray n } ∧ xs.length ≤ sizeLine := by
 obtain ⟨z, its, n, r, e⟩ := I.hok p _ h
 exact ⟨its, n, r, e, z⟩
theorem Zv.lstUpd {pins : List (Addr × Obj)} {σ : St} {H : Hp} {s : Shared} {p : Addr} {xs ys : List V} {its its' : List Value} {n n' : Nat} {f : Obj → Obj} (I : Zv X pins σ H s) (h : H p = some (.lst xs))
  (ho : s.heap.get? p = some { cls := .type "list", data := .seq its.toArray n }) (hf : f { cls := .type "list", data := .seq its.toArray n } = { cls := .type "list", data := .seq its'.toArray n' }) (r : Zz ys its') (hz : ys.length ≤ sizeLine) (t : Nat) :
  Zv X pins σ (upd H p (.lst ys)) { s with heap := s.heap.update p f, toks := t } := by
 have e : (s.heap.update p f).get? p = some { cls := .type "list", data := .seq its'.toArray n' } := by
  rw [Heap.get?_update_self f ho (by rw [hf] <;> rfl), hf]
 refine I.write (x := p) (e := p) (by rw [h]; trivial) (.inl rfl) (fun b u hb q => (Heap.get?_update_other _ _ (Ne.symm hb)).trans q) ⟨_, e⟩ ?_
 exact ⟨hz, its', n', r, e⟩
def Zk0 : V → V → V → Hp → (Hp → Prop) → Prop := fun o i v H Q => ∃ p xs k j, o = .ref p ∧ i = .int k ∧ H p = some (.lst xs) ∧ ixN xs.length k = some j ∧ Q (upd H p (.lst (xs.set j v)))
theorem Yr : Zke X Zk0 := by
 intro pins s σ H o i v ov iv u Q I ro ri rv h
 obtain ⟨p, xs, k, j, rfl, rfl, hp, hj, q⟩ := h
 cases ro
 obtain ⟨t, rfl⟩ := ri
 obtain ⟨its, n, r, ho, hz⟩ := I.lst hp
 obtain ⟨h1, h2, h3, h4⟩ := Zac hj
 have hl := r.length
 have hn := Vu
 have I' : Zv X pins σ (upd H p (.lst (xs.set j v))) { s with heap := s.heap.update p (Obj.mapSeq (·.setIfInBounds j u)) } :=
  I.lstUpd hp ho (Zb8 its n j u) (r.set rv j) (by rw [List.length_set]; exact hz) s.toks
 by_cases h0 : 0 ≤ k
 ·have hk : k.toNat = j := by
   rw [seqIndex_of h0 h4] at h1
   exact Option.some.inj h1
  exact PySem.W.ki_setAt ho h0 (by omega) (by rw [Zh, ← hl]; exact h4) (by rw [hk]; exact ⟨_, I', q⟩)
 ·have hk : (k + (its.toArray.size : Int)).toNat = j := by
   rw [seqIndex_neg (by omega) h3] at h1
   rw [Zh, ← hl]
   exact Option.some.inj h1
  exact PySem.W.ki_setBack ho (by omega) (by rw [Zh, ← hl]; exact h3) (by omega) (by rw [hk]; exact ⟨_, I', q⟩)
theorem US (lo hi : Option Int) (n : Nat) : (sliceBounds lo hi none n).1 = ((HT.Yv n 0 lo : Nat) : Int) ∧ (sliceBounds lo hi none n).2.1 = ((HT.Yv n n hi : Nat) : Int) ∧ (sliceBounds lo hi none n).2.2 = 1 := by
 refine ⟨?_, ?_, rfl⟩
 ·cases lo with
  | none => simp [sliceBounds, HT.Yv]
  | some i =>
   simp only [sliceBounds, HT.Yv, Option.getD_none, show (1 : Int) > 0 by decide, if_true]
   by_cases h : i < 0
   ·simp only [h, if_true] <;> omega
   ·simp only [h, if_false] <;> omega
 ·cases hi with
  | none => simp [sliceBounds, HT.Yv]
  | some i =>
   simp only [sliceBounds, HT.Yv, Option.getD_none, show (1 : Int) > 0 by decide, if_true]
   by_cases h : i < 0
   ·simp only [h, if_true] <;> omega
   ·simp only [h, if_false] <;> omega
theorem VY (its : List Value) (lo hi : Option Int) : slicePick its.toArray lo hi none = ((its.drop (HT.Yv its.length 0 lo)).take (HT.Yv its.length its.length hi - HT.Yv its.length 0 lo)).toArray := by
 obtain ⟨h1, h2, h3⟩ := US lo hi its.toArray.size
 unfold slicePick
 rw [h1, h2, h3]
 simp only [sliceRange_one, pick_run, Zh] <;> rfl
def Zmr (K : PySem.W.Frag) : V → Option Int → Option Int → Hp → VK → Prop := fun x lo hi H Q => ∃ a xs, x = .ref a ∧ Wp K H a xs ∧ ∀ p, H p = none → Q (.ref p) (upd H p (.lst (W1 xs lo hi)))
theorem JW : SlR X (Zmr X.K) := by
 intro pins s σ H x v vl vu lo hi sl Q I rx hs pl pu h
 obtain ⟨a, xs, rfl, hx, q⟩ := h
 cases rx
 obtain ⟨its, r, ht, hz⟩ := I.list hx
 have hlen := r.length
 refine ⟨"list", _, slot_list_getitem.lookup, ht.isList.typeIs, ?_⟩
 refine wpAny_getItem_list_slice ht.isList hs pl pu .none (by simp) ?_ (by rw [Zh] <;> omega)
 rw [VY, ← hlen]
 refine ⟨.ref s.heap.objs.size, _, I.laid (t' := s.toks) (o := .lst (W1 xs lo hi)) (fun b ob q => Heap.get?_push_of_some _ q) (Nat.le_refl _) ?_, rfl, q _ (I.hok.fresh (Nat.le_refl _))⟩
 exact ⟨Nat.le_trans (Wb xs lo hi) hz, _, 0, (r.drop (HT.Yv xs.length 0 lo)).take (HT.Yv xs.length xs.length hi - HT.Yv xs.length 0 lo), Heap.get?_push_size _ rfl⟩
def XH : V → Bool
 | .non => true
 | .bl _ => true
 | .int _ => true
 | .str _ => true
 | _ => false
def eqV : V → V → Bool
 | .non, .non => true
 | .bl a, .bl b => a == b
 | .bl a, .int b => (if a then 1 else 0) == b
 | .int a, .bl b => a == (if b then 1 else 0)
 | .int a, .int b => a == b
 | .str a, .str b => a == b
 | _, _ => false
theorem ZjZ {A : Around} {s : Shared} {y x : V} {u v : Value} (ry : ZE y u) (rx : ZE x v) (fy : XH y = true) (fx : XH x = true) : SeqAt.EqAt A s u v (eqV y x) := by
 cases y with
 | non =>
  cases ry
  cases x with
  | non => cases rx; exact SeqAt.EqAt.same _
  | bl b => cases rx; exact SeqAt.EqAt.none_bool b
  | int b => obtain ⟨t, rfl⟩ := rx; exact SeqAt.EqAt.none_int b t
  | str b => obtain ⟨t, rfl⟩ := rx; exact SeqAt.EqAt.none_str b t
  | _ => exact absurd (show false = true from fx) Bool.false_ne_true
 | bl a =>
  cases ry
  cases x with
  | non => cases rx; exact SeqAt.EqAt.bool_none a
  | bl b => cases rx; exact SeqAt.EqAt.bool_bool a b
  | int b => obtain ⟨t, rfl⟩ := rx; exact SeqAt.EqAt.bool_int a b t
  | str b => obtain ⟨t, rfl⟩ := rx; exact SeqAt.EqAt.bool_str a b t
  | _ => exact absurd (show false = true from fx) Bool.false_ne_true
 | int a =>
  obtain ⟨t', rfl⟩ := ry
  cases x with
  | non => cases rx; exact SeqAt.EqAt.int_none a t'
  | bl b => cases rx; exact SeqAt.EqAt.int_bool a t' b
  | int b => obtain ⟨t, rfl⟩ := rx; exact SeqAt.EqAt.int_int a t' b t
  | str b => obtain ⟨t, rfl⟩ := rx; exact SeqAt.EqAt.int_str a t' b t
  | _ => exact absurd (show false = true from fx) Bool.false_ne_true
 | str a =>
  obtain ⟨t', rfl⟩ := ry
  cases x with
  | non => cases rx; exact SeqAt.EqAt.str_none a t'
  | bl b => cases rx; exact SeqAt.EqAt.str_bool a t' b
  | int b => obtain ⟨t, rfl⟩ := rx; exact SeqAt.EqAt.str_int a t' b t
  | str b => obtain ⟨t, rfl⟩ := rx; exact SeqAt.EqAt.str_str a t' b t
  | _ => exact absurd (show false = true from fx) Bool.false_ne_true
 | _ => exact absurd (show false = true from fy) Bool.false_ne_true
def eqU (x : V) (u : Value) : Bool := match u with
 | .none => eqV .non x
 | .bool b => eqV (.bl b) x
 | .int i _ => eqV (.int i) x
 | .str z _ => eqV (.str z) x
 | _ => false
theorem Zgo {x y : V} {u : Value} (r : ZE y u) (f : XH y = true) : eqU x u = eqV y x := by
 cases y with
 | non => cases r; rfl
 | bl b => cases r; rfl
 | int i => obtain ⟨t, rfl⟩ := r; rfl
 | str z => obtain ⟨t, rfl⟩ := r; rfl
 | _ => exact absurd (show false = true from f) Bool.false_ne_true
theorem Zbb {A : Around} {s : Shared} {x : V} {v : Value} (rx : ZE x v) (fx : XH x = true) : ∀ {xs : List V} {us : List Value}, Zz xs us → xs.all XH = true → ∀ u ∈ us, SeqAt.EqAt A s u v (eqU x u)
 | _, _, .nil, _ => fun u hu => by cases hu
 | y :: xs, u :: us, .cons r t, f => fun u' hu => by
  rw [List.all_cons, Bool.and_eq_true] at f
  rcases List.mem_cons.mp hu with rfl | hu
  ·rw [Zgo r f.1]; exact ZjZ r rx f.1 fx
  ·exact Zbb rx fx t f.2 u' hu
theorem Zan : Yi X (.builtin "len") (fun xs H Q => ∃ p ys, xs = [.ref p] ∧ (Wp X.K H p ys ∨ YW X.K H p ys) ∧ Q (.int ys.length) H) := by
 intro pins s σ H xs us Q I r h
 obtain ⟨p, ys, rfl, hq, q⟩ := h
 obtain ⟨u, rfl, rx⟩ := W4 r
 cases rx
 have hn := Vu
 rcases hq with hq | hq
 ·obtain ⟨its, r', pl, hz⟩ := I.list hq
  have hlen := r'.length
  exact Calls.call_len_list pl.isList (by simp only [Zh] <;> omega) ⟨.int ys.length, H, I.tok _, ⟨s.toks + 1, by rw [Zh, hlen]⟩, q⟩
 ·obtain ⟨its, r', pl, hz⟩ := I.tuple hq
  have hlen := r'.length
  exact len_tuple pl (by simp only [Zh] <;> omega) ⟨.int ys.length, H, I.tok _, ⟨s.toks + 1, by rw [Zh, hlen]⟩, q⟩
theorem ZZ : Yi X (.type "list") (fun xs H Q => ∃ p ys, xs = [.ref p] ∧ (Wp X.K H p ys ∨ YW X.K H p ys) ∧ ∀ l, H l = none → Q (.ref l) (upd H l (.lst ys))) := by
 intro pins s σ H xs us Q I r h
 obtain ⟨p, ys, rfl, hq, q⟩ := h
 obtain ⟨u, rfl, rx⟩ := W4 r
 cases rx
 have fin : ∀ (its : List Value), Zz ys its → ys.length ≤ sizeLine → ∀ (h' : Heap) (c' : Nat), (∀ b o', s.heap.get? b = some o' → h'.get? b = some o') →
   h'.get? s.heap.objs.size = some { cls := .type "list", dict := none, data := .seq its.toArray c', slots := #[] } → EP X pins σ Q (.ref s.heap.objs.size) { s with heap := h' } := fun its r' hz h' c' kp e =>
  ⟨.ref s.heap.objs.size, _, I.laid (t' := s.toks) kp (Nat.le_refl _) (show ZS X.prog X.w _ h' _ (.lst ys) from ⟨hz, its, c', r', e⟩), rfl, q _ (I.hok.fresh (Nat.le_refl _))⟩
 rcases hq with hq | hq
 ·obtain ⟨its, r', pl, hz⟩ := I.list hq
  have hlen := r'.length
  obtain ⟨o, ho, hc, n, hd⟩ := pl.isList
  exact call_list_seq p (.inl rfl) ho hc hd (fun h' c' kp e => fin its r' hz h' c' kp e) (by simp only [Zh] <;> omega)
 ·obtain ⟨its, r', pl, hz⟩ := I.tuple hq
  have hlen := r'.length
  obtain ⟨o, ho, hc, n, hd⟩ := pl
  exact call_list_seq p (.inr rfl) ho hc hd (fun h' c' kp e => fin its r' hz h' c' kp e) (by simp only [Zh] <;> omega)
theorem Zw : Yi X (.type "tuple") (fun xs H Q => ∃ p ys, xs = [.ref p] ∧ ((Wp X.K H p ys ∧ ∀ l, H l = none → Q (.ref l) (upd H l (.tup ys))) ∨ (YW X.K H p ys ∧ Q (.ref p) H))) := by
 intro pins s σ H xs us Q I r h
 obtain ⟨p, ys, rfl, h⟩ := h
 obtain ⟨u, rfl, rx⟩ := W4 r
 cases rx
 rcases h with ⟨hq, q⟩ | ⟨hq, q⟩
 ·obtain ⟨its, r', pl, hz⟩ := I.list hq
  have hlen := r'.length
  refine call_tuple_list pl.isList (fun h' kp => ?_) (by simp only [Zh] <;> omega)
  have I1 : Zv X pins σ H { s with heap := h' } := I.kept (t' := s.toks) kp
  have I2 : Zv X pins σ (upd H h'.objs.size (.tup ys)) { s with heap := h'.push { cls := .type "tuple", data := .seq its.toArray } } :=
   I1.laid (t' := s.toks) (fun b o e => Heap.get?_push_of_some _ e) (Nat.le_refl _) (show ZS X.prog X.w _ _ _ (.tup ys) from ⟨hz, its, r', IsTup.new _ _⟩)
  exact ⟨.ref h'.objs.size, _, I2, rfl, q _ (I1.hok.fresh (Nat.le_refl _))⟩
 ·obtain ⟨its, r', pl, hz⟩ := I.tuple hq
  exact call_tuple_same pl ⟨.ref p, H, I, rfl, q⟩
def tyV (K : PySem.W.Frag) (T : String) (x : V) (H : Hp) : Prop := match x with
 | .str _ => T = "str"
 | .int _ => T = "int"
 | .ref p => (T = "list" ∧ ∃ xs, Wp K H p xs) ∨ (T = "tuple" ∧ ∃ o, K.lookup p = some o ∧ o.cls = .type "tuple" ∧ o.dict = none) ∨
   (T = "dict" ∧ ((∃ kvs, H p = some (.dK kvs)) ∨ ∃ kvs, H p = some (.dT kvs))) ∨ (T = "set" ∧ ∃ S n, H p = some (.set S n))
 | _ => False
theorem ZeB {pins : List (Addr × Obj)} {σ : St} {H : Hp} {s : Shared} {T : String} {x : V} {v : Value} (I : Zv X pins σ H s) (r : ZE x v) (ty : tyV X.K T x H) :
  s.TypeIs v T ∧ ∀ a, v = .ref a → ∃ ob, s.heap.get? a = some ob ∧ ob.dict = none := by
 cases x with
 | str z =>
  obtain ⟨t, rfl⟩ := r
  cases (show T = "str" from ty)
  exact ⟨typeIs_str s z t, fun _ e => nomatch e⟩
 | int i =>
  obtain ⟨t, rfl⟩ := r
  cases (show T = "int" from ty)
  exact ⟨typeIs_int s i t, fun _ e => nomatch e⟩
 | ref p =>
  cases r
  rcases ty with ⟨rfl, xs, hq⟩ | ⟨rfl, o, hk, hc, hd⟩ | ⟨rfl, hk⟩ | ⟨rfl, S, n, hk⟩
  ·obtain ⟨its, _, pl, _⟩ := I.list hq
   refine ⟨pl.isList.typeIs, fun a e => ?_⟩
   cases e
   obtain ⟨o, n, e, c, hd, _⟩ := pl
   exact ⟨o, e, hd⟩
  ·refine ⟨⟨o, I.kIn p o hk, hc⟩, fun a e => ?_⟩
   cases e
   exact ⟨o, I.kIn _ o hk, hd⟩
  ·have z : ∃ o, s.heap.get? p = some o ∧ o.ExactDict := by
    rcases hk with ⟨kvs, hk⟩ | ⟨kvs, hk⟩
    ·obtain ⟨_, _, _, _, o, _, _, e, ex, _⟩ := I.hok p _ hk
     exact ⟨o, e, ex⟩
    ·obtain ⟨_, _, _, _, o, _, _, e, ex, _⟩ := I.hok p _ hk
     exact ⟨o, e, ex⟩
   obtain ⟨o, e, ex⟩ := z
   refine ⟨⟨o, e, ex.1⟩, fun a e2 => ?_⟩
   cases e2
   exact ⟨o, e, ex.2.1⟩
  ·obtain ⟨o, _, _, _, e, ex, _⟩ := I.hok p _ hk
   refine ⟨⟨o, e, ex.1⟩, fun a e2 => ?_⟩
   cases e2
   exact ⟨o, e, ex.2.1⟩
 | _ => exact False.elim ty
def Zmk (K : PySem.W.Frag) (T : String) (r : V → List V → Hp → VK → Prop) (to : TE) : TE := fun σ H Q => to σ H fun x H1 => tyV K T x H1 ∧ r x [] H1 Q
def tBM (K : PySem.W.Frag) (T : String) (r : V → List V → Hp → VK → Prop) (to : TE) (t : TA) : TE := fun σ H Q => to σ H fun x H1 => tyV K T x H1 ∧ t σ H1 fun xs H2 => r x xs H2 Q
variable {o e : Expr} {es : List Expr} {to : TE} {t : TA} {name : Str} {apos cpos : Pos} {T id : String} {r : V → List V → Hp → VK → Prop}
theorem Zjm (pa : PlainAttrs T) (slot : Slot T name id) (hty : typeOf (.builtin id) = pure (.type "method_descriptor")) (hm : MtR X id r) (ho : PE X o to)
  (hbase : attributeBase o name X.env (eval o X.env) = eval o X.env := by rfl) (hline : (apos.endLine == cpos.line) = true := by rfl) : PE X (.Call (.Attribute o name apos) [] [] cpos) (Zmk X.K T r to) := by
 intro pins s σ H Q I h
 refine wpAny_Call_method0_late hbase hline (ZT (ho pins s σ H _ I h) fun v s1 ⟨x, H1, I1, r1, ty, q1⟩ => ?_)
 obtain ⟨h1, h2⟩ := ZeB I1 r1 ty
 exact ⟨T, id, pa, slot, hty, h1, h2, Calls.callWith_builtin rfl (PySem.evalArgs_none (hm pins s1 σ H1 x [] v [] Q I1 r1 .nil q1))⟩
theorem WZ (pa : PlainAttrs T) (slot : Slot T name id) (hty : typeOf (.builtin id) = pure (.type "method_descriptor")) (hm : MtR X id r) (ho : PE X o to) (ha : PA X (e :: es) t)
  (hbase : attributeBase o name X.env (eval o X.env) = eval o X.env := by rfl)
  (hfew : ((backTo cpos (starEach (e :: es) X.env)).all (fun x => !x.1) && (backToKw cpos (keywordEach [] X.env)).all (fun x => x.1.isSome)
   && decide ((e :: es).length + ([] : List Keyword).length + (if ([] : List Keyword).isEmpty then 0 else 1) < 30)) = true := by rfl)
  (hline : (apos.endLine == cpos.line) = true := by rfl) (hs : starEach (e :: es) X.env = (false, eval e X.env) :: starEach es X.env := by rfl) (hplain : (backTo cpos (starEach es X.env)).any (·.1) = false := by rfl) :
  PE X (.Call (.Attribute o name apos) (e :: es) [] cpos) (tBM X.K T r to t) := by
 intro pins s σ H Q I h
 refine wpAny_Call_method_late hbase hfew hline rfl (ZT (ho pins s σ H _ I h) fun v s1 ⟨x, H1, I1, r1, ty, q1⟩ => ?_)
 obtain ⟨h1, h2⟩ := ZeB I1 r1 ty
 refine ⟨T, id, pa, slot, hty, h1, h2, ?_⟩
 have hA := ha cpos pins s1 σ H1 _ I1 q1
 rw [hs] at hA ⊢
 refine Calls.callWith_builtin (by show (false || (backTo cpos (starEach es X.env)).any (·.1)) = false; rw [hplain] <;> rfl) (Calls.evalArgs_plain ?_)
 exact ZT hA fun us s2 ⟨vs, H2, I2, r2, q2⟩ => hm pins s2 σ H2 x vs v us Q I2 r1 r2 q2
end
def MtM (X : Cx) (id : String) (r : V → List V → Hp → VK → Prop) : Prop :=
 ∀ (pins : List (Addr × Obj)) (s : Shared) (σ : St) (H : Hp) (x : V) (xs : List V) (v : Value) (us : List Value) (Q : VK), Zv X pins σ H s → ZE x v → Zz xs us → r x xs H Q →
  wpAny (model X.prog X.w) X.A (call (.builtin id) (v :: us)) (EP X pins σ Q) X.xe s
theorem Zz.one : ∀ {x : V} {us : List Value}, Zz [x] us → ∃ u, us = [u] ∧ ZE x u
 | _, _, .cons r .nil => ⟨_, rfl, r⟩
theorem Zz.zero : ∀ {us : List Value}, Zz [] us → us = []
 | _, .nil => rfl
theorem Zz.dropLast {xs : List V} {us : List Value} (h : Zz xs us) : Zz xs.dropLast us.dropLast := by
 induction h with
 | nil => exact .nil
 | cons r t ih =>
  cases t with
  | nil => exact .nil
  | cons q t' => exact .cons r ih
theorem Zz.eraseIdx : ∀ {xs : List V} {us : List Value} (i : Nat), Zz xs us → Zz (xs.eraseIdx i) (us.eraseIdx i)
 | _, _, _, .nil => .nil
 | _, _, 0, .cons _ t => t
 | _, _, i + 1, .cons r t => .cons r (Zz.eraseIdx i t)
theorem Zz.rep {xs : List V} {us : List Value} (h : Zz xs us) : ∀ k : Nat, Zz (List.replicate k xs).flatten (List.replicate k us).flatten
 | 0 => .nil
 | k + 1 => by
  rw [List.replicate_succ, List.replicate_succ, List.flatten_cons, List.flatten_cons]
  exact Zz.append h (Zz.rep h k)
theorem Zcg {α : Type} (l : List α) : l.eraseIdx (l.length - 1) = l.dropLast := by
 induction l with
 | nil => rfl
 | cons a r ih =>
  cases r with
  | nil => rfl
  | cons b r =>
   have e : (a :: b :: r).length - 1 = ((b :: r).length - 1) + 1 := by
    have h1 : (a :: b :: r).length = r.length + 2 := rfl
    have h2 : (b :: r).length = r.length + 1 := rfl
    omega
   rw [e, List.eraseIdx_cons_succ, ih]
   all_goals rfl
theorem Uq {α : Type} : ∀ (l : List α) (i : Nat), (l.eraseIdx i).length ≤ l.length
 | [], _ => Nat.le_refl _
 | _ :: _, 0 => Nat.le_succ _
 | _ :: r, i + 1 => Nat.succ_le_succ (Uq r i)
theorem Uv (its : List Value) : ∀ (k : Nat) (acc : List Value),
  List.foldl (fun x1 x2 => x1 ++ x2) acc.toArray (List.replicate k its.toArray) = (acc ++ (List.replicate k its).flatten).toArray
 | 0, acc => by simp
 | k + 1, acc => by
  have e : acc.toArray ++ its.toArray = (acc ++ its).toArray := by simp
  have e2 : (acc ++ its) ++ (List.replicate k its).flatten = acc ++ (List.replicate (k + 1) its).flatten := by
   rw [List.replicate_succ, List.flatten_cons, List.append_assoc]
  rw [← e2, ← Uv its k (acc ++ its), ← e, List.replicate_succ, List.foldl_cons]
section
variable {X : Cx} {pins : List (Addr × Obj)} {σ : St} {H : Hp} {s : Shared} {l b : Addr} {xs ys zs : List V}
theorem Zv.lset {its its' : List Value} {n : Nat} {f : Array Value → Array Value} {t' : Nat} (I : Zv X pins σ H s) (hH : H l = some (.lst xs))
  (e : s.heap.get? l = some { cls := .type "list", data := .seq its.toArray n }) (hf : f its.toArray = its'.toArray) (hv : Zz ys its') (hz : ys.length ≤ sizeLine) :
  Zv X pins σ (upd H l (.lst ys)) { s with heap := s.heap.update l (Obj.mapSeq f), toks := t' } := by
 have q := PySem.IsL.update e f
 rw [hf] at q
 refine I.write (x := l) (e := l) (by rw [hH]; exact trivial) (.inl rfl) (fun b' u hb hu => (Heap.get?_update_other s.heap (Obj.mapSeq f) (Ne.symm hb)).trans hu) ⟨_, q⟩ ?_
 exact ⟨hz, its', _, hv, q⟩
theorem Zv.lnew {its : List Value} {t' : Nat} (I : Zv X pins σ H s) (hv : Zz ys its) (hz : ys.length ≤ sizeLine) :
  Zv X pins σ (upd H s.heap.objs.size (.lst ys)) { s with heap := s.heap.push { cls := .type "list", data := .seq its.toArray }, toks := t' } :=
 I.laid (fun _ _ q => Heap.get?_push_of_some _ q) (Nat.le_refl _) ⟨hz, its, 0, hv, Heap.get?_push_size _ rfl⟩
theorem Zv.fresh (I : Zv X pins σ H s) : H s.heap.objs.size = none := I.hok.fresh (Nat.le_refl _)
theorem Zv.lstM (I : Zv X pins σ H s) (hH : H l = some (.lst xs)) : xs.length ≤ sizeLine ∧ ∃ (its : List Value) (n : Nat), Zz xs its ∧ xs.length = its.length ∧ s.heap.get? l = some { cls := .type "list", data := .seq its.toArray n } := by
 obtain ⟨z, its, n, r, e⟩ := I.hok l _ hH
 exact ⟨z, its, n, r, r.length, e⟩
theorem ZfT {n : Nat} (h : n ≤ sizeLine) : Builtin.List.listTooLong n = false := by
 unfold Builtin.List.listTooLong
 exact decide_eq_false (by omega)
end
section
variable {X : Cx}
def U4 : V → List V → Hp → VK → Prop := fun x vs H Q => ∃ l xs y, x = .ref l ∧ vs = [y] ∧ H l = some (.lst xs) ∧ xs.length < sizeLine ∧ Q .non (upd H l (.lst (xs ++ [y])))
theorem ZV : MtM X "list.append" U4 := by
 intro pins s σ H x vs v us Q I rx rv h
 obtain ⟨l, xs, y, rfl, rfl, hH, hz, q⟩ := h
 cases rx
 obtain ⟨u, rfl, ru⟩ := rv.one
 obtain ⟨z, its, n, r, hl, e⟩ := I.lstM hH
 refine call_meets F.slot_list_append ⟨_, e, rfl⟩ F.entry_list_append (F.args_list_append_2 _ _) (PySem.list_append l its.toArray n u (by rw [Zh]; omega)) ⟨e, ?_⟩
 refine ⟨.non, _, I.lset (its' := its ++ [u]) hH e (by simp) (r.append (.cons ru .nil)) ?_, rfl, q⟩
 rw [Zd, Zk]
 omega
def Zmt : V → List V → Hp → VK → Prop := fun x vs H Q => ∃ l xs y, x = .ref l ∧ vs = [] ∧ H l = some (.lst xs) ∧ xs[xs.length - 1]? = some y ∧ Q y (upd H l (.lst xs.dropLast))
theorem ZjB : MtM X "list.pop" Zmt := by
 intro pins s σ H x vs v us Q I rx rv h
 obtain ⟨l, xs, y, rfl, rfl, hH, hy, q⟩ := h
 cases rx
 have hus := rv.zero
 subst hus
 obtain ⟨z, its, n, r, hl, e⟩ := I.lstM hH
 obtain ⟨u, hu, ru⟩ := r.get hy
 have hy' : its.toArray[its.toArray.size - 1]? = some u := by
  show its.toArray[its.length - 1]? = some u
  rw [← Array.getElem?_toList, ← hl]
  exact hu
 refine call_meets F.slot_list_pop ⟨_, e, rfl⟩ F.entry_list_pop (F.args_list_pop_1 _) (MeetsSeq.list_pop_last l its.toArray n u hy' (by rw [Zh]; omega)) ⟨e, ?_⟩
 refine ⟨y, _, I.lset (its' := its.dropLast) hH e ?_ r.dropLast ?_, ru, q⟩
 ·show its.toArray.eraseIdxIfInBounds (its.toArray.size - 1) = its.dropLast.toArray
  rw [Zh, List.eraseIdxIfInBounds_toArray, Zcg]
 ·rw [List.length_dropLast]
  omega
def Zjc : V → List V → Hp → VK → Prop := fun x vs H Q => ∃ l xs i k y, x = .ref l ∧ vs = [.int i] ∧ H l = some (.lst xs) ∧ -(2 ^ 63) ≤ i ∧ i < 2 ^ 63 ∧ seqIndex? i xs.length = some k ∧ xs[k]? = some y ∧ Q y (upd H l (.lst (xs.eraseIdx k)))
theorem ZfW : MtM X "list.pop" Zjc := by
 intro pins s σ H x vs v us Q I rx rv h
 obtain ⟨l, xs, i, k, y, rfl, rfl, hH, h1, h2, hk, hy, q⟩ := h
 cases rx
 obtain ⟨u, rfl, ru⟩ := rv.one
 obtain ⟨t, rfl⟩ := ru
 obtain ⟨z, its, n, r, hl, e⟩ := I.lstM hH
 obtain ⟨w, hw, rw'⟩ := r.get hy
 refine call_meets F.slot_list_pop ⟨_, e, rfl⟩ F.entry_list_pop (F.args_list_pop_2 _ _)
  (MeetsSeq.list_pop_at l its.toArray n i t k w (fitsIndex_both h1 h2) (by rw [Zh, ← hl]; exact hk) (by rw [← Array.getElem?_toList]; exact hw) (by rw [Zh]; omega)) ⟨e, ?_⟩
 refine ⟨y, _, I.lset (its' := its.eraseIdx k) hH e ?_ (r.eraseIdx k) ?_, rw', q⟩
 ·show its.toArray.eraseIdxIfInBounds k = (its.eraseIdx k).toArray
  rw [List.eraseIdxIfInBounds_toArray]
 ·have := Uq xs k
  omega
def Zmv : R2 := fun x y H Q => ∃ l b xs zs, x = .ref l ∧ y = .ref b ∧ H l = some (.lst xs) ∧ H b = some (.lst zs) ∧ xs.length + zs.length ≤ sizeLine ∧ ∀ p, H p = none → Q (.ref p) (upd H p (.lst (xs ++ zs)))
theorem Xp : JP X (binaryOp .Add) Zmv := by
 intro pins s σ H x y v u Q I rx ry h
 obtain ⟨l, b, xs, zs, rfl, rfl, hH, hB, hz, q⟩ := h
 cases rx
 cases ry
 obtain ⟨z, its, n, r, hl, e⟩ := I.lstM hH
 obtain ⟨z2, its2, n2, r2, hl2, e2⟩ := I.lstM hB
 refine PySem.P.add_list e e2 ?_ (by rw [Zh, Zh]; omega)
 have ea : its.toArray ++ its2.toArray = (its ++ its2).toArray := by simp
 rw [ea]
 exact ⟨.ref _, _, I.lnew (t' := s.toks) (r.append r2) (by rw [Zd]; omega), rfl, q _ I.fresh⟩
def Zms : R2 := fun x y H Q => ∃ l k xs, x = .ref l ∧ y = .int k ∧ H l = some (.lst xs) ∧ -(2 ^ 63) ≤ k ∧ k < 2 ^ 63 ∧ xs.length * k.toNat ≤ sizeLine ∧
 ∀ p, H p = none → Q (.ref p) (upd H p (.lst (List.replicate k.toNat xs).flatten))
theorem ZhH {α : Type} (xs : List α) (k : Nat) : (List.replicate k xs).flatten.length = k * xs.length := by
 induction k with
 | zero => simp
 | succ k ih => rw [List.replicate_succ, List.flatten_cons, Zd, ih, Nat.succ_mul, Nat.add_comm]
theorem Wc : JP X (binaryOp .Mult) Zms := by
 intro pins s σ H x y v u Q I rx ry h
 obtain ⟨l, k, xs, rfl, rfl, hH, h1, h2, hz, q⟩ := h
 cases rx
 obtain ⟨t, rfl⟩ := ry
 obtain ⟨z, its, n, r, hl, e⟩ := I.lstM hH
 have hlen : its.toArray.size * k.toNat ≤ sizeLine := by rw [Zh, ← hl]; exact hz
 have hcap : ¬ its.toArray.size * k.toNat > (2 ^ 63 - 1) / 8 := by
  have : (sizeLine : Nat) ≤ (2 ^ 63 - 1) / 8 := by decide
  omega
 have hfit : ¬ (!Builtin.List.listFitsIndex k) = true := by
  rw [fitsIndex_both h1 h2]
  exact Bool.false_ne_true
 have hlong : ¬ Builtin.List.listTooLong (its.toArray.size * k.toNat) = true := by
  rw [ZfT hlen]
  exact Bool.false_ne_true
 have hnew : List.foldl (fun x1 x2 => x1 ++ x2) #[] (List.replicate (if its.toArray.isEmpty = true then 0 else k.toNat) its.toArray) = (List.replicate k.toNat its).flatten.toArray := by
  have f0 : ∀ m : Nat, List.foldl (fun x1 x2 => x1 ++ x2) #[] (List.replicate m its.toArray) = (List.replicate m its).flatten.toArray := fun m => by
   have := Uv its m []
   rw [List.nil_append] at this
   exact this
  rw [f0]
  cases its with
  | nil => simp
  | cons a r' => rw [if_neg (by simp)]
 refine wpAny_binaryOp_repeat_ref (T := "list") (U := "int") (by decide) ⟨_, e, rfl⟩ (fun s' => typeIs_int s' k t) noFill_list_mul F.fills_int_mul F.slot_int_rmul repeat_list F.slot_int_index.lookup
  (call_meets F.slot_int_rmul (typeIs_int s k t) F.entry_int_rmul (F.args_int_rmul_2 _ _) (int___rmul___int_list k t l its.toArray n)
   ⟨e, rfl, ⟨_, e, rfl⟩, call_meets F.slot_list_mul ⟨_, e, rfl⟩ F.entry_list_mul (F.args_list_mul_2 _ _) (AutoListH.list___mul___list_int_3 l its.toArray n k t hfit hcap hlong) ⟨e, ?_⟩⟩)
 rw [hnew]
 exact ⟨.ref _, _, I.lnew (t' := s.toks) (r.rep k.toNat) (by rw [ZhH, Nat.mul_comm]; exact hz), rfl, q _ I.fresh⟩
end
section
variable {prog : Program} {w : World} {A : Around} {E : Value → Shared → Prop} {s : Shared}
end
section
variable {X : Cx}
end
end L2
namespace Att
open PySem PySem.W PySem.Calls PyProof.Rows
theorem XO {P : Params} {h : Heap} : ∀ (ns : List Int) (vs : List Value), WellAll P h vs (ns.map WData.int) → IntsAre vs ns := by
 intro ns
 induction ns with
 | nil =>
  intro vs w
  rw [List.map_nil] at w
  cases w
  exact .nil
 | cons n ns ih =>
  intro vs w
  rw [List.map_cons] at w
  cases w with
  | cons a b =>
   cases a
   exact .cons _ _ (ih _ b)
theorem ZdF {l : OpenLaw} {n : Nat} (hn : l.most = some n) {P : Params} {h : Heap} {args : List WData} {vals : List Value}
  (hpre : l.row.toRowW.claim.pre args = true) (hwl : WellAll P h vals args) :
  ∃ a vs ns, vals = [Value.ref a] ∧ args = [WData.list (ns.map WData.int)] ∧ h.get? a = some { cls := .type "list", data := .seq vs.toArray } ∧ IntsAre vs ns ∧ ns.length ≤ n := by
 have hsh : WShape.hasAll [] args [.list .int] = true := (pre_splitW hpre).1
 have hc : l.pre.holds [] { args := args } = true := (pre_splitW hpre).2
 obtain ⟨d, r, rfl, h1, h2⟩ := hasAllW_cons hsh
 obtain rfl := hasAllW_nil h2
 obtain ⟨xs, rfl, h3⟩ := hasW_list h1
 obtain ⟨ns, rfl⟩ := items_int h3
 have hlen : ns.length ≤ n := by
  unfold OpenLaw.pre at hc
  have h4 : (WTm.not (.lt (.lit (.int (n : Int))) (.len (.arg 0)))).holds [] { args := [.list (ns.map .int)] } = true := by
   have h4 := (holds_andW hc).1
   rw [hn] at h4
   exact h4
  have h5 := condW_of h4 (w_not (w_lt w_lit (w_len_list (w_arg rfl))))
  rw [Za] at h5
  refine Nat.le_of_not_lt fun q => ?_
  have q' : (n : Int) < ((ns.length : Nat) : Int) := by omega
  first
   | (rw [decide_eq_true q'] at h5; exact absurd h5 (by decide))
   | (simp at h5; omega)
 cases hwl with
 | cons w1 w2 =>
  cases w2
  cases w1 with
  | list ho hall => exact ⟨_, _, ns, rfl, rfl, ho, XO ns _ hall, hlen⟩
theorem ZdI (l : OpenLaw) (args : List WData) : l.row.toRowW.claim.post args (.bool true) args = true :=
 postW_of (r := l.row.toRowW) (X := (true == true))
  (show WShape.has [] (.bool true) .bool = true by first | rfl | decide | simp [WShape.has, WShape.arms, WShape.armsAll])
  (show (WTm.eq .res (.lit (.bool true))).value [] { args := args, res := some (.bool true), after := args } = some (.bool (true == true)) from w_eq_bool (w_res rfl) w_lit) rfl
theorem ZbE {l : OpenLaw} {n : Nat} {q : Program} {loose : List Str} {XP : (Str → Option Value) → Heap → Prop} {YP : World → Heap → Prop} {d : DefRec}
  (hn : l.most = some n) (hdf : d.params.defaults = [])
  (call : ∀ (w : World) (s₀ s₁ : Shared) (mg mb : Str → Option Value) (fa : Addr) (o : Obj) (pm cd doc : Value) (a : Addr) (vs : List Value) (ns : List Int),
   Ground q loose [] XP w s₀ mg mb s₁.heap → YP w s₁.heap →
   s₁.heap.get? fa = some o → o.data = .func (docDef d.name d.params d.body d.scope pm cd doc) → s₁.heap.CodeRec cd d.name → mg d.name = some (.ref fa) →
   s₁.heap.get? a = some { cls := .type "list", data := .seq vs.toArray } → IntsAre vs ns → ns.length ≤ n → s₁.gens = #[] →
   codeAny (model l.prog w) callerA (.call (.ref fa) ⟨[.ref a], []⟩) (fun r s' => r = .ok (.ret (.bool true)) ∧ OldK s₁.heap s'.heap ∧ s'.os = s₁.os ∧ AllBare s'.gens) s₁) :
  WalkO q loose XP YP l.row.toRowW d [] (fun f vs => PySem.call f vs) := by
 intro w s₀ s₁ mg mb G Y fa o pm cd doc dV kV ho hd hcd hD hmg hg args vals as hpre hlay hrd hwl hlo
 obtain rfl : dV = .none := Dflts.none hD hdf
 obtain rfl : kV = .none := Dflts.noKw hD
 obtain ⟨a, vs, ns, rfl, rfl, hobj, hints, hlen⟩ := ZdF hn hpre hwl
 refine enter_call (codeAny_mono (call w s₀ s₁ mg mb fa o pm cd doc a vs ns G Y ho (fd_plain hd) hcd hmg hobj hints hlen hg) fun r s' hq => ?_)
 obtain ⟨rfl, h2, h3, h4⟩ := hq
 exact ⟨.inl ⟨.bool true, .bool true, [], rfl, fun _ => rfl, .bool true, ZdI l _, fun _ => ⟨List.Pairwise.nil, fun _ hm => (nomatch hm)⟩⟩, h2, h3, h4⟩
section
variable {prog : Program} {w : World} {A : Around} {E : Value → Shared → Prop} {s : Shared} {K : Frag}
end
end Att
namespace L2
open PySem PySem.Spec PyProof.Rows
theorem V6 : ∀ {vs : List Value} {ns : List Int}, IntsAre vs ns → Zz (ns.map V.int) vs
 | _, _, .nil => .nil
 | _, _, .cons n t h => .cons ⟨t, rfl⟩ (V6 h)
def Zkf (H : Hp) : Prop := ∀ b, H b = none ∨ ∃ o xs, H b = some (.frz o (.lst xs))
theorem ZfZ {P : Program} {w : World} {K : PySem.W.Frag} {mg mb : Str → Option Value} {CX : CXT} {k : Nat} {fa a : Addr} {fd : FuncData} {x : Str} {sp : Sp} {s₁ : Shared} {vs : List Value} {ns : List Int}
  (KX : K.In s₁.heap) (hns : s₁.heap.Ns mainGlobals mg) (hb : s₁.heap.Ns builtinsNs mb) (hbb : ∀ x : Str, x ≠ "__name__" → mb x = bootBuiltins x) (hlim : s₁.heap.NoLimit) (hg : s₁.gens = #[])
  (ha : s₁.heap.get? a = some { cls := .type "list", data := .seq vs.toArray }) (hi : IntsAre vs ns) (hl : ns.length ≤ sizeLine) (hr : WO k callerA)
  (F : ∀ base : Heap, K.In base → base.Ns mainGlobals mg → ZH P w K mg base CX k fa fd [x] sp) (hbind : ∀ (s : Shared) (u : Value), BindsTo s fd ⟨[u], []⟩ [(x, u)])
  (hsp : ∀ H : Hp, Zkf H → Wp K H a (ns.map V.int) → sp [.ref a] H (fun v _ => v = .bl true) fun _ _ _ => False)
  (hCX : ∀ H e s', CX [] H s₁ (fun _ _ _ => False) e s' → False) :
  codeAny (model P w) callerA (.call (.ref fa) ⟨[.ref a], []⟩) (fun r s' => r = .ok (.ret (.bool true)) ∧ OldK s₁.heap s'.heap ∧ s'.os = s₁.os ∧ AllBare s'.gens) s₁ := by
 have rv := V6 hi
 have lenV := hi.length
 have core : ∀ H : Hp, Zkf H → Wp K H a (ns.map V.int) → JQ P w H s₁.heap → (∀ b, H b ≠ none → b = a) → (H a ≠ none → K.lookup a = none) →
   codeAny (model P w) callerA (.call (.ref fa) ⟨[.ref a], []⟩) (fun r s' => r = .ok (.ret (.bool true)) ∧ OldK s₁.heap s'.heap ∧ s'.os = s₁.os ∧ AllBare s'.gens) s₁ := by
  intro H hO hS hok hA hK
  have base_of : ∀ {b : Addr} {o : Obj}, s₁.heap.get? b = some o → H b = none → (Zad s₁.heap H).get? b = some o := fun e n => Zge e n
  have noA : ∀ {b : Addr} {o : Obj} {es : Array DictEntry} {ep : Nat}, s₁.heap.get? b = some o → o.data = .dict es ep → H b = none := fun {b o es ep} e d => by
   cases q : H b with
   | none => rfl
   | some u =>
    have e' : b = a := hA b (by rw [q]; simp)
    subst e'
    rw [ha] at e; cases e
    have d' : Data.seq vs.toArray _ = Data.dict es ep := d
    cases d'
  have nsK : ∀ {b : Addr} {m : Str → Option Value}, s₁.heap.Ns b m → (Zad s₁.heap H).Ns b m := fun {b m} ⟨o, es, ep, e, d, r⟩ => ⟨o, es, ep, base_of e (noA e d), d, r⟩
  have hKb : K.In (Zad s₁.heap H) := fun b o e => base_of (KX b o e) (by
   cases q : H b with
   | none => rfl
   | some u =>
    have e' : b = a := hA b (by rw [q]; simp)
    subst e'
    rw [hK (by rw [q]; simp)] at e; cases e)
  have hM : Mod K mg (Zad s₁.heap H) := ⟨hKb, nsK hns, ⟨mb, nsK hb, hbb⟩, let ⟨mc, h1, h2⟩ := hlim; ⟨mc, nsK h1, h2⟩⟩
  have e0 : Zh8 P w K mg (Zad s₁.heap H) callerA [] s₁ H := ⟨rfl, hM, fun b o e => ZhA e, Nat.le_of_eq (Zd7 _ _), trivial, fun b hb => absurd (show b ∈ ([] : List Addr) from hb) (by simp), hok, .of_eq hg⟩
  refine codeAny_mono ((F _ hKb (nsK hns)).run callerA [] s₁ H ⟨[.ref a], []⟩ [.ref a] [.ref a] _ _ hr e0 (hbind s₁ (.ref a)) (.cons rfl .nil) (hsp H hO hS)) fun r s' h => ?_
  cases r with
  | error e => exact (hCX H e s' h).elim
  | ok fl =>
   cases fl with
   | next => exact False.elim h
   | brk => exact False.elim h
   | cont => exact False.elim h
   | ret u =>
    obtain ⟨v, H', os, bare, un, hok', r', q⟩ := h
    have q' : v = .bl true := q
    subst q'
    obtain rfl : u = Value.bool true := r'
    refine ⟨rfl, OldK.of_keep fun b o e => ?_, os, bare⟩
    cases q : H b with
    | none => exact un.keep b o e q (by intro z; exact absurd (show b ∈ ([] : List Addr) from z) (by simp)) (by simp)
    | some u =>
     rcases hO b with z | ⟨ob, xs, z⟩
     ·rw [q] at z; cases z
     ·have z2 := un.frzs b ob _ z
      obtain ⟨e1, _⟩ := hok b _ z
      obtain ⟨e2, _⟩ := hok' b _ z2
      rw [e] at e1; cases e1
      exact e2
 cases hk : K.lookup a with
 | some o =>
  have e := KX a o hk
  rw [ha] at e
  cases e
  refine core (fun _ => none) (fun _ => .inl rfl) (.inr ⟨_, vs.toArray, _, hk, rfl, rfl, rfl, by rw [Zh, lenV]; exact hl, by simpa using rv⟩) (fun b u z => by have z' : (none : Option HO) = some u := z; cases z') (fun b z => absurd rfl z) fun z => absurd rfl z
 | none =>
  refine core (fun b => if b = a then some (.frz { cls := .type "list", data := .seq vs.toArray } (.lst (ns.map V.int))) else none) (fun b => ?_) (.inl (.inr ⟨{ cls := .type "list", data := .seq vs.toArray }, if_pos rfl⟩)) (fun b u z => ?_) (fun b z => ?_) fun _ => hk
  ·by_cases hb : b = a
   ·exact .inr ⟨_, _, if_pos hb⟩
   ·exact .inl (if_neg hb)
  ·by_cases hb : b = a
   ·have z' := (if_pos hb).symm.trans z
    cases z'
    subst hb
    exact ⟨ha, by rw [Za]; exact hl, vs, _, rv, ha⟩
   ·have z' := (if_neg hb).symm.trans z
    cases z'
  ·by_cases hb : b = a
   ·exact hb
   ·exact absurd (if_neg hb) z
theorem UK {l : PySem.W.OpenLaw} {n k : Nat} {q : Program} {loose : List Str} {XP : (Str → Option Value) → Heap → Prop} {YP : World → Heap → Prop} {d : DefRec} {K : Params → PySem.W.Frag} {CX : World → CXT} {sp : World → Sp} {x : Str}
  (hn : l.most = some n) (hn2 : n ≤ sizeLine) (hdf : d.params.defaults = []) (hr : WO k callerA)
  (hY : ∀ (w : World) (h : Heap), YP w h → (K w.params).In h)
  (F : ∀ (w : World) (mg : Str → Option Value) (fa : Addr) (h : Heap), (K w.params).In h → h.Ns mainGlobals mg → mg d.name = some (.ref fa) →
   ∃ fd : FuncData, (∀ (s : Shared) (u : Value), BindsTo s fd ⟨[u], []⟩ [(x, u)]) ∧
    ∀ base : Heap, (K w.params).In base → base.Ns mainGlobals mg → ZH l.prog w (K w.params) mg base (CX w) k fa fd [x] (sp w))
  (hsp : ∀ (w : World) (H : Hp) (a : Addr) (ns : List Int), ns.length ≤ n → Zkf H → Wp (K w.params) H a (ns.map V.int) → sp w [.ref a] H (fun v _ => v = .bl true) fun _ _ _ => False)
  (hCX : ∀ (w : World) (H : Hp) (s : Shared) (e : Value) (s' : Shared), CX w [] H s (fun _ _ _ => False) e s' → False) :
  PySem.W.WalkO q loose XP YP l.row.toRowW d [] (fun f vs => PySem.call f vs) := by
 refine Att.ZbE hn hdf fun w s₀ s₁ mg mb fa o pm cd doc a vs ns G Y ho hd hcd hmg hobj hints hlen hg => ?_
 have KX := hY w _ Y
 obtain ⟨fd, hb, hF⟩ := F w mg fa _ KX G.T.g hmg
 exact ZfZ KX G.T.g G.T.b G.T.builtins G.T.nolimit hg hobj hints (Nat.le_trans hlen hn2) hr hF hb (fun H hO hS => hsp w H a ns hlen hO hS) fun H e s' => hCX w H s₁ e s'
def Y6 (s : Stmt) : Arguments := match s with
 | .FunctionDef _ a _ _ _ _ _ _ _ _ => a
 | _ => { posonlyargs := [], args := [], vararg := none, kwonlyargs := [], kw_defaults := [], kwarg := none, defaults := [] }
def YT (s : Stmt) : List Stmt := match s with
 | .FunctionDef _ _ b _ _ _ _ _ _ _ => b
 | _ => []
def ZQ (s : Stmt) : Scope := match s with
 | .FunctionDef _ _ _ _ _ _ sc _ _ _ => sc
 | _ => { kind := .function, names := [], isGenerator := false, isCoroutine := false }
abbrev ZL : CXT := fun _ _ _ _ _ _ => False
abbrev E0 : XK := fun _ _ _ => False
theorem Zu {X : Cx} : Zas ZL X E0 := fun _ _ _ _ _ _ _ h => h.elim
structure YL (K : PySem.W.Frag) (x qual : Str) (st : Stmt) (f : Addr) (fd : FuncData) : Prop where
 ex : ∃ (oc : Value) (od : Option Addr) (kV doc pm : Value) (an : Option Addr) (cdv ct : Value) (osl : Array (Option Value)),
  fd = PySem.W.fnOf x qual (Y6 st) (YT st) (ZQ st) .none kV doc pm an cdv ct ∧ K.lookup f = some ⟨oc, od, .func fd, osl⟩ ∧ PySem.W.codeIn K cdv qual = true
 kp : PySem.W.keepIn K (.ref f) = true
section
variable {P : Program} {w : World} {K : PySem.W.Frag} {mg : Str → Option Value} {base : Heap}
theorem YL.ok {x qual : Str} {st : Stmt} {f : Addr} {fd : FuncData} {N ps : List Str} {k : Nat} {sp : Sp} (F : YL K x qual st f fd) (S : XY N ps (ZQ st)) (len : ∀ vs H Q E, sp vs H Q E → vs.length = ps.length)
  (hbody : ∀ (cdv : Value) (A : Around) (outer : List Env) (s : Shared) (H : Hp) (vs : List V) (Q : VK) (E : XK), WO k (A.deeper (envOfC qual (ZQ st) s.heap.objs.size f cdv)) → sp vs H Q E →
   ∃ t, PSs (Zej ZL P w K mg base N qual (ZQ st) f cdv A outer s H E).nox (YT st) t ∧ t { nx := fun _ H' => Q .non H', rt := Q } (start N vs) H) : ZH P w K mg base ZL (k + 1) f fd ps sp := by
 obtain ⟨oc, od, kV, doc, pm, an, cdv, ct, osl, rfl, lk, hcd⟩ := F.ex
 refine Zlt lk hcd S len fun A outer s H vs Q E hr hsp => ?_
 obtain ⟨t, h, q⟩ := hbody cdv A outer s H vs Q E hr hsp
 exact ⟨t, h.nox, q⟩
theorem YL.binds {x qual : Str} {st : Stmt} {f : Addr} {fd : FuncData} {ps : List Str} (F : YL K x qual st f fd)
  (h : ∀ (kV doc pm : Value) (an : Option Addr) (cdv ct : Value) (us : List Value), us.length = ps.length → bindArgs (PySem.W.fnOf x qual (Y6 st) (YT st) (ZQ st) .none kV doc pm an cdv ct) ⟨us, []⟩ = pure (ps.zip us)) : UI K fd ps [] := by
 obtain ⟨oc, od, kV, doc, pm, an, cdv, ct, osl, rfl, lk, hcd⟩ := F.ex
 exact .all (h kV doc pm an cdv ct)
theorem Zcf {x qual : Str} {st : Stmt} {f : Addr} {oc : Value} {od an : Option Addr} {osl : Array (Option Value)} {kV doc pm cdv ct : Value} (l : K.lookup f = some ⟨oc, od, .func (PySem.W.fnOf x qual (Y6 st) (YT st) (ZQ st) .none kV doc pm an cdv ct), osl⟩)
  (c : PySem.W.codeIn K cdv qual = true) (k : PySem.W.keepIn K (.ref f) = true) : YL K x qual st f (PySem.W.fnOf x qual (Y6 st) (YT st) (ZQ st) .none kV doc pm an cdv ct) := ⟨⟨oc, od, kV, doc, pm, an, cdv, ct, osl, rfl, l, c⟩, k⟩
end
section
variable {X : Cx}
end
theorem YS {c A B : Prop} [Decidable c] (h1 : c → A) (h2 : ¬ c → B) : if c then A else B := by
 by_cases h : c
 ·rw [if_pos h]
  exact h1 h
 ·rw [if_neg h]
  exact h2 h
def Same (H H' : Hp) : Prop := ∀ b o, H b = some o → H' b = some o
theorem Same.refl (H : Hp) : Same H H := fun _ _ h => h
theorem Same.trans {H H1 H2 : Hp} (a : Same H H1) (b : Same H1 H2) : Same H H2 := fun c o h => b c o (a c o h)
theorem Same.free {H H' : Hp} (e : Same H H') {l : Addr} (h : H' l = Option.none) : H l = Option.none := by
 cases q : H l with
 | none => rfl
 | some o =>
  rw [e l o q] at h
  cases h
theorem Same.seq {K : PySem.W.Frag} {H H' : Hp} {a : Addr} {xs : List V} (e : Same H H') (h : Wp K H a xs) : Wp K H' a xs := by
 rcases h with (h | ⟨o, h⟩) | h
 ·exact .inl (.inl (e _ _ h))
 ·exact .inl (.inr ⟨o, e _ _ h⟩)
 ·exact .inr h
section
variable {κ : Type} [DecidableEq κ]
def WF (kvs : List (κ × V)) (k : κ) : Option V := (kvs.find? fun kv => decide (kv.1 = k)).map (·.2)
def Wv (kvs : List (κ × V)) (k : κ) (v : V) : List (κ × V) :=
 if (kvs.any fun kv => decide (kv.1 = k)) = true then kvs.map (fun kv => if kv.1 = k then (kv.1, v) else kv) else kvs ++ [(k, v)]
theorem XZ {p : κ × V} {r : List (κ × V)} {k : κ} (e : p.1 = k) : WF (p :: r) k = some p.2 := by simp [WF, List.find?_cons, e]
theorem X3 {p : κ × V} {r : List (κ × V)} {k : κ} (e : ¬ p.1 = k) : WF (p :: r) k = WF r k := by simp [WF, List.find?_cons, e]
theorem W5 (k : κ) : ∀ kvs : List (κ × V), (kvs.any fun kv => decide (kv.1 = k)) = (WF kvs k).isSome
 | [] => rfl
 | p :: r => by
  rw [List.any_cons]
  by_cases e : p.1 = k
  ·simp only [XZ e, decide_eq_true e, Bool.true_or, Option.isSome_some]
  ·rw [X3 e, decide_eq_false e, Bool.false_or]; exact W5 k r
theorem Je (kvs : List (κ × V)) (k : κ) (v : V) : (Wv kvs k v).length ≤ kvs.length + 1 := by
 unfold Wv
 split
 ·rw [Za]; omega
 ·rw [Zd, Zi, List.length_nil]; omega
theorem Zfm {kvs : List (κ × V)} {k : κ} (v : V) (h : WF kvs k = none) : Wv kvs k v = kvs ++ [(k, v)] := by
 unfold Wv
 rw [W5, h]
 exact if_neg (by decide)
theorem VS.isSome_eq {o : Option V} {u : Option Value} (r : VS o u) : o.isSome = u.isSome := by
 cases o with
 | none => cases u with
  | none => rfl
  | some _ => exact (show False from r).elim
 | some _ => cases u with
  | none => exact (show False from r).elim
  | some _ => rfl
theorem KV.val {kvs : List (κ × V)} {vs : List (κ × Value)} (r : KV kvs vs) (k : κ) : VS (WF kvs k) (valueAt vs k) := by
 unfold KV at r
 induction r with
 | nil => exact True.intro
 | @cons p q ps qs h t ih =>
  obtain ⟨h1, h2⟩ := h
  by_cases e : p.1 = k
  ·have e' : q.1 = k := h1.symm.trans e
   have b : valueAt (q :: qs) k = some q.2 := by simp [valueAt, List.find?_cons, e']
   rw [XZ e, b]; exact h2
  ·have e' : ¬ q.1 = k := fun z => e (h1.trans z)
   have b : valueAt (q :: qs) k = valueAt qs k := by simp [valueAt, List.find?_cons, e']
   rw [X3 e, b]; exact ih
theorem KV.any {kvs : List (κ × V)} {vs : List (κ × Value)} (r : KV kvs vs) (k : κ) : (kvs.any fun kv => decide (kv.1 = k)) = vs.any fun kv => decide (kv.1 = k) := by
 unfold KV at r
 induction r with
 | nil => rfl
 | cons h t ih => rw [List.any_cons, List.any_cons, ih, h.1]
theorem KV.repl {kvs : List (κ × V)} {vs : List (κ × Value)} (r : KV kvs vs) (k : κ) {y : V} {u : Value} (ry : ZE y u) :
  KV (kvs.map fun kv => if kv.1 = k then (kv.1, y) else kv) (vs.map fun kv => if kv.1 = k then (kv.1, u) else kv) := by
 unfold KV at r ⊢
 induction r with
 | nil => exact .nil
 | @cons p q ps qs h t ih =>
  rw [List.map_cons, List.map_cons]
  refine .cons ?_ ih
  obtain ⟨h1, h2⟩ := h
  by_cases e : p.1 = k
  ·rw [if_pos e, if_pos (h1.symm.trans e)]; exact ⟨h1, ry⟩
  ·rw [if_neg e, if_neg (fun z => e (h1.trans z))]; exact ⟨h1, h2⟩
theorem KV.put {kvs : List (κ × V)} {vs : List (κ × Value)} (r : KV kvs vs) (k : κ) {y : V} {u : Value} (ry : ZE y u) : KV (Wv kvs k y) (stored vs k u) := by
 unfold Wv stored
 rw [r.any k]
 by_cases e : (vs.any fun kv => decide (kv.1 = k)) = true
 ·rw [if_pos e, if_pos e]; exact r.repl k ry
 ·rw [if_neg e, if_neg e]; exact Paired.snoc r ⟨rfl, ry⟩
theorem KV.keys {kvs : List (κ × V)} {vs : List (κ × Value)} (r : KV kvs vs) : kvs.map (·.1) = vs.map (·.1) := by
 unfold KV at r
 induction r with
 | nil => rfl
 | cons h t ih => rw [List.map_cons, List.map_cons, ih, h.1]
theorem KV.length {kvs : List (κ × V)} {vs : List (κ × Value)} (r : KV kvs vs) : kvs.length = vs.length := Paired.length r
end
theorem Zbh {P : Program} {w : World} {k : Z9} {u : Value} (r : ZE (kV k) u) : (ZX P w).is k u = true := by
 cases k with
 | inl i => obtain ⟨t, e⟩ := (show ∃ t, u = Value.int i t from r); subst e; exact Zba P w i t
 | inr x => obtain ⟨t, e⟩ := (show ∃ t, u = Value.str x t from r); subst e; exact Za9 P w x t
theorem Ut {P : Program} {w : World} : ∀ {ks : List Z9} {us : List Value}, Zz (ks.map kV) us → ItemsAre (ZX P w) ks us
 | [], _, r => by rw [List.map_nil] at r; cases r; exact .nil
 | k :: ks, _, r => by
  rw [List.map_cons] at r
  cases r with
  | cons h t => exact .cons (Zbh h) (Ut t)
abbrev KT (H : Hp) : List (List Z9 × V) → List (List Z9 × Addr × Value) → Prop := Paired fun p q => p.1 = q.1 ∧ H q.2.1 = some (.tup (p.1.map kV)) ∧ ZE p.2 q.2.2
theorem KT.val {H : Hp} {kvs : List (List Z9 × V)} {xs : List (List Z9 × Addr × Value)} (r : KT H kvs xs) (k : List Z9) : VS (WF kvs k) ((atKey xs k).map (·.2)) := by
 induction r with
 | nil => exact True.intro
 | @cons p q ps qs h t ih =>
  obtain ⟨h1, _, h2⟩ := h
  by_cases e : p.1 = k
  ·have e' : q.1 = k := h1.symm.trans e
   have b : atKey (q :: qs) k = some q.2 := by simp [atKey, List.find?_cons, e']
   rw [XZ e, b]; exact h2
  ·have e' : ¬ q.1 = k := fun z => e (h1.trans z)
   have b : atKey (q :: qs) k = atKey qs k := by simp [atKey, List.find?_cons, e']
   rw [X3 e, b]; exact ih
theorem KT.repl {H : Hp} {kvs : List (List Z9 × V)} {xs : List (List Z9 × Addr × Value)} (r : KT H kvs xs) (k : List Z9) {y : V} {u : Value} (ry : ZE y u) :
  KT H (kvs.map fun kv => if kv.1 = k then (kv.1, y) else kv) (xs.map (putAt k u)) := by
 induction r with
 | nil => exact .nil
 | @cons p q ps qs h t ih =>
  rw [List.map_cons, List.map_cons]
  refine .cons ?_ ih
  obtain ⟨h1, h2, h3⟩ := h
  unfold putAt
  by_cases e : p.1 = k
  ·rw [if_pos e, if_pos (h1.symm.trans e)]; exact ⟨h1, h2, ry⟩
  ·rw [if_neg e, if_neg (fun z => e (h1.trans z))]; exact ⟨h1, h2, h3⟩
theorem KT.put {H : Hp} {kvs : List (List Z9 × V)} {xs : List (List Z9 × Addr × Value)} (r : KT H kvs xs) (k : List Z9) {b : Addr} {y : V} {u : Value} (hb : H b = some (.tup (k.map kV))) (ry : ZE y u) :
  KT H (Wv kvs k y) (storedH xs k b u) := by
 have e : (kvs.any fun kv => decide (kv.1 = k)) = (atKey xs k).isSome := by
  rw [W5, (r.val k).isSome_eq, Option.isSome_map]
 unfold Wv storedH
 rw [e]
 by_cases q : (atKey xs k).isSome = true
 ·rw [if_pos q, if_pos q]; exact r.repl k ry
 ·rw [if_neg q, if_neg q]; exact Paired.snoc r ⟨rfl, hb, ry⟩
theorem KT.keeps {H H' : Hp} {kvs : List (List Z9 × V)} {xs : List (List Z9 × Addr × Value)} (r : KT H kvs xs) (ht : ∀ b ys, H b = some (.tup ys) → H' b = some (.tup ys)) : KT H' kvs xs :=
 Paired.mapP r fun _ _ z => ⟨z.1, ht _ _ z.2.1, z.2.2⟩
section
variable {P : Program} {w : World} {H : Hp} {h : Heap} {a : Addr}
theorem Ziz {u : HO} (ok : JQ P w H h) (e : Rd H a u) : ZS P w H h a u := e.ok ok
theorem Zbr {kvs : List (Z9 × V)} (ok : JQ P w H h) (e : Rd H a (.dK kvs)) : kvs.length ≤ sizeLine ∧ (a == sysModules) = false ∧ ∃ vs, KV kvs vs ∧ h.DictOf (ZX P w) a vs :=
 show ZS P w H h a (.dK kvs) from Ziz ok e
theorem Zbs {kvs : List (Z9 × V)} (ok : JQ P w H h) (e : H a = some (.dK kvs)) : kvs.length ≤ sizeLine ∧ (a == sysModules) = false ∧ ∃ vs, KV kvs vs ∧ h.DictOf (ZX P w) a vs := Zbr ok (.inl e)
theorem Zab {ks : List Z9} (ok : JQ P w H h) (e : H a = some (.tup (ks.map kV))) : (tupleKind (ZX P w)).is h ks a := by
 obtain ⟨_, its, r, o, h1, h2, n, h3⟩ := (show ZS P w H h a (.tup (ks.map kV)) from ok a _ e)
 exact ⟨o, its.toArray, n, h1, h2, h3, by simpa using Ut r⟩
theorem Zbq {kvs : List (List Z9 × V)} (ok : JQ P w H h) (e : Rd H a (.dT kvs)) : kvs.length ≤ sizeLine ∧ (a == sysModules) = false ∧
  ∃ xs, KT H kvs xs ∧ h.DictOfH (tupleKind (ZX P w)) a xs := by
 obtain ⟨z, y, xs, r, o, es, ep, h1, h2, h3, h4, h5⟩ := (show ZS P w H h a (.dT kvs) from Ziz ok e)
 refine ⟨z, y, xs, r, o, es, ep, h1, h2, h3, h4, fun x hx => ?_, h5⟩
 have all : ∀ {l : List (List Z9 × V)} {m : List (List Z9 × Addr × Value)}, KT H l m → ∀ x ∈ m, (tupleKind (ZX P w)).is h x.1 x.2.1 := by
  intro l m q
  induction q with
  | nil => intro x hx; exact nomatch hx
  | @cons p q ps qs hq t ih =>
   intro x hx
   rcases List.mem_cons.mp hx with e | hx
   ·subst e
    exact Zab ok (by rw [← hq.1]; exact hq.2.1)
   ·exact ih x hx
 exact all r x hx
theorem Zly {kvs : List (List Z9 × V)} (ok : JQ P w H h) (e : H a = some (.dT kvs)) : kvs.length ≤ sizeLine ∧ (a == sysModules) = false ∧
  ∃ xs, KT H kvs xs ∧ h.DictOfH (tupleKind (ZX P w)) a xs := Zbq ok (.inl e)
end
def W3 (H : Hp) (a : Addr) (y : V) (r : Option V) : Prop :=
 (∃ kvs k, Rd H a (.dK kvs) ∧ y = kV k ∧ r = WF kvs k) ∨ ∃ kvs k b, Rd H a (.dT kvs) ∧ y = .ref b ∧ H b = some (.tup (k.map kV)) ∧ r = WF kvs k
def XA (H : Hp) (a : Addr) (y v : V) (H' : Hp) : Prop :=
 (∃ kvs k, H a = some (.dK kvs) ∧ y = kV k ∧ kvs.length < sizeLine ∧ H' = upd H a (.dK (Wv kvs k v))) ∨
 ∃ kvs k b, H a = some (.dT kvs) ∧ y = .ref b ∧ H b = some (.tup (k.map kV)) ∧ kvs.length < sizeLine ∧ H' = upd H a (.dT (Wv kvs k v))
theorem W3.k {H : Hp} {a : Addr} {kvs : List (Z9 × V)} {k : Z9} (e : H a = some (.dK kvs)) : W3 H a (kV k) (WF kvs k) := .inl ⟨kvs, k, .inl e, rfl, rfl⟩
theorem W3.t {H : Hp} {a b : Addr} {kvs : List (List Z9 × V)} {k : List Z9} (e : H a = some (.dT kvs)) (eb : H b = some (.tup (k.map kV))) : W3 H a (.ref b) (WF kvs k) := .inr ⟨kvs, k, b, .inl e, rfl, eb, rfl⟩
theorem XA.k {H : Hp} {a : Addr} {kvs : List (Z9 × V)} {k : Z9} {v : V} (e : H a = some (.dK kvs)) (hl : kvs.length < sizeLine) : XA H a (kV k) v (upd H a (.dK (Wv kvs k v))) := .inl ⟨kvs, k, e, rfl, hl, rfl⟩
theorem XA.t {H : Hp} {a b : Addr} {kvs : List (List Z9 × V)} {k : List Z9} {v : V} (e : H a = some (.dT kvs)) (eb : H b = some (.tup (k.map kV))) (hl : kvs.length < sizeLine) :
  XA H a (.ref b) v (upd H a (.dT (Wv kvs k v))) := .inr ⟨kvs, k, b, e, rfl, eb, hl, rfl⟩
section
variable {X : Cx} {pins : List (Addr × Obj)} {σ : St} {H : Hp} {s : Shared} {a : Addr} {y v : V} {u r : Value} {o : Option V} {A : Around} {E : Value → Shared → Prop}
theorem Zv.big (I : Zv X pins σ H s) : sysModules < s.heap.objs.size := by
 have h : mainGlobals < s.heap.objs.size := (I.mod.glob.keeps I.bk).lt
 exact Nat.lt_trans (by decide) h
theorem Zei {Q : Value → Shared → Prop} (hu : A.units + 1 < cLine) (I : Zv X pins σ H s) (g : W3 H a y (some v)) (ry : ZE y u) (h : ∀ w' s', Zv X pins σ H s' → ZE v w' → Q w' s') :
  wpAny (model X.prog X.w) A (getItem (.ref a) u) Q E s := by
 rcases g with ⟨kvs, k, e, ey, l⟩ | ⟨kvs, k, b, e, ey, eb, l⟩
 ·subst ey
  obtain ⟨z, hd, vs, rel, dd⟩ := Zbr I.hok e
  obtain ⟨w', hw, rw'⟩ := VS.some_of (v := v) (o := valueAt vs k) (by rw [l]; exact rel.val k)
  exact wpAny_getItem_of (Zbh ry) dd.mapOf hw (h w' _ (I.tok _) rw')
 ·subst ey
  cases (show u = Value.ref b from ry)
  obtain ⟨z, hd, xs, rel, dd⟩ := Zbq I.hok e
  obtain ⟨w', hw, rw'⟩ := VS.some_of (v := v) (o := (atKey xs k).map (·.2)) (by rw [l]; exact rel.val k)
  obtain ⟨p, hp, hp2⟩ := Option.map_eq_some_iff.mp hw
  refine wpAny_getItem_heap (tupleKind_room_in1 hu) (Zab I.hok eb) dd hp ?_
  rw [hp2]
  exact h w' _ (I.tok _) rw'
theorem ZhU {Q : Value → Shared → Prop} (hu : A.units + 1 < cLine) (I : Zv X pins σ H s) (g : W3 H a y o) (ry : ZE y u) (h : ∀ s', Zv X pins σ H s' → Q (.bool (!o.isSome)) s') :
  wpAny (model X.prog X.w) A (compareOp .NotIn u (.ref a)) Q E s := by
 rcases g with ⟨kvs, k, e, ey, l⟩ | ⟨kvs, k, b, e, ey, eb, l⟩
 ·subst ey
  obtain ⟨z, hd, vs, rel, dd⟩ := Zbr I.hok e
  refine wpAny_notIn_of (Zbh ry) hd dd.mapOf ?_
  rw [← (rel.val k).isSome_eq, ← l]
  exact h _ (I.tok _)
 ·subst ey
  cases (show u = Value.ref b from ry)
  obtain ⟨z, hd, xs, rel, dd⟩ := Zbq I.hok e
  refine wpAny_notIn_heap (tupleKind_room_in1 hu) (Zab I.hok eb) hd dd ?_
  have q := (rel.val k).isSome_eq
  rw [Option.isSome_map] at q
  rw [← q, ← l]
  exact h _ (I.tok _)
theorem XX {h' : Heap} {t' : Nat} {ob : HO} (I : Zv X pins σ H s) (mu : Mut (H a)) (hs : Heap.SameBut a s.heap h') (he : ∃ q, h'.get? a = some q) (new : ZS X.prog X.w (upd H a ob) h' a ob) :
  Zv X pins σ (upd H a ob) { s with heap := h', toks := t' } :=
 I.write (x := a) (e := a) mu (.inl rfl) (fun b q hb z => (hs.2 b hb).trans z) he new
theorem Zci {P : Program} {w : World} {H' : Hp} {h' : Heap} {kvs : List (Z9 × V)} {vs : List (Z9 × Value)} (z : kvs.length ≤ sizeLine) (hd : (a == sysModules) = false) (rel : KV kvs vs) (dd : h'.DictOf (ZX P w) a vs) :
  ZS P w H' h' a (.dK kvs) := ⟨z, hd, vs, rel, dd⟩
theorem Zeh {H' : Hp} {Q : Unit → Shared → Prop} (hu : A.units + 1 < cLine) (I : Zv X pins σ H s) (g : XA H a y v H') (ry : ZE y u) (rv : ZE v r) (h : ∀ s', Zv X pins σ H' s' → Q () s') :
  wpAny (model X.prog X.w) A (setItem (.ref a) u r) Q E s := by
 rcases g with ⟨kvs, k, e, ey, l, eH⟩ | ⟨kvs, k, b, e, ey, eb, l, eH⟩
 ·subst ey eH
  obtain ⟨z, hd, vs, rel, dd⟩ := Zbs I.hok e
  have hz : vs.length ≤ sizeLine := by rw [← rel.length]; exact z
  have hl : (Wv kvs k v).length ≤ sizeLine := by have := Je kvs k v; omega
  refine wpAny_setItem_pairs (hsz := hz) (Zbh ry) dd fun h' dd' hs => h _ ?_
  have he : ∃ q, h'.get? a = some q := let ⟨q, _, _, hq, _⟩ := dd'; ⟨q, hq⟩
  exact XX I (by rw [e]; exact True.intro) hs he (Zci hl hd (rel.put k rv) dd')
 ·subst ey eH
  cases (show u = Value.ref b from ry)
  obtain ⟨z, hd, xs, rel, dd⟩ := Zly I.hok e
  have hz : xs.length ≤ sizeLine := by rw [← Paired.length rel]; exact z
  have hl : (Wv kvs k v).length ≤ sizeLine := by have := Je kvs k v; omega
  refine wpAny_setItem_heap (hsz := hz) (tupleKind_room_in1 hu) (Zab I.hok eb) dd fun h' dd' hs => h _ ?_
  obtain ⟨q, es, ep, hq, h2, h3, h4, _, h5⟩ := dd'
  refine XX I (by rw [e]; exact True.intro) hs ⟨q, hq⟩ ⟨hl, hd, _, (rel.put k eb rv).keeps fun c ys ec => ?_, q, es, ep, hq, h2, h3, h4, h5⟩
  rw [Zt (Zlk ec e (fun z => nomatch z))]
  exact ec
end
section
variable {X : Cx} {pins : List (Addr × Obj)} {σ : St} {H : Hp} {s : Shared} {a : Addr} {kvs : List (Z9 × V)} {k : Z9} {u : Value} {A : Around} {E : Value → Shared → Prop}
end
def ZlQ (i : Expr) : Prop := ∀ ov iv, subscripted i false ov iv = operate [ov, iv] (getItem ov iv)
theorem ZgP {prog : Program} {w : World} {A : Around} {E : Value → Shared → Prop} {s : Shared} {env : Env} {value slice : Expr} {pos : Pos} {T id : String} {Q : Value → Shared → Prop}
  (hl : typeLookup (.type T) "__getitem__" = pure (some (.builtin id))) (hs : ZlQ slice)
  (h : wpAny (model prog w) A (eval value env) (fun o s₁ => wpAny (model prog w) A (eval slice env) (fun i s₂ => s₂.TypeIs o T ∧ wpAny (model prog w) A (getItem o i) Q E s₂) E s₁) E s) :
  wpAny (model prog w) A (eval (.Subscript value slice pos) env) Q E s := by
 refine Subscript_ (wpAny_mono h (fun o s₁ h₁ => wpAny_mono h₁ (fun i s₂ h₂ => ?_) fun _ _ x => x) fun _ _ x => x)
 obtain ⟨hT, h₂⟩ := h₂
 unfold subscriptTail
 refine wpAny_bind ?_
 rw [getitemInPython_of_ne hT.not_modules]
 refine wpAny_bind (wpAny_specialOf hT hl ?_)
 have fin : wpAny (model prog w) A (subscripted slice false o i) (fun r s₃ => wpAny (model prog w) A (letTemporaryGo value o r >>= fun _ => pure r) Q E s₃) E s₂ := by
  rw [hs o i]
  exact wpAny_operating (wpAny_mono h₂ (fun r s₃ h₃ => wpAny_bind (wpAny_letTemporaryGo (wpAny_pure h₃))) fun _ _ x => x)
 first
  | exact wpAny_pure (wpAny_bind fin)
  | exact wpAny_bind (wpAny_pure (wpAny_bind fin))
  | exact wpAny_bind fin
theorem Zbu {X : Cx} {pins : List (Addr × Obj)} {σ : St} {H : Hp} {s : Shared} {a : Addr} {y : V} {o : Option V} (I : Zv X pins σ H s) (g : W3 H a y o) : s.TypeIs (.ref a) "dict" := by
 rcases g with ⟨kvs, k, e, _, _⟩ | ⟨kvs, k, b, e, _, _, _⟩
 ·obtain ⟨_, _, vs, _, dd⟩ := Zbr I.hok e
  exact dd.typeIs
 ·obtain ⟨_, _, xs, _, dd⟩ := Zbq I.hok e
  exact dd.typeIs
def ZkL (td ty : TE) : TE := fun σ H Q => td σ H fun x H1 => ty σ H1 fun y H2 => ∃ a v, x = .ref a ∧ W3 H2 a y (some v) ∧ Q v H2
def ZgN (ty td : TE) : TE := fun σ H Q => ty σ H fun y H1 => td σ H1 fun x H2 => ∃ a o, x = .ref a ∧ W3 H2 a y o ∧ Q (.bl (!o.isSome)) H2
def ZkU (td ty tv : TE) : TS := fun D σ H => tv σ H fun v H1 => td σ H1 fun x H2 => ty σ H2 fun y H3 => ∃ a H4, x = .ref a ∧ XA H3 a y v H4 ∧ D.nx σ H4
section
variable {X : Cx} {o i e value : Expr} {pos pos' tpos : Pos} {td ty tv : TE}
theorem Ju (hu : X.A.units + 1 < cLine) (ho : PE X o td) (hi : PE X i ty) (hs : ZlQ i) : PE X (.Subscript o i pos) (ZkL td ty) := by
 intro pins s σ H Q I h
 refine ZgP PySem.F.slot_dict_getitem.lookup hs (ZT (ho pins s σ H _ I h) fun u s1 ⟨x, H1, I1, rx, q1⟩ => ZT (hi pins s1 σ H1 _ I1 q1) fun iv s2 ⟨y, H2, I2, ry, a, v, ex, g, q2⟩ => ?_)
 subst ex
 obtain rfl : u = Value.ref a := rx
 exact ⟨Zbu I2 g, Zei hu I2 g ry fun w' s3 I3 rw' => ⟨v, H2, I3, rw', q2⟩⟩
theorem Ug (hu : X.A.units + 1 < cLine) (hi : PE X i ty) (ho : PE X o td) : PC X .NotIn i o (ZgN ty td) := by
 intro pins s σ H Q I h
 refine ZT (hi pins s σ H _ I h) fun iv s1 ⟨y, H1, I1, ry, q1⟩ => ZT (ho pins s1 σ H1 _ I1 q1) fun u s2 ⟨x, H2, I2, rx, a, ov, ex, g, q2⟩ => ?_
 subst ex
 obtain rfl : u = Value.ref a := rx
 exact ZhU hu I2 g ry fun s3 I3 => ⟨.bl (!ov.isSome), H2, I3, rfl, q2⟩
theorem J1 (hu : X.A.units + 1 < cLine) (ho : PE X o td) (hi : PE X i ty) (hv : PE X value tv) (hs : swapsWith value (some (.Subscript o i pos')) pos.line X.env = pure false) :
  PS X (.Assign [.Subscript o i pos'] value pos) (ZkU td ty tv) := by
 intro pins s σ H D I h
 refine wpAny_Assign_Subscript (ZT (hv pins s σ H _ I h) fun r s1 ⟨v, H1, I1, rv, q1⟩ => ZT (ho pins s1 σ H1 _ I1 q1) fun u s2 ⟨x, H2, I2, rx, q2⟩ => ZT (hi pins s2 σ H2 _ I2 q2) fun iv s3 ⟨y, H3, I3, ry, a, H4, ex, g, q3⟩ => ?_) hs
 subst ex
 obtain rfl : u = Value.ref a := rx
 exact Zeh hu I3 g ry rv fun s4 I4 => ⟨σ, H4, I4, q3⟩
end
theorem Zbt {P : Program} {w : World} {H : Hp} (h : Heap) (hb : sysModules < h.objs.size) : ZS P w H (h.push { cls := .type "dict", data := .dict #[] }) h.objs.size (.dK []) :=
 ⟨Nat.zero_le _, beq_eq_false_iff_ne.mpr (Ne.symm (Nat.ne_of_lt hb)), [], .nil, Heap.DictOf.new h⟩
theorem Zgr {P : Program} {w : World} {H : Hp} (h : Heap) (hb : sysModules < h.objs.size) : ZS P w H (h.push { cls := .type "dict", data := .dict #[] }) h.objs.size (.dT []) :=
 ⟨Nat.zero_le _, beq_eq_false_iff_ne.mpr (Ne.symm (Nat.ne_of_lt hb)), [], .nil, _, #[], 0, Heap.get?_push_size _ rfl, ⟨rfl, rfl, rfl⟩, rfl, rfl, List.nodup_nil⟩
def Zi2 : TE := fun _ H Q => ∀ p, H p = none → Q (.ref p) (upd H p (.dK []))
def Zi1 : TE := fun _ H Q => ∀ p, H p = none → Q (.ref p) (upd H p (.dT []))
section
variable {X : Cx} {pos : Pos}
theorem Vn : PE X (.Dict [] [] pos) Zi2 := fun pins s σ H Q I h =>
 wpAny_Dict_empty ⟨.ref s.heap.objs.size, _, I.laid (a := s.heap.objs.size) (o := .dK []) (t' := s.toks) (fun _ _ q => Heap.get?_push_of_some _ q) (Nat.le_refl _) (Zbt s.heap I.big), rfl, h _ (I.hok.fresh (Nat.le_refl _))⟩
theorem Zfr : PE X (.Dict [] [] pos) Zi1 := fun pins s σ H Q I h =>
 wpAny_Dict_empty ⟨.ref s.heap.objs.size, _, I.laid (a := s.heap.objs.size) (o := .dT []) (t' := s.toks) (fun _ _ q => Heap.get?_push_of_some _ q) (Nat.le_refl _) (Zgr s.heap I.big), rfl, h _ (I.hok.fresh (Nat.le_refl _))⟩
end
def ZbO : List (TE × TE) → St → Hp → (List (V × V) → Hp → Prop) → Prop
 | [], _, H, Q => Q [] H
 | (tk, tv) :: r, σ, H, Q => tk σ H fun x H1 => tv σ H1 fun y H2 => ZbO r σ H2 fun ps H3 => Q ((x, y) :: ps) H3
abbrev VV : List (V × V) → List (Value × Value) → Prop := Paired fun p q => ZE p.1 q.1 ∧ ZE p.2 q.2
def PPs (X : Cx) (pos : Pos) (keys : List (Option Expr)) (values : List Expr) (trs : List (TE × TE)) : Prop :=
 ∀ (pins : List (Addr × Obj)) (s : Shared) (σ : St) (H : Hp) (Q : List (V × V) → Hp → Prop), Zv X pins σ H s → ZbO trs σ H Q →
  wpAny (model X.prog X.w) X.A (evalPairs (pairTrees keys values X.env pos)) (fun vs s' => ∃ ps H', Zv X pins σ H' s' ∧ VV ps vs ∧ Q ps H') X.xe s
theorem Zg4 {X : Cx} {pos : Pos} : PPs X pos [] [] [] := fun pins s σ H Q I h => pairTrees_nil_walk ⟨[], H, I, .nil, h⟩
theorem Vl {X : Cx} {pos : Pos} {k v : Expr} {ks : List (Option Expr)} {vs : List Expr} {tk tv : TE} {trs : List (TE × TE)} (hk : PE X k tk) (hv : PE X v tv) (hr : PPs X pos ks vs trs) :
  PPs X pos (some k :: ks) (v :: vs) ((tk, tv) :: trs) := fun pins s σ H Q I h =>
 pairTrees_cons_walk (ZT (hk pins s σ H _ I h) fun u s1 ⟨x, H1, I1, rx, q1⟩ => ZT (hv pins s1 σ H1 _ I1 q1) fun w2 s2 ⟨y, H2, I2, ry, q2⟩ =>
  ZT (hr pins s2 σ H2 _ I2 q2) fun ws s3 ⟨ps, H3, I3, rel, q3⟩ => ⟨(x, y) :: ps, H3, I3, .cons ⟨rx, ry⟩ rel, q3⟩)
def Y2 (kvs more : List (Z9 × V)) : List (Z9 × V) := more.foldl (fun acc kv => Wv acc kv.1 kv.2) kvs
theorem KV.merge : ∀ {more : List (Z9 × V)} {rs : List (Z9 × Value)} {kvs : List (Z9 × V)} {vs : List (Z9 × Value)}, KV more rs → KV kvs vs → KV (Y2 kvs more) (merged vs rs) := by
 intro more rs kvs vs r
 unfold KV at r
 induction r generalizing kvs vs with
 | nil => intro q; exact q
 | @cons p q ps qs h t ih =>
  intro r0
  have e : KV (Wv kvs p.1 p.2) (stored vs q.1 q.2) := by
   have := r0.put p.1 h.2
   rw [← h.1]; exact this
  exact ih e
theorem WD : ∀ (more kvs : List (Z9 × V)), (Y2 kvs more).length ≤ kvs.length + more.length
 | [], kvs => by show kvs.length ≤ kvs.length + 0; omega
 | p :: r, kvs => by
  have h1 := WD r (Wv kvs p.1 p.2)
  have h2 := Je kvs p.1 p.2
  show (Y2 (Wv kvs p.1 p.2) r).length ≤ _
  rw [Zi]; omega
theorem VN {P : Program} {w : World} : ∀ {kvs : List (Z9 × V)} {ws : List (Value × Value)}, VV (kvs.map fun kv => (kV kv.1, kv.2)) ws → ∃ rs, Carries (ZX P w) ws rs ∧ KV kvs rs
 | [], _, r => by rw [List.map_nil] at r; cases r; exact ⟨[], True.intro, .nil⟩
 | p :: kvs, _, r => by
  rw [List.map_cons] at r
  cases r with
  | @cons a b as bs h t =>
   obtain ⟨rs, c, q⟩ := VN (P := P) (w := w) t
   obtain ⟨b1, b2⟩ := b
   exact ⟨(p.1, b2) :: rs, ⟨Zbh h.1, rfl, c⟩, .cons ⟨rfl, h.2⟩ q⟩
def ZkJ (trs : List (TE × TE)) : TE := fun σ H Q => ∀ p, H p = none → ZbO trs σ (upd H p (.dK [])) fun ps H2 => H2 p = some (.dK []) ∧ ∃ kvs : List (Z9 × V), ps = kvs.map (fun kv => (kV kv.1, kv.2)) ∧ kvs.length ≤ 15 ∧ Q (.ref p) (upd H2 p (.dK (Y2 [] kvs)))
theorem Zhb {X : Cx} {pos : Pos} {keys : List (Option Expr)} {values : List Expr} {trs : List (TE × TE)} (h : PPs X pos keys values trs) (hall : keys.all (·.isSome) = true) (hl : keys.length = values.length) (h0 : keys ≠ [])
  (h15 : keys.length ≤ 15) : PE X (.Dict keys values pos) (ZkJ trs) := by
 intro pins s σ H Q I q
 have hn := I.hok.fresh (Nat.le_refl s.heap.objs.size)
 have I1 := I.laid (a := s.heap.objs.size) (o := .dK []) (h' := s.heap.push { cls := .type "dict", data := .dict #[] }) (t' := s.toks) (fun _ _ q => Heap.get?_push_of_some _ q) (Nat.le_refl _) (Zbt s.heap I.big)
 refine wpAny_Dict_walk (knd := ZX X.prog X.w) hall hl h0 h15 (ZT (h pins _ σ _ _ I1 (q _ hn)) fun ws s2 ⟨ps, H2, I2, rel, e, kvs, ep, lk, q2⟩ => ?_)
 subst ep
 obtain ⟨rs, c, rk⟩ := VN (P := X.prog) (w := X.w) rel
 obtain ⟨z, hd, vs0, r0, dd⟩ := Zbs I2.hok e
 cases r0
 refine ⟨rs, c, dd, fun h' dd' hs => ⟨.ref s.heap.objs.size, _, ?_, rfl, q2⟩⟩
 have hz : (Y2 [] kvs).length ≤ sizeLine := by
  have h1 := WD kvs []
  rw [List.length_nil] at h1
  rw [sizeLine_eq]; omega
 have he : ∃ q, h'.get? s.heap.objs.size = some q := let ⟨q, _, _, hq, _⟩ := dd'; ⟨q, hq⟩
 exact XX I2 (by rw [e]; exact True.intro) hs he (Zci hz hd (rk.merge .nil) dd')
structure M1 (X : Cx) (o : Expr) (m : Str) (apos : Pos) (e : Expr) (cpos : Pos) : Prop where
 base : attributeBase o m X.env (eval o X.env) = eval o X.env
 few : ((backTo cpos (starEach [e] X.env)).all (fun x => !x.1) && (backToKw cpos (keywordEach [] X.env)).all (fun x => x.1.isSome)
  && decide (([e] : List Expr).length + ([] : List Keyword).length + (if ([] : List Keyword).isEmpty then 0 else 1) < 30)) = true
 line : (apos.endLine == cpos.line) = true
 trees : backTo cpos (starEach [e] X.env) = [(false, eval e X.env)]
def IsD (H : Hp) (a : Addr) : Prop := (∃ kvs, Rd H a (.dK kvs)) ∨ ∃ kvs, Rd H a (.dT kvs)
theorem ZjN {X : Cx} {pins : List (Addr × Obj)} {σ : St} {H : Hp} {s : Shared} {a : Addr} (I : Zv X pins σ H s) (d : IsD H a) :
  s.TypeIs (.ref a) "dict" ∧ (∀ b, Value.ref a = .ref b → ∃ ob, s.heap.get? b = some ob ∧ ob.dict = none) ∧ (a == sysModules) = false := by
 rcases d with ⟨kvs, e⟩ | ⟨kvs, e⟩
 ·obtain ⟨_, hd, vs, _, dd⟩ := Zbr I.hok e
  refine ⟨dd.typeIs, fun b q => ?_, hd⟩
  cases q
  obtain ⟨ob, _, _, h1, h2, _⟩ := dd
  exact ⟨ob, h1, h2.2.1⟩
 ·obtain ⟨_, hd, xs, _, dd⟩ := Zbq I.hok e
  refine ⟨dd.typeIs, fun b q => ?_, hd⟩
  cases q
  obtain ⟨ob, _, _, h1, h2, _⟩ := dd
  exact ⟨ob, h1, h2.2.1⟩
section
variable {X : Cx} {pins : List (Addr × Obj)} {σ : St} {H : Hp} {s : Shared} {a : Addr} {y d : V} {u r : Value} {o : Option V} {A : Around} {E : Value → Shared → Prop}
end
section
variable {X : Cx} {o e f : Expr} {apos cpos : Pos} {td ty tx : TE}
end
section
variable {X : Cx} {pins : List (Addr × Obj)} {σ : St} {H : Hp} {s : Shared} {a : Addr} {kvs : List (Z9 × V)} {A : Around} {E : Value → Shared → Prop}
end
section
variable {X : Cx} {pins : List (Addr × Obj)} {σ : St} {H : Hp} {s : Shared} {a : Addr} {y : V} {u : Value} {A : Around} {E : Value → Shared → Prop}
end
end L2
set_option maxHeartbeats 4000000
namespace L2
open PySem PySem.Spec PyProof.Rows
structure WP (N : List Str) (esc : Scope) (own : List Str) (caps : List Nat) (N' : List Str) (sc : Scope) : Prop where
 kind : sc.kind = .function
 ndn : (sc.names.map (·.1)).Nodup
 uniq : ∀ y ∈ sc.names, y.2 = .local → sc.names.lookup y.1 = some .local
 nd : N'.Nodup
 eqN : N' = own ++ caps.map fun j => N.getD j ""
 cap : ∀ j ∈ caps, j < N.length ∧ sc.names.lookup (N.getD j "") = some .free
 fr : ∀ y ∈ sc.names, y.2 = .free → esc.names.lookup y.1 = some .cell ∨ esc.names.lookup y.1 = some .free
def JO (own : List Str) (caps : List Nat) (σ : St) : St := List.replicate own.length none ++ caps.map fun j => (σ[j]?).join
theorem JN {env : Env} : ∀ (names : List (Str × NameKind)) (acc : List (Str × Addr)), (∀ y ∈ names, y.2 = .free → ∃ c, env.cells.lookup y.1 = some c) → (∀ y c, acc.lookup y = some c → env.cells.lookup y = some c) →
  ∃ cl, (forIn names acc (fun x r => if (x.2 == NameKind.free) = true then (do let c ← cellOf env x.1; pure (ForInStep.yield ((x.1, c) :: r))) else pure (ForInStep.yield r)) : Sem (List (Str × Addr))) = pure cl ∧
   (∀ y c, cl.lookup y = some c → env.cells.lookup y = some c) ∧ (∀ y, (∃ c, acc.lookup y = some c) → ∃ c, cl.lookup y = some c) ∧ ∀ y ∈ names, y.2 = .free → ∃ c, cl.lookup y.1 = some c
 | [], acc, _, ha => ⟨acc, rfl, ha, fun _ h => h, fun _ h => absurd h (by simp)⟩
 | (n, k) :: r, acc, hn, ha => by
  rw [List.forIn_cons]
  by_cases hk : k = .free
  ·subst hk
   obtain ⟨c, hc⟩ := hn (n, .free) List.mem_cons_self rfl
   have ha' : ∀ y d, ((n, c) :: acc).lookup y = some d → env.cells.lookup y = some d := fun y d e => by
    rw [List.lookup_cons] at e
    cases q : y == n with
    | true => rw [q] at e; cases e; rw [beq_iff_eq.mp q]; exact hc
    | false => rw [q] at e; exact ha y d e
   obtain ⟨cl, e, h1, h2, h3⟩ := JN r ((n, c) :: acc) (fun y hy => hn y (List.mem_cons_of_mem _ hy)) ha'
   have hh : ∀ y, (∃ d, acc.lookup y = some d) → ∃ d, ((n, c) :: acc).lookup y = some d := fun y ⟨d, hd⟩ => by
    rw [List.lookup_cons]
    cases q : y == n with
    | true => exact ⟨c, rfl⟩
    | false => exact ⟨d, hd⟩
   have hs : ∃ d, ((n, c) :: acc).lookup n = some d := ⟨c, by rw [List.lookup_cons, beq_self_eq_true]⟩
   refine ⟨cl, ?_, h1, fun y hy => h2 y (hh y hy), fun y hy hf => ?_⟩
   ·have hcell : cellOf env n = pure c := by simp only [cellOf, hc]
    simp only [beq_self_eq_true, if_true, hcell]
    simp only [pure_bind]
    exact e
   ·rcases List.mem_cons.mp hy with rfl | hy
    ·exact h2 _ hs
    ·exact h3 y hy hf
  ·obtain ⟨cl, e, h1, h2, h3⟩ := JN r acc (fun y hy => hn y (List.mem_cons_of_mem _ hy)) ha
   refine ⟨cl, ?_, h1, h2, fun y hy hf => ?_⟩
   ·have hb : (k == NameKind.free) = false := by simpa using hk
    simp only [hb, Bool.false_eq_true, if_false, pure_bind]
    exact e
   ·rcases List.mem_cons.mp hy with rfl | hy
    ·exact absurd hf hk
    ·exact h3 y hy hf
theorem VM {scope : Scope} {env : Env} (h : ∀ y ∈ scope.names, y.2 = .free → ∃ c, env.cells.lookup y.1 = some c) :
  ∃ cl, closureFor scope env = pure cl ∧ (∀ y c, cl.lookup y = some c → env.cells.lookup y = some c) ∧ ∀ y ∈ scope.names, y.2 = .free → ∃ c, cl.lookup y.1 = some c := by
 obtain ⟨cl, e, h1, _, h3⟩ := JN (env := env) scope.names [] h (fun y c e => by simp at e)
 refine ⟨cl, ?_, h1, h3⟩
 have q : closureFor scope env = ((forIn scope.names ([] : List (Str × Addr)) (fun x r => if (x.2 == NameKind.free) = true then (do let c ← cellOf env x.1; pure (ForInStep.yield ((x.1, c) :: r))) else pure (ForInStep.yield r)) : Sem (List (Str × Addr))) >>= fun cs => pure cs) := rfl
 rw [q, e]
 rfl
theorem Wz {names : List (Str × NameKind)} {x : Str} {k : NameKind} (h : names.lookup x = some k) : (x, k) ∈ names := PySem.mem_of_lookup h
theorem YO {env : Env} {x : Str} : ∀ {names : List (Str × NameKind)} {k : NameKind},
  (names.map fun (n, k) => if (k == NameKind.free && env.scope.kind == .function && env.kindOf n == some .cell) then (n, NameKind.cell) else (n, k)).lookup x = some k →
  names.lookup x = some k ∨ (k = .cell ∧ names.lookup x = some .free)
 | [], _, h => by simp at h
 | (n, k0) :: r, k, h => by
  have ih := @YO env x r k
  have h : List.lookup x ((if (k0 == NameKind.free && env.scope.kind == .function && env.kindOf n == some .cell) = true then (n, NameKind.cell) else (n, k0)) :: _) = some k := h
  rw [List.lookup_cons]
  by_cases hc : (k0 == NameKind.free && env.scope.kind == .function && env.kindOf n == some .cell) = true
  ·rw [if_pos hc, List.lookup_cons] at h
   have hk0 : k0 = .free := by
    simp only [Bool.and_eq_true, beq_iff_eq] at hc
    exact hc.1.1
   cases q : x == n with
   | true => rw [q] at h; cases h; right; exact ⟨rfl, by rw [hk0]⟩
   | false => rw [q] at h; exact ih h
  ·rw [if_neg hc, List.lookup_cons] at h
   cases q : x == n with
   | true => rw [q] at h; cases h; left; rfl
   | false => rw [q] at h; exact ih h
section
variable {X : Cx}
def Zgz (scope : Scope) (x : Str) : Bool := scope.names.any fun y => y.1 == x && (match y.2 with | .cell => true | _ => false)
theorem Zem {scope : Scope} {x : Str} (h : Zgz scope x = true) : (x, NameKind.cell) ∈ scope.names := by
 unfold Zgz at h
 obtain ⟨⟨n, k⟩, hm, hy⟩ := List.any_eq_true.mp h
 rw [Bool.and_eq_true] at hy
 obtain ⟨h1, h2⟩ := hy
 have e : n = x := by simpa using h1
 subst e
 cases k <;> first | exact hm | cases h2
theorem Xs {x : Str} {k : NameKind} : ∀ {names : List (Str × NameKind)}, (names.map (·.1)).Nodup → (x, k) ∈ names → names.lookup x = some k
 | [], _, h => by cases h
 | (n, k0) :: r, nd, h => by
  rw [List.map_cons, List.nodup_cons] at nd
  rw [List.lookup_cons]
  rcases List.mem_cons.mp h with e | h
  ·cases e
   simp
  ·have : (x == n) = false := by
    refine Bool.eq_false_iff.mpr fun z => nd.1 ?_
    rw [← beq_iff_eq.mp z]
    exact List.mem_map.mpr ⟨_, h, rfl⟩
   rw [this]
   exact Xs nd.2 h
theorem Jz : ∀ (names : List (Str × NameKind)) (n : Nat) (acc : List (Str × Addr)), cellsFrom n names acc = cellsFrom n names [] ++ acc
 | [], n, acc => rfl
 | (x, k) :: r, n, acc => by
  unfold cellsFrom
  by_cases hk : (k == NameKind.cell) = true
  ·rw [if_pos hk, if_pos hk, Jz r (n + 1) ((x, n) :: acc), Jz r (n + 1) [(x, n)], List.append_assoc]
   rfl
  ·rw [if_neg hk, if_neg hk, Jz r n acc]
theorem Xx {x : Str} {c : Addr} : ∀ (names : List (Str × NameKind)) (n : Nat) (acc : List (Str × Addr)), (x, c) ∈ cellsFrom n names acc → (x, NameKind.cell) ∈ names ∨ (x, c) ∈ acc
 | [], n, acc, h => .inr h
 | (y, k) :: r, n, acc, h => by
  unfold cellsFrom at h
  by_cases hk : (k == NameKind.cell) = true
  ·rw [if_pos hk] at h
   rcases Xx r (n + 1) _ h with z | z
   ·exact .inl (List.mem_cons_of_mem _ z)
   ·rcases List.mem_cons.mp z with e | z
    ·cases e
     have : k = .cell := by cases k <;> first | rfl | cases hk
     rw [this]
     exact .inl List.mem_cons_self
    ·exact .inr z
  ·rw [if_neg hk] at h
   rcases Xx r n _ h with z | z
   ·exact .inl (List.mem_cons_of_mem _ z)
   ·exact .inr z
theorem ZhC {M : Model} {A : Around} {E : Value → Shared → Prop} {s : Shared} {scope : Scope} {globals : Addr} {cl : List (Str × Addr)} {qual : Str} {around : Env} {Q : Env → Shared → Prop}
  (hQ : Q (newEnv scope s.heap.objs.size globals (cellsFrom (s.heap.objs.size + 1) scope.names cl) qual none .none (some around) builtinsNs) { s with heap := pushCells (s.heap.push { cls := .type "dict", data := .dict #[] }) scope.names }) :
  wpAny M A (newFunctionEnv scope globals cl [] qual none .none (some around)) Q E s := by
 unfold newFunctionEnv
 refine wpAny_bind (wpAny_alloc ?_)
 refine wpAny_bind (wpAny_layCells _ (fun name kind cells => by cases hkc : kind == NameKind.cell <;> simp [hkc]) _ _ _ _ ?_)
 rw [show ({ s with heap := s.heap.push { cls := .type (if (some around).isSome = true then "dict" else "frame"), data := .dict #[] } } : Shared).heap.objs.size = s.heap.objs.size + 1 from Heap.size_push ..]
 exact wpAny_bind (by rw [List.forIn_nil]; exact wpAny_pure (wpAny_pure hQ))
def Yy (X : Cx) (scope : Scope) (cl : List (Str × Addr)) (N' : List Str) (C : Addr) (s : Shared) (H : Hp) (ex : List Addr) : Cx :=
 { X with N := N', s₀ := s, H₀ := H, env := compEnvC scope cl C X.env, outer := X.stack, ex := ex, fn := Zgz scope, pn := [], xe := fun _ _ => False }
def W0 (own : List Str) (caps : List Nat) (g : TG) (tc : TT) (te : TE) (σ : St) (Q : VK) (J : It) (H1 : Hp) : Prop := ∀ D, H1 D = none →
 ∃ W : Nat → Nat → St → Hp → Prop, (∃ m, W 0 m (JO own caps σ) (upd H1 D (.lst []))) ∧ ∀ i m σ' H', W i m σ' H' →
  (J.stop i H' ∧ Q (.ref D) H') ∨ (J.go i H' ∧ ∃ N : St → Hp → Prop, (∀ σ2 H2, N σ2 H2 → ∃ m', m' < m ∧ W (i + 1) m' σ2 H2) ∧ ∀ x H2, J.yld i H' x H2 → g x σ' H2 fun σ3 H3 => tc σ3 H3 fun b H4 =>
   if b = true then te σ3 H4 fun v H5 => ∃ xs, H5 D = some (.lst xs) ∧ xs.length < sizeLine ∧ N σ3 (upd H5 D (.lst (xs ++ [v]))) else N σ3 H4)
def Zcs (own : List Str) (caps : List Nat) (wi : TI) (g : TG) (tc : TT) (te : TE) : TE := fun σ H Q => wi σ H fun J H1 => W0 own caps g tc te σ Q J H1
def tTrue : TT := fun _ H Q => Q true H
def PIf (X : Cx) (ifs : List Expr) (t : TT) : Prop :=
 ∀ (pins : List (Addr × Obj)) (s : Shared) (σ : St) (H : Hp) (Q : Bool → Hp → Prop), Zv X pins σ H s → t σ H Q →
  wpAny (model X.prog X.w) X.A (forIn ifs true fun c r => if r = true then do let ok ← isTrue c X.env (eval c X.env); pure (ForInStep.yield ok) else pure (ForInStep.yield r)) (TP X pins σ Q) X.xe s
theorem ZK : PIf X [] tTrue := fun _ _ _ H _ I h => wpAny_tests_nil ⟨H, I, h⟩
theorem Jt {c : Expr} {t : TT} (h : PT X c t) : PIf X [c] t := fun pins s σ H Q I q => wpAny_tests_one (h pins s σ H Q I q)
theorem Jk {prog : Program} {w : World} {A : Around} {R : Result → Shared → Prop} {s : Shared} {elt target iter : Expr} {ifs : List Expr} {scope : Scope} {pos : Pos} {it acc : Value} {env : Env} (I : Nat → Shared → Prop)
  (turn : ∀ n s, I n s → wpAny (model prog w) A (pyNext it) (fun r s₁ => match r with
   | none => R (.ok .next) s₁
   | some v => wpAny (model prog w) A (letOwnedTupleGo target it v) (fun _ s₁' => wpAny (model prog w) A (assign target env v) (fun _ s₂ =>
     wpAny (model prog w) A (forIn ifs true fun c r => if r = true then do let ok ← isTrue c env (eval c env); pure (ForInStep.yield ok) else pure (ForInStep.yield r)) (fun ok s₃ =>
      if ok = true then wpAny (model prog w) A (eval elt env) (fun x s₄ =>
       wpAny (model prog w) A (call (.builtin "list.append") [acc, x]) (fun _ s₅ => ∃ m, m < n ∧ I m s₅) (fun _ _ => False) s₄) (fun _ _ => False) s₃
      else ∃ m, m < n ∧ I m s₃) (fun _ _ => False) s₂) (fun _ _ => False) s₁') (fun _ _ => False) s₁) (fun _ _ => False) s)
  (n : Nat) (h : I n s) :
  codeAny (model prog w) A (.compLoop (.ListComp elt [⟨target, iter, ifs, 0⟩] scope pos) 0 it acc env) R s := by
 refine codeAny_loop rfl I (fun n s hI => ?_) n h
 show wpAny _ A ((compTurn (.ListComp elt [⟨target, iter, ifs, 0⟩] scope pos) 0 it acc env).onRaise (fun x => do noteFrame x env; theTreesLotGoes x)) _ _ s
 refine wpAny_noted ?_
 rw [compTurn_list]
 refine wpAny_bind (wpAny_standAt (wpAny_bind (wpAny_mono (turn n s hI) (fun r s₁ h₁ => ?_) fun _ _ h' => h'.elim)))
 cases r with
 | none => exact wpAny_pure h₁
 | some v =>
  refine wpAny_bind (wpAny_mono h₁ (fun _ s₁' h₁' => ?_) fun _ _ h' => h'.elim)
  refine wpAny_bind (wpAny_mono h₁' (fun _ s₂ h₂ => wpAny_bind (wpAny_mono h₂ (fun ok s₃ h₃ => ?_) fun _ _ h' => h'.elim)) fun _ _ h' => h'.elim)
  cases ok with
  | false => exact wpAny_pure ⟨rfl, h₃⟩
  | true =>
   exact wpAny_bind (wpAny_bind (wpAny_mono h₃ (fun x s₄ h₄ => wpAny_bind (wpAny_mono h₄ (fun _ s₅ h₅ => wpAny_pure (wpAny_pure ⟨rfl, h₅⟩)) fun _ _ h' => h'.elim)) fun _ _ h' => h'.elim))
theorem VG {own : List Str} {caps : List Nat} {N' : List Str} {esc scope : Scope} {elt iter tg : Expr} {ifs : List Expr} {pos : Pos} {g : TG} {tc : TT} {te : TE} {cl : List (Str × Addr)}
  (hesc : X.env.scope = esc) (S : WP X.N esc own caps N' scope) (hc : X.calm = true)
  (hcl1 : ∀ y c, cl.lookup y = some c → X.env.cells.lookup y = some c) (hcl2 : ∀ y ∈ scope.names, y.2 = .free → ∃ c, cl.lookup y.1 = some c)
  (hg : ∀ cl C s H ex, PG (Yy X scope cl N' C s H ex) tg g) (ht : ∀ cl C s H ex, PIf (Yy X scope cl N' C s H ex) ifs tc) (he : ∀ cl C s H ex, PE (Yy X scope cl N' C s H ex) elt te)
  {pins : List (Addr × Obj)} {σ : St} {H2 : Hp} {s2 : Shared} {it : Addr} {fp : List Addr} {tn : Nat → Heap → Prop} {J : It} {Q : VK} {RR : Value → Addr → Result → Shared → Prop} {E : Value → Shared → Prop}
  (I2 : Zv X pins σ H2 s2) (T : Zar X.prog X.w X.K tg J fp it tn) (st2 : tn 0 s2.heap) (f2 : ∀ b ∈ fp, V5 X pins H2 b)
  (h : W0 own caps g tc te σ Q J H2)
  (hRR : ∀ D C s' m H', s'.heap.Ns C m → C ≠ X.env.locals → (∀ x c, X.env.cells.lookup x = some c → c ≠ C) → X.s₀.heap.objs.size ≤ C → (∀ p ∈ X.pn ++ pins, p.1 ≠ C) → H' C = none → Q (.ref D) H' → (∀ h', Heap.SameBut C s'.heap h' → Zv X pins σ H' { s' with heap := h' }) → RR (.ref D) C (.ok .next) s') :
  wpAny (model X.prog X.w) X.A (newList []) (fun acc s₃ => wpAny (model X.prog X.w) X.A (newFunctionEnv scope X.env.globals cl [] X.env.qual none .none (some X.env)) (fun cenv s₄ =>
   codeAny (model X.prog X.w) X.A (.compStart (.ListComp elt [⟨tg, iter, ifs, 0⟩] scope pos) 0 (.ref it) acc { cenv with scope := relabel scope X.env }) (RR acc cenv.locals) s₄) E s₃) E s2 := by
 refine wpAny_newObj_type (ZhC ?_)
 dsimp only
 have hD : H2 s2.heap.objs.size = none := I2.hok.fresh (Nat.le_refl _)
 obtain ⟨W, ⟨m0, w0⟩, turn⟩ := h _ hD
 generalize hH3 : s2.heap.push { cls := .type "list", dict := none, data := .seq ([] : List Value).toArray } = g3
 have hC : g3.objs.size = s2.heap.objs.size + 1 := by rw [← hH3, Heap.size_push]
 have old3 : ∀ b o, s2.heap.get? b = some o → g3.get? b = some o := fun b o e => hH3 ▸ Heap.get?_push_of_some _ e
 have I3 : Zv X pins σ (upd H2 s2.heap.objs.size (.lst [])) { s2 with heap := g3, toks := s2.toks } :=
  I2.laid (t' := s2.toks) old3 (Nat.le_refl _) ⟨Nat.zero_le _, [], 0, .nil, hH3 ▸ Heap.get?_push_size _ rfl⟩
 generalize hh1 : pushCells (g3.push { cls := .type "dict", data := .dict #[] }) scope.names = h₁
 have k1 : ∀ b o, g3.get? b = some o → h₁.get? b = some o := fun b o e => hh1 ▸ pushCells_keeps _ _ b o (Heap.get?_push_of_some _ e)
 have hns₁ : h₁.Ns g3.objs.size (fun _ => none) := hh1 ▸ (Heap.Ns.new g3 (.type "dict")).keeps (pushCells_keeps _ _)
 have okA : CellsOk h₁ (g3.objs.size + 1) (cellsFrom (g3.objs.size + 1) scope.names []) := by
  have q := cellsFrom_ok scope.names (g3.push { cls := .type "dict", data := .dict #[] }) (g3.objs.size + 1) [] ⟨fun _ _ hm => (nomatch hm), List.Pairwise.nil⟩ (by rw [Heap.size_push]; exact Nat.le_refl _)
  rw [Heap.size_push, hh1] at q
  exact q
 have hcl' : cellsFrom (g3.objs.size + 1) scope.names cl = cellsFrom (g3.objs.size + 1) scope.names [] ++ cl := Jz _ _ _
 have hsomeA : ∀ y, scope.names.lookup y = some .cell → ∃ c, (cellsFrom (g3.objs.size + 1) scope.names []).lookup y = some c := fun y hy => Option.isSome_iff_exists.mp (PySem.W.cellsFrom_some scope.names (g3.objs.size + 1) [] (.inl hy))
 generalize hcA : cellsFrom (g3.objs.size + 1) scope.names [] = cA at okA hcl' hsomeA
 have memA : ∀ y c, cA.lookup y = some c → (y, NameKind.cell) ∈ scope.names := fun y c e => by
  have := PySem.mem_of_lookup e
  rw [← hcA] at this
  rcases Xx _ _ _ this with z | z
  ·exact z
  ·cases z
 generalize hcE : cellsFrom (g3.objs.size + 1) scope.names cl = cE at hcl'
 have lkE : ∀ y c, cE.lookup y = some c → cA.lookup y = some c ∨ (cA.lookup y = none ∧ cl.lookup y = some c) := fun y c e => by
  rw [hcl', List.lookup_append] at e
  cases q : cA.lookup y with
  | none => rw [q] at e; exact .inr ⟨rfl, by simpa using e⟩
  | some c' => rw [q] at e; exact .inl (by simpa using e)
 have lkF : ∀ y c, scope.names.lookup y = some .free → cl.lookup y = some c → cE.lookup y = some c := fun y c hy e => by
  rw [hcl', List.lookup_append]
  cases q : cA.lookup y with
  | none => simpa using e
  | some c' =>
   have := Xs S.ndn (memA y c' q)
   rw [hy] at this
   cases this
 have fpn : ∀ b ∈ fp, upd H2 s2.heap.objs.size (.lst []) b = none := fun b hb => by
  obtain ⟨o, ho, _⟩ := T.obj _ _ st2 b hb
  rw [Zt (Nat.ne_of_lt (Heap.lt_size ho))]
  exact (f2 b hb).1
 have fplt : ∀ b ∈ fp, b < g3.objs.size := fun b hb => by
  obtain ⟨o, ho, _⟩ := T.obj _ _ st2 b hb
  rw [hC]; exact Nat.lt_succ_of_lt (Heap.lt_size ho)
 generalize hX' : Yy X scope cE N' g3.objs.size { s2 with heap := g3, toks := s2.toks } (upd H2 s2.heap.objs.size (.lst [])) fp = X'
 have hfs : X'.fs = frs X.stack := by rw [← hX']; rfl
 have kindL : ∀ y, X'.env.kindOf y = some .cell ∨ X'.env.kindOf y = some .free → ∃ c, cE.lookup y = some c := fun y hy => by
  have hy' : (relabel scope X.env).names.lookup y = some .cell ∨ (relabel scope X.env).names.lookup y = some .free := by rw [← hX'] at hy; exact hy
  have hf : scope.names.lookup y = some .free → ∃ c, cE.lookup y = some c := fun hf => by
   obtain ⟨c, hc'⟩ := hcl2 _ (Wz hf) rfl
   exact ⟨c, lkF y c hf hc'⟩
  have hcc : scope.names.lookup y = some .cell → ∃ c, cE.lookup y = some c := fun hf => by
   obtain ⟨c, hc'⟩ := hsomeA y hf
   exact ⟨c, by rw [hcl', List.lookup_append, hc']; rfl⟩
  rcases hy' with q | q
  ·rcases YO q with z | z
   ·exact hcc z
   ·exact hf z.2
  ·rcases YO q with z | z
   ·exact hf z
   ·exact absurd z.1 (by decide)
 have cellsX : X'.env.cells = cE := by rw [← hX']; rfl
 have locX : X'.env.locals = g3.objs.size := by rw [← hX']; rfl
 have cne : ∀ x c, cl.lookup x = some c → c ≠ g3.objs.size ∧ c < g3.objs.size := fun x c e => by
  obtain ⟨v, q⟩ := I3.cell x c (hcl1 x c e)
  exact ⟨Nat.ne_of_lt q.lt, q.lt⟩
 have aboveA : ∀ x c, cA.lookup x = some c → g3.objs.size + 1 ≤ c := fun x c e => (okA.empty x c (PySem.mem_of_lookup e)).2
 have injE : ∀ x y c, cE.lookup x = some c → cE.lookup y = some c → x = y := fun x y c a b => by
  rcases lkE x c a with a | ⟨_, a⟩ <;> rcases lkE y c b with b | ⟨_, b⟩
  ·exact name_of_addr okA.apart (PySem.mem_of_lookup a) (PySem.mem_of_lookup b)
  ·have h1 : g3.objs.size + 1 ≤ c := aboveA x c a
   exact absurd (Nat.lt_of_lt_of_le (cne y c b).2 (Nat.le_of_succ_le h1)) (Nat.lt_irrefl _)
  ·have h1 : g3.objs.size + 1 ≤ c := aboveA y c b
   exact absurd (Nat.lt_of_lt_of_le (cne x c a).2 (Nat.le_of_succ_le h1)) (Nat.lt_irrefl _)
  ·exact I3.ok.inj x y c (hcl1 x c a) (hcl1 y c b)
 have ok' : X'.Ok := by
  refine hX' ▸ ⟨I3.ok.mod, S.kind, I3.ok.glob, I3.ok.blt, Nat.le_refl _, injE, ?_, ?cab, I3.ok.hd, I3.ok.frames, .inl rfl, ?_, ?_, ?_, ?_, ?_, I3.stack, I3.stkFree⟩
  ·intro y hy
   exact kindL y (by rw [← hX']; exact hy)
  ·intro x c z e
   have hm := Xs S.ndn (Zem z)
   rcases lkE x c e with e | ⟨n, _⟩
   ·exact Nat.le_of_succ_le (aboveA x c e)
   ·obtain ⟨c', hc'⟩ := hsomeA x hm
    rw [n] at hc'
    cases hc'
  ·intro b hb
   refine ⟨Nat.ne_of_lt (fplt b hb), fun x c e => ?_⟩
   rcases lkE x c e with e | ⟨_, e⟩
   ·have h1 : g3.objs.size + 1 ≤ c := aboveA x c e
    exact fun z => absurd (Nat.lt_of_lt_of_le (fplt b hb) (Nat.le_of_succ_le h1)) (by rw [z]; exact Nat.lt_irrefl _)
   ·exact (f2 b hb).2.2.2.2.1 x c (hcl1 x c e)
  ·exact I3.bs
  ·exact Nat.le_trans I3.ok.bsz I3.sz
  ·intro b o e hb
   rcases (f2 b hb).2.2.2.1 with z | z
   ·exact I3.ok.noex b o e z
   ·exact absurd (Nat.lt_of_lt_of_le (Heap.lt_size e) (Nat.le_trans I3.ok.bsz z)) (Nat.lt_irrefl _)
  ·intro b hb z
   rcases List.mem_cons.mp (I3.stkSub b z) with e | e
   ·exact (f2 b hb).2.1 e
   ·exact (f2 b hb).2.2.1 e
 have I4 : Zv X' [] (JO own caps σ) (upd H2 s2.heap.objs.size (.lst [])) { s2 with heap := h₁, toks := s2.toks } := by
  refine ⟨ok', hX' ▸ rfl, I3.bare, ?_, ⟨_, by rw [locX]; exact hns₁, ?_⟩, ?_, ?_, ?_, ?_, ?_, ?_⟩
  ·rw [← hX']; exact Un.kept k1
  ·intro i x v hN hσ hV
   have hN' : N'[i]? = some x := by rw [← hX'] at hN; exact hN
   unfold JO at hσ
   by_cases hi : i < own.length
   ·rw [List.getElem?_append_left (by simpa using hi), List.getElem?_replicate] at hσ
    rw [if_pos hi] at hσ; cases hσ
   ·rw [List.getElem?_append_right (by simpa using hi), Ze, Zc] at hσ
    rw [S.eqN, List.getElem?_append_right (by omega), Zc] at hN'
    cases hj : caps[i - own.length]? with
    | none => rw [hj] at hσ; cases hσ
    | some j =>
     rw [hj] at hσ hN'
     have hx : X.N.getD j "" = x := Option.some.inj hN'
     obtain ⟨hjl, hjf⟩ := S.cap j (List.mem_of_getElem? hj)
     rw [hx] at hjf
     have hjN : X.N[j]? = some x := by
      rw [Zf hjl, ← hx, Zb, Zf hjl]; rfl
     have hv : σ[j]? = some (some v) := by
      have q : (σ[j]?).join = some v := Option.some.inj hσ
      cases q' : σ[j]? with
      | none => rw [q'] at q; cases q
      | some o => rw [q'] at q; rw [show o = some v from q]
     have hkX := S.fr (x, .free) (Wz hjf) rfl
     rw [← hesc] at hkX
     obtain ⟨m, hn, hl⟩ := I3.loc
     have visX : Vis X.env.scope x := hkX.elim (fun z => .inr (.inl z)) fun z => .inr (.inr z)
     obtain ⟨u, ru, look⟩ := hl j x v hjN hv visX
     refine ⟨u, ru, ?_⟩
     obtain ⟨c, hcc⟩ := hcl2 (x, .free) (Wz hjf) rfl
     rcases look with ⟨a, _⟩ | ⟨_, c', hc', hcell⟩
     ·rcases hkX with z | z
      ·rw [show X.env.kindOf x = X.env.scope.names.lookup x from rfl, z] at a; cases a
      ·rw [show X.env.kindOf x = X.env.scope.names.lookup x from rfl, z] at a; cases a
     ·have : c' = c := by rw [hcl1 _ _ hcc] at hc'; cases hc'; rfl
      subst this
      refine .inr ⟨?_, c', by rw [cellsX]; exact lkF _ _ hjf hcc, hcell.keeps k1⟩
      rcases hV with q | q | q
      ·have q' : (relabel scope X.env).names.lookup x = some .local := by rw [← hX'] at q; exact q
       rcases YO q' with z | z
       ·rw [hjf] at z; cases z
       ·exact absurd z.1 (by decide)
      ·exact .inl q
      ·exact .inr q
  ·intro x c e
   rw [cellsX] at e
   rcases lkE x c e with e | ⟨_, e⟩
   ·exact ⟨_, (okA.empty x c (PySem.mem_of_lookup e)).1⟩
   ·obtain ⟨v, q⟩ := I3.cell x c (hcl1 x c e)
    exact ⟨v, q.keeps k1⟩
  ·rw [locX]; exact I3.hok.fresh (Nat.le_refl _)
  ·intro x c e
   rw [cellsX] at e
   rcases lkE x c e with e | ⟨_, e⟩
   ·exact I3.hok.fresh (Nat.le_of_succ_le (aboveA x c e))
   ·exact I3.freeC x c (hcl1 x c e)
  ·intro p hp
   have : p ∈ ([] : List (Addr × Obj)) := by rw [← hX'] at hp; exact hp
   cases this
  ·rw [← hX']; exact I3.hok.kept k1
  ·rw [← hX']
   show (JO own caps σ).length = N'.length
   unfold JO
   rw [S.eqN, Zd, Zd, Ze, Za, Za]
 have pX : X'.prog = X.prog := by rw [← hX']; rfl
 have wX : X'.w = X.w := by rw [← hX']; rfl
 have KX : X'.K = X.K := by rw [← hX']; rfl
 have AX : X'.A = X.A := by rw [← hX']; rfl
 have cX : X'.calm = true := by rw [← hX']; exact hc
 have xX : X'.xe = fun _ _ => False := by rw [← hX']; rfl
 have envX : X'.env = compEnvC scope cE g3.objs.size X.env := by rw [← hX']; rfl
 have exX : X'.ex = fp := by rw [← hX']; rfl
 have hg' : PG X' tg g := hX' ▸ hg _ _ _ _ _
 have ht' : PIf X' ifs tc := hX' ▸ ht _ _ _ _ _
 have he' : PE X' elt te := hX' ▸ he _ _ _ _ _
 have fpk : ∀ {H' : Hp}, (∀ b ∈ fp, H' b = none) → ∀ b ∈ fp, V5 X' [] H' b := fun {H'} hn b hb => by
  refine ⟨hn b hb, ?_, ?_, ?_, ?_, ?_⟩
  ·rw [locX]; exact Nat.ne_of_lt (fplt b hb)
  ·rw [hfs]; intro z
   rcases List.mem_cons.mp (I3.stkSub b z) with e | e
   ·exact (f2 b hb).2.1 e
   ·exact (f2 b hb).2.2.1 e
  ·rw [exX]; exact .inl hb
  ·intro x c e
   rw [cellsX] at e
   rcases lkE x c e with e | ⟨_, e⟩
   ·have h1 : g3.objs.size + 1 ≤ c := aboveA x c e
    exact fun z => absurd (Nat.lt_of_lt_of_le (fplt b hb) (Nat.le_of_succ_le h1)) (by rw [z]; exact Nat.lt_irrefl _)
   ·exact (f2 b hb).2.2.2.2.1 x c (hcl1 x c e)
  ·intro p hp
   have : p ∈ ([] : List (Addr × Obj)) := by rw [← hX'] at hp; exact hp
   cases this
 have st1 : tn 0 h₁ := T.keep _ _ _ st2 fun b hb o e => k1 b o (old3 b o e)
 have back : ∀ {σ' : St} {H' : Hp} {s' : Shared} {pp : List (Addr × Obj)} {h' : Heap}, Zv X' pp σ' H' s' → Heap.SameBut g3.objs.size s'.heap h' → Zv X pins σ H' { s' with heap := h' } := fun {σ' H' s' pp h'} I' sb => by
  have u := I'.base
  rw [hfs, exX] at u
  have hs0 : X'.s₀.heap = g3 := by rw [← hX']; rfl
  have hH0 : X'.H₀ = upd H2 s2.heap.objs.size (.lst []) := by rw [← hX']; rfl
  rw [hs0, hH0] at u
  have ne : ∀ b o, g3.get? b = some o → b ≠ g3.objs.size := fun b o e => Nat.ne_of_lt (Heap.lt_size e)
  have hCn : H' g3.objs.size = none := by have := I'.free; rw [locX] at this; exact this
  refine I3.call' (s' := { s' with heap := h' }) (ch := fp) ?_ ⟨?_, ?_, ?_, ?_, ?_, ?_, ?_⟩ ?_ I'.bare ?_
  ·have := I'.os; rw [← hX'] at this; exact this
  ·intro b o e n hb hx; exact sb.extBut b o (ne b o e) (u.keep b o e n hb hx)
  ·intro b o e n hb hx
   obtain ⟨sl, q⟩ := u.slot b o e n hb hx
   exact ⟨sl, sb.extBut b _ (ne b o e) q⟩
  ·exact u.free
  ·intro b o e hx
   obtain ⟨o', q⟩ := u.there b o e hx
   exact ⟨o', sb.extBut b _ (ne b o e) q⟩
  ·exact u.tups
  ·exact u.frzs
  ·exact u.tbls
  ·have hok := I'.hok
   rw [pX, wX] at hok
   intro a o e
   refine (hok a o e).stay (fun b v hb r => sb.extBut b v ?_ r) (fun b r => r) fun b xs r => r
   rcases hb with rfl | hb
   ·intro z; rw [z, hCn] at e; cases e
   ·intro z; rw [z, hCn] at hb; cases hb
  ·intro b hb
   refine ⟨(f2 b hb).2.2.2.1, (f2 b hb).2.1, (f2 b hb).2.2.2.2.1, (f2 b hb).2.2.2.2.2⟩
 have loop : ∀ s3 : Shared, s3 = { s2 with heap := h₁, toks := s2.toks } →
   codeAny (model X.prog X.w) X.A (.compLoop (.ListComp elt [⟨tg, iter, ifs, 0⟩] scope pos) 0 (.ref it) (.ref s2.heap.objs.size) (compEnvC scope cE g3.objs.size X.env)) (RR (.ref s2.heap.objs.size) g3.objs.size) s3 := by
  rintro s3 rfl
  refine Jk (fun n s' => ∃ i σ' H', Zv X' [] σ' H' s' ∧ tn i s'.heap ∧ (∀ b ∈ fp, H' b = none) ∧ W i n σ' H') ?_ m0 ⟨0, _, _, I4, st1, fpn, w0⟩
  rintro n s5 ⟨i, σ5, H5, I5, st5, fr5, w5⟩
  rcases turn i n σ5 H5 w5 with ⟨stop, qn⟩ | ⟨go, N, hN, step⟩
  ·have q := T.done X' pX wX KX cX i [] s5 σ5 H5 (fun _ _ => False) I5 (fpk fr5) st5 stop
   rw [AX] at q
   refine ZT q fun r s6 ⟨hr, I6⟩ => ?_
   subst hr
   obtain ⟨m, hn, _⟩ := I6.loc
   rw [locX] at hn
   refine hRR _ _ s6 m H5 hn ?_ ?_ I3.sz ?_ ?_ qn fun h' sb => back I6 sb
   ·exact Nat.ne_of_gt I3.lt
   ·intro x c e
    obtain ⟨v, q⟩ := I3.cell x c e
    exact Nat.ne_of_lt q.lt
   ·intro pp hpp
    exact Nat.ne_of_lt (Heap.lt_size (I3.pin pp hpp).1)
   ·have := I6.free; rw [locX] at this; exact this
  ·have q := T.item X' pX wX KX cX i [] s5 σ5 H5 (fun _ _ => False) I5 (fpk fr5) st5 go
   rw [AX] at q
   refine ZT q fun r s6 ⟨u, hr, h6⟩ => ?_
   subst hr
   refine ZT h6 fun _ s7 ⟨x, H7, I7, r7, y7, st7, fr7⟩ => ?_
   have I7' := I7.pinned (fpk fr7) (T.obj _ _ st7)
   have q8 := hg' _ s7 σ5 H7 x u _ I7' r7 (step x H7 y7)
   rw [pX, wX, AX, envX, xX] at q8
   refine ZT q8 fun _ s8 ⟨σ8, H8, I8, q8⟩ => ?_
   have q9 := ht' _ s8 σ8 H8 _ I8 q8
   rw [pX, wX, AX, envX, xX] at q9
   have again : ∀ {σ' : St} {H' : Hp} {s' : Shared}, Zv X' ([] ++ Vm fp s7.heap) σ' H' s' → N σ' H' → ∃ m, m < n ∧ ∃ i σ' H', Zv X' [] σ' H' s' ∧ tn i s'.heap ∧ (∀ b ∈ fp, H' b = none) ∧ W i m σ' H' := fun {σ' H' s'} I' n' => by
    obtain ⟨m', hm, w'⟩ := hN σ' H' n'
    refine ⟨m', hm, i + 1, σ', H', I'.unpinned, T.keep _ _ _ st7 fun b hb o e => (I'.pin (b, o) (List.mem_append_right _ (List.mem_append_right _ (WU hb e)))).1, fun b hb => ?_, w'⟩
    obtain ⟨o, e, d⟩ := T.obj _ _ st7 b hb
    exact (I'.pin (b, o) (List.mem_append_right _ (List.mem_append_right _ (WU hb e)))).2.1
   refine ZT q9 fun ok s9 ⟨H9, I9, q9⟩ => ?_
   cases ok with
   | false =>
    simp only [Bool.false_eq_true, if_false] at q9 ⊢
    exact again I9 q9
   | true =>
    simp only [if_true] at q9 ⊢
    have q10 := he' _ s9 σ8 H9 _ I9 q9
    rw [pX, wX, AX, envX, xX] at q10
    refine ZT q10 fun y s10 ⟨v, H10, I10, rv, xs, hxs, hz, q10⟩ => ?_
    have q11 := ZV (X := X') _ s10 σ8 H10 (.ref s2.heap.objs.size) [v] (.ref s2.heap.objs.size) [y] (fun _ H' => N σ8 H') I10 rfl (.cons rv .nil) ⟨_, xs, v, rfl, rfl, hxs, hz, q10⟩
    rw [pX, wX, AX, xX] at q11
    exact ZT q11 fun _ s11 ⟨_, H11, I11, _, q11⟩ => again I11 q11
 exact codeAny_compStart_list (loop _ rfl) (T.self _ 0 _ _ _ st1 (loop _ rfl))
theorem Zhc {own : List Str} {caps : List Nat} {N' : List Str} {esc scope : Scope} {elt iter tg : Expr} {ifs : List Expr} {pos : Pos} {wi : TI} {g : TG} {tc : TT} {te : TE}
  (hesc : X.env.scope = esc) (S : WP X.N esc own caps N' scope) (hc : X.calm = true) (hi : PI X tg iter wi)
  (hg : ∀ cl C s H ex, PG (Yy X scope cl N' C s H ex) tg g) (ht : ∀ cl C s H ex, PIf (Yy X scope cl N' C s H ex) ifs tc) (he : ∀ cl C s H ex, PE (Yy X scope cl N' C s H ex) elt te)
  (hs : ∀ x, foldedSetIterable iter X.env x = pure x := by intro _; rfl) :
  PE X (.ListComp elt [⟨tg, iter, ifs, 0⟩] scope pos) (Zcs own caps wi g tc te) := by
 intro pins s σ H Q I h
 obtain ⟨cl, hcl, hcl1, hcl2⟩ := VM (scope := scope) (env := X.env) fun y hy hf => by
  have := S.fr y hy hf
  rw [← hesc] at this
  exact I.ok.has y.1 this
 rw [eval_ListComp]
 refine wpAny_comprehension_free (use := none) rfl hs hcl S.kind S.uniq (ZT (hi pins s σ H _ I h) fun v s1 h1 => ZT h1 fun itv s2 h2 => ?_)
 obtain ⟨it, fp, tn, J, H2, e, I2, T, st2, f2, q⟩ := h2
 subst e
 refine VG (RR := fun acc C => compPost (model X.prog X.w) X.A X.xe none (EP X pins σ Q) acc C) hesc S hc hcl1 hcl2 hg ht he I2 T st2 f2 q ?_
 intro D C s' m H' hn _ _ _ _ _ q' hb
 exact ⟨m, hn, fun h' sb => ⟨.ref D, H', hb h' sb, rfl, q'⟩⟩
theorem ZbZ {own : List Str} {caps : List Nat} {N' : List Str} {esc scope : Scope} {elt iter tg : Expr} {ifs : List Expr} {pos spos py : Pos} {y : Str} {i : Nat} {wi : TI} {g : TG} {tc : TT} {te : TE}
  (hesc : X.env.scope = esc) (S : WP X.N esc own caps N' scope) (hc : X.calm = true) (hi : PI X tg iter wi)
  (hg : ∀ cl C s H ex, PG (Yy X scope cl N' C s H ex) tg g) (ht : ∀ cl C s H ex, PIf (Yy X scope cl N' C s H ex) ifs tc) (he : ∀ cl C s H ex, PE (Yy X scope cl N' C s H ex) elt te)
  (hN : X.N.Nodup) (hy : X.N[i]? = some y) (hx : Loc X.env.scope y) (hf : X.fn y = true ∨ X.env.scope.names.lookup y = some .local)
  (hsw : swapsWith (.ListComp elt [⟨tg, iter, ifs, 0⟩] scope pos) (some (.Name y py)) spos.line X.env = pure true)
  (hs : ∀ x, foldedSetIterable iter X.env x = pure x := by intro _; rfl) :
  PS X (.Assign [.Name y py] (.ListComp elt [⟨tg, iter, ifs, 0⟩] scope pos) spos) (ZbP (Zcs own caps wi g tc te) (Yh i)) := by
 intro pins s σ H D0 I h
 obtain ⟨cl, hcl, hcl1, hcl2⟩ := VM (scope := scope) (env := X.env) fun y hy hf => by
  have := S.fr y hy hf
  rw [← hesc] at this
  exact I.ok.has y.1 this
 rw [exec_Assign_Name_used _ _ _ _ hsw]
 refine wpAny_bind (wpAny_standAt (wpAny_bind ?_))
 show wpAny _ X.A (do let _ ← comprehension (.ListComp elt [⟨tg, iter, ifs, 0⟩] scope pos) scope X.env _ (newList []) false (eval iter X.env) (some (assign (.Name y py) X.env))) _ _ s
 refine wpAny_bind (wpAny_mono (wpAny_comprehension_free (use := some (assign (.Name y py) X.env)) (Q := fun _ s' => SP X pins D0 .next s') rfl hs hcl S.kind S.uniq
  (ZT (hi pins s σ H _ I h) fun v s1 h1 => ZT h1 fun itv s2 h2 => ?_)) (fun _ s' hq => wpAny_pure (wpAny_pure hq)) fun _ _ e => e)
 obtain ⟨it, fp, tn, J, H2, e, I2, T, st2, f2, q⟩ := h2
 subst e
 refine VG (RR := fun acc C => compPost (model X.prog X.w) X.A X.xe (some (assign (.Name y py) X.env)) (fun _ s' => SP X pins D0 .next s') acc C) hesc S hc hcl1 hcl2 hg ht he I2 T st2 f2 q ?_
 intro D C s' m H' hn hCL hCc hC0 hCp hCn q' hb
 have I' : Zv X pins σ H' s' := hb s'.heap (.refl ..)
 show wpAny _ X.A (assign (.Name y py) X.env (.ref D)) _ _ s'
 refine wpAny_assign_Name (V8 I' hN hy hx (v := .ref D) rfl (fun s'' I'' ⟨a, sb, ha⟩ => ?_) hf)
 have hCa : C ≠ a := by
  rcases ha with rfl | ha
  ·exact hCL
  ·exact fun z => hCc y a ha z.symm
 refine ⟨m, hn.sameBut sb hCa, fun h' sb' => ⟨_, H', ?_, q'⟩⟩
 exact I''.turned (t' := s''.toks) (fun b o hb e => sb'.extBut b o hb e) hCn hCL (.inr hC0) hCc hCp
end
mutual
inductive Xj (K : PySem.W.Frag) (H : Hp) : V → PyData → Prop where
 | non : Xj K H .non .none
 | bl (b : Bool) : Xj K H (.bl b) (.bool b)
 | int (i : Int) : Xj K H (.int i) (.int i)
 | str (x : Str) : Xj K H (.str x) (.str x)
 | lst {a : Addr} {xs : List V} {ds : List PyData} (h : Wp K H a xs) (r : RdDs K H xs ds) : Xj K H (.ref a) (.list ds)
 | tup {a : Addr} {xs : List V} {ds : List PyData} (h : YW K H a xs) (r : RdDs K H xs ds) : Xj K H (.ref a) (.tuple ds)
inductive RdDs (K : PySem.W.Frag) (H : Hp) : List V → List PyData → Prop where
 | nil : RdDs K H [] []
 | cons {x : V} {xs : List V} {d : PyData} {ds : List PyData} (h : Xj K H x d) (r : RdDs K H xs ds) : RdDs K H (x :: xs) (d :: ds)
end
section
variable {K : PySem.W.Frag} {H H' : Hp}
theorem Same.tup {a : Addr} {xs : List V} (e : Same H H') (h : YW K H a xs) : YW K H' a xs := by
 rcases h with (h | ⟨o, h⟩) | h
 ·exact .inl (.inl (e _ _ h))
 ·exact .inl (.inr ⟨o, e _ _ h⟩)
 ·exact .inr h
theorem Same.upd {p : Addr} {o : HO} (h : H p = none) : Same H (upd H p o) := fun b u e => by rw [Zt (ZP e h)]; exact e
theorem Same.updr {p : Addr} {o : HO} (s : Same H H') (h : H p = none) : Same H (L2.upd H' p o) := fun b u e => by rw [Zt (ZP e h)]; exact s b u e
mutual
theorem Xj.mono (s : Same H H') : ∀ {v : V} {d : PyData}, Xj K H v d → Xj K H' v d
 | _, _, .non => .non
 | _, _, .bl b => .bl b
 | _, _, .int i => .int i
 | _, _, .str x => .str x
 | _, _, .lst h r => .lst (s.seq h) (RdDs.mono s r)
 | _, _, .tup h r => .tup (s.tup h) (RdDs.mono s r)
theorem RdDs.mono (s : Same H H') : ∀ {v : List V} {d : List PyData}, RdDs K H v d → RdDs K H' v d
 | _, _, .nil => .nil
 | _, _, .cons h r => .cons (Xj.mono s h) (RdDs.mono s r)
end
theorem RdDs.ints : ∀ ns : List Int, RdDs K H (ns.map V.int) (ns.map PyData.int)
 | [] => .nil
 | n :: r => .cons (.int n) (RdDs.ints r)
end
section
variable {X : Cx} {pins : List (Addr × Obj)} {σ : St} {H : Hp} {s : Shared}
mutual
theorem Zv.reads (I : Zv X pins σ H s) : ∀ {v : V} {d : PyData} {u : Value}, Xj X.K H v d → ZE v u → ∃ as, Reads s.heap u d as
 | _, _, _, .non, r => by cases (show _ = Value.none from r); exact ⟨_, .none⟩
 | _, _, _, .bl b, r => by cases (show _ = Value.bool b from r); exact ⟨_, .bool b⟩
 | _, _, _, .int i, r => by obtain ⟨t, rfl⟩ := r; exact ⟨_, .int i t⟩
 | _, _, _, .str x, r => by obtain ⟨t, rfl⟩ := r; exact ⟨_, .str x t⟩
 | _, _, _, .lst (a := a) h q, r => by
  cases (show _ = Value.ref a from r)
  obtain ⟨its, rv, ⟨o, n, e, c, _, d⟩, _⟩ := I.list h
  obtain ⟨as, ra⟩ := Zv.readsAll I q rv
  exact ⟨_, .list e c d (by simpa using ra)⟩
 | _, _, _, .tup (a := a) h q, r => by
  cases (show _ = Value.ref a from r)
  obtain ⟨its, rv, ⟨o, e, c, n, d⟩, _⟩ := I.tuple h
  obtain ⟨as, ra⟩ := Zv.readsAll I q rv
  exact ⟨_, .tuple e c d (by simpa using ra)⟩
theorem Zv.readsAll (I : Zv X pins σ H s) : ∀ {v : List V} {d : List PyData} {u : List Value}, RdDs X.K H v d → Zz v u → ∃ as, ReadsAll s.heap u d as
 | _, _, _, .nil, r => by cases r; exact ⟨_, .nil⟩
 | _, _, _, .cons h q, r => by
  cases r with
  | cons r rr =>
   obtain ⟨a1, h1⟩ := Zv.reads I h r
   obtain ⟨a2, h2⟩ := Zv.readsAll I q rr
   exact ⟨_, .cons h1 h2⟩
end
end
structure Zh7 (d : PyData) : Prop where
 sh : d.showable = true
 nd : d.hasDict = false
 dp : d.depth ≤ 60
 sz : d.shown.length ≤ sizeLine
section
variable {X : Cx}
theorem Zjq (hu : X.A.units + 64 < cLine) : JP X (compareOp .Eq) (fun x y H Q => ∃ dx dy, Xj X.K H x dx ∧ Xj X.K H y dy ∧ SeqAt.shaped dx = true ∧ SeqAt.shaped dy = true ∧ Q (.bl (PyData.eqv dx dy)) H) := by
 intro pins s σ H x y v u Q I rx ry ⟨dx, dy, h1, h2, s1, s2, q⟩
 obtain ⟨as, r1⟩ := I.reads h1 rx
 obtain ⟨bs, r2⟩ := I.reads h2 ry
 exact SeqAt.compareEq_shaped r1 r2 s1 s2 hu ⟨.bl _, H, I, rfl, q⟩
theorem Zfv (hu : X.A.units + 64 < cLine) : JP X (compareOp .NotEq) (fun x y H Q => ∃ dx dy, Xj X.K H x dx ∧ Xj X.K H y dy ∧ SeqAt.shaped dx = true ∧ SeqAt.shaped dy = true ∧ Q (.bl (!PyData.eqv dx dy)) H) := by
 intro pins s σ H x y v u Q I rx ry ⟨dx, dy, h1, h2, s1, s2, q⟩
 obtain ⟨as, r1⟩ := I.reads h1 rx
 obtain ⟨bs, r2⟩ := I.reads h2 ry
 exact SeqAt.compareNe_shaped r1 r2 s1 s2 hu ⟨.bl _, H, I, rfl, q⟩
theorem Zep {k : Nat} (hr : WO k X.A) : Yi X (.builtin "repr") (fun xs H Q => ∃ x d, xs = [x] ∧ Xj X.K H x d ∧ Zh7 d ∧ Q (.str d.shown) H) := by
 intro pins s σ H xs us Q I r h
 obtain ⟨x, d, rfl, hd, F, q⟩ := h
 obtain ⟨u, rfl, ru⟩ := W4 r
 obtain ⟨as, rd⟩ := I.reads hd ru
 have hun : X.A.units + 61 < cLine := by have := hr.units; omega
 have fin : ∀ (h' : Heap) (u : Tok) (tk : Nat), (∀ b o, s.heap.get? b = some o → h'.get? b = some o) → EP X pins σ Q (.str d.shown u) { s with heap := h', toks := tk } := fun h' u tk k => ⟨.str d.shown, H, I.kept k, ⟨u, rfl⟩, q⟩
 cases rd with
 | none => exact P.repr_of_none (fin s.heap _ _ fun _ _ e => e)
 | bool b => exact P.repr_of_bool (by have := fin s.heap s.toks (s.toks + 1) fun _ _ e => e; simpa only [PyData.shown] using this)
 | int i t => exact P.repr_of_int (by simpa only [PyData.showable, decide_eq_true_eq] using F.sh) (by have := fin s.heap s.toks (s.toks + 1) fun _ _ e => e; simpa only [PyData.shown] using this)
 | str y t => exact P.repr_of_str (by have := fin s.heap s.toks (s.toks + 1) fun _ _ e => e; simpa only [PyData.shown] using this) (by simpa only [PyData.shown] using F.sz)
 | list h1 h2 h3 h4 => exact repr_of_reads' (.list h1 h2 h3 h4) F.sh (fun z => by rw [F.nd] at z; cases z) hr.gd (by have := F.dp; omega) (fun _ _ e => e) (fun h' u tk k => fin h' u tk k) F.sz
 | tuple h1 h2 h3 h4 => exact repr_of_reads' (.tuple h1 h2 h3 h4) F.sh (fun z => by rw [F.nd] at z; cases z) hr.gd (by have := F.dp; omega) (fun _ _ e => e) (fun h' u tk k => fin h' u tk k) F.sz
 | dict h1 h2 h3 h4 h5 => cases hd
theorem ZgA : Yi X (.builtin "isinstance") (fun xs H Q => ∃ x c t b, xs = [x, c] ∧ Xg X.K H x t ∧ (∀ cv, ZE c cv → PySem.W.kitOne X.K t cv = some b) ∧ Q (.bl b) H) := by
 intro pins s σ H xs us Q I r h
 obtain ⟨x, c, t, b, rfl, ty, e, q⟩ := h
 cases r with
 | cons r1 r =>
  cases r with
  | cons r2 r =>
   cases r
   exact Zd4 I r1 ty (e _ r2) fun tk => ⟨.bl b, H, I.tok _, rfl, q⟩
theorem ZiU {prog : Program} {w : World} {A : Around} {its : List Value} {bs : List Bool} (r : Zz (bs.map V.bl) its) : TruthOf prog w A (fun i v => its.toArray[i]? = some v) (fun i => bs.getD i false) := by
 intro i v s Q E hv hq
 rw [List.getElem?_toArray] at hv
 have hi : i < its.length := (List.getElem?_eq_some_iff.mp hv).1
 have hl := r.length
 rw [Za] at hl
 have hb : (bs.map V.bl)[i]? = some (.bl (bs.getD i false)) := by
  rw [Zc, Zb, Zf (by omega)]; rfl
 obtain ⟨u, hu, ru⟩ := r.get hb
 rw [hv] at hu
 cases hu
 cases (show v = Value.bool _ from ru)
 exact wpAny_truthy_bool hq
theorem Xm {bs : List Bool} : ((List.range bs.length).all fun i => bs.getD i false) = bs.all id := by
 have : (List.range bs.length).map (fun i => bs.getD i false) = bs := by
  apply List.ext_getElem
  ·simp
  ·intro i h1 h2; simp at h1; simp [h1]
 conv => rhs; rw [← this, List.all_map]
 rfl
theorem ZbD (hc : X.calm = true) : Yi X (.builtin "all") (fun xs H Q => ∃ (a : Addr) (bs : List Bool), xs = [.ref a] ∧ Wp X.K H a (bs.map V.bl) ∧ Q (.bl (bs.all id)) H) := by
 intro pins s σ H xs us Q I r h
 obtain ⟨a, bs, rfl, hq, q⟩ := h
 obtain ⟨u, rfl, ru⟩ := W4 r
 cases ru
 obtain ⟨its, rv, p, hz⟩ := I.list hq
 have hl := rv.length
 rw [Za] at hl
 refine call_all_walk (wpAny_pyIter_list p.isList ?_)
 have hne : a ≠ s.heap.objs.size := by obtain ⟨o, n, e, _⟩ := p; exact Nat.ne_of_lt (Heap.lt_size e)
 refine ⟨s.heap.objs.size, _, _, _, _, _, (fun i => bs.getD i false), rfl, Walks.list (A := X.A.in1) (I.ok.hd hc) _ a hne its.toArray, ⟨⟨_, Heap.get?_push_size _ rfl, rfl, rfl⟩, p.isList.push _⟩, ZiU rv, fun h' tk k => ?_⟩
 rw [Zh, ← hl, Xm]
 refine ⟨.bl _, H, I.kept (t' := tk) fun b o e => k b o ?_ (Heap.get?_push_of_some _ e), rfl, q⟩
 simpa using Nat.ne_of_lt (Heap.lt_size e)
end
abbrev Vr (ns : List Int) (n : Nat) : List Int := firstMet (fun i => ns.getD i 0) n
section
variable {prog : Program} {w : World} {A : Around} {E : Value → Shared → Prop} {s : Shared}
end
theorem Zdd : ∀ {ns : List Int} {us : List Value}, Zz (ns.map V.int) us → IntsAre us ns
 | [], _, .nil => .nil
 | n :: r, _, .cons h t => by
  obtain ⟨k, rfl⟩ := (show ∃ t, _ = Value.int n t from h)
  exact .cons n k (Zdd t)
section
variable {X : Cx}
theorem ZbC : Yi X (.type "range") (fun xs H Q => ∃ j : Int, xs = [.int j] ∧ ∀ p, H p = none → Q (.ref p) (upd H p (.rng 0 j))) := by
 intro pins s σ H xs us Q I r h
 obtain ⟨j, rfl, q⟩ := h
 obtain ⟨u, rfl, ru⟩ := W4 r
 obtain ⟨t, rfl⟩ := ru
 exact call_range_1 ⟨.ref s.heap.objs.size, _, I.laid (a := s.heap.objs.size) (o := .rng 0 j) (fun b o e => Heap.get?_push_of_some _ e) (Nat.le_refl _) ⟨_, _, _, Heap.get?_push_size _ rfl⟩, rfl, q _ (I.hok.fresh (Nat.le_refl _))⟩
def Ya (lo : Int) (n : Nat) : List Int := (List.range n).map fun i : Nat => lo + (i : Int)
theorem ZaT {lo : Int} {n i : Nat} (h : i < n) : (Ya lo n)[i]? = some (lo + i) := by unfold Ya; rw [Zc, List.getElem?_range h]; rfl
theorem Yf {lo : Int} {n : Nat} : (Ya lo n).length = n := by unfold Ya; rw [Za, Zg]
theorem ZdA {lo : Int} {n : Nat} {acc : Array Value} (h : ItemsOf (fun i v => ∃ t, v = .int (lo + i * 1) t) acc n) : Zz ((Ya lo n).map V.int) acc.toList := by
 have go : ∀ (l : List Value) (k : Nat), (∀ (j : Nat) v, l[j]? = some v → ∃ t, v = .int (lo + ((k + j : Nat) : Int)) t) → Zz (((List.range' k l.length).map fun i : Nat => lo + (i : Int)).map V.int) l := by
  intro l
  induction l with
  | nil => intro k _; exact .nil
  | cons x r ih =>
   intro k hk
   rw [Zi, List.range'_succ]
   refine .cons ?_ (ih (k + 1) fun j v hv => ?_)
   ·obtain ⟨t, e⟩ := hk 0 x rfl
    exact ⟨t, e⟩
   ·obtain ⟨t, e⟩ := hk (j + 1) v hv
    exact ⟨t, by rw [e]; congr 2; omega⟩
 have e := go acc.toList 0 fun j v hv => by
  rw [Array.getElem?_toList] at hv
  obtain ⟨t, e⟩ := h.2 j v hv
  exact ⟨t, by rw [e]; congr 1 <;> omega⟩
 rw [Array.length_toList, h.1] at e
 unfold Ya
 rw [List.range_eq_range']
 exact e
end
def WC : List Str → Bool
 | [] => true
 | x :: r => !(r.contains x) && WC r
theorem Z6 : ∀ {l : List Str}, WC l = true → l.Nodup
 | [], _ => List.nodup_nil
 | x :: r, h => by
  unfold WC at h
  simp only [Bool.and_eq_true, Bool.not_eq_true'] at h
  refine List.nodup_cons.mpr ⟨fun z => ?_, Z6 h.2⟩
  have := List.contains_iff_mem.mpr z
  rw [h.1] at this; cases this
def Uu (sc : Scope) (x : Str) : Bool := match sc.names.lookup x with
 | some .local => true
 | some .cell => true
 | _ => false
theorem WM {sc : Scope} {x : Str} (h : Uu sc x = true) : Loc sc x := by
 unfold Uu at h
 split at h
 ·rename_i e; exact .inl e
 ·rename_i e; exact .inr e
 ·cases h
def WW (sc : Scope) (x : Str) : Bool := match sc.names.lookup x with
 | some .local => true
 | _ => false
theorem Yz {sc : Scope} {x : Str} (h : WW sc x = true) : sc.names.lookup x = some .local := by
 unfold WW at h
 split at h
 ·rename_i e; exact e
 ·cases h
def Zf8 (sc : Scope) (x : Str) : Bool := match sc.names.lookup x with
 | some .local => true
 | some .cell => true
 | some .free => true
 | _ => false
theorem Zf7 {sc : Scope} {x : Str} (h : Zf8 sc x = true) : Vis sc x := by
 unfold Zf8 at h
 split at h
 ·rename_i e; exact .inl e
 ·rename_i e; exact .inr (.inl e)
 ·rename_i e; exact .inr (.inr e)
 ·cases h
def Yx (sc : Scope) (x : Str) : Bool := match sc.names.lookup x with
 | some .globalImplicit => true
 | _ => false
def Wd : Expr → Bool
 | .Starred _ _ => false
 | _ => true
theorem WG {e : Expr} {es : List Expr} {env : Env} (h : Wd e = true) : starEach (e :: es) env = (false, eval e env) :: starEach es env := by cases e <;> first | rfl | cases h
def Jv : List Expr → Bool
 | [] => true
 | e :: r => Wd e && Jv r
theorem WB {env : Env} {pos : Pos} : ∀ {es : List Expr}, Jv es = true → (backTo pos (starEach es env)).any (·.1) = false
 | [], _ => rfl
 | e :: r, h => by
  unfold Jv at h
  rw [Bool.and_eq_true] at h
  rw [WG h.1]
  exact WB h.2
section
variable {X : Cx}
theorem pc {e : Expr} {es : List Expr} {te : TE} {t : TA} (ha : PE X e te) (hr : PA X es t) (hs : Wd e = true := by rfl) : PA X (e :: es) (Zaz te t) := Zhi ha hr (WG hs)
theorem Jg {x : Str} (h : Yx X.env.scope x = true) : Gl X x := by
 unfold Yx at h
 split at h
 ·rename_i e; exact e
 ·cases h
theorem vn (i : Nat) {x : Str} {pos : Pos} (hN : X.N[i]? = some x := by rfl) (hv : Zf8 X.env.scope x = true := by kernel_rfl) (hd : (x == ("__debug__" : Str)) = false := by kernel_rfl) (hcd : (x == ("__classdict__" : Str)) = false := by kernel_rfl) :
  PE X (.Name x pos) (ZiY i) := Zjk hN (Zf7 hv) hd hcd
theorem gn (i : Nat) {x : Str} {pos : Pos} (hi : X.N[i]? = some x := by rfl) (hN : WC X.N = true := by kernel_rfl) (hx : WW X.env.scope x = true := by kernel_rfl) : PG X (.Name x pos) (Yh i) :=
 Zc1 (Z6 hN) hi (.inl (Yz hx)) (.inr (Yz hx))
theorem gnf (i : Nat) {x : Str} {pos : Pos} (hf : X.fn x = true) (hi : X.N[i]? = some x := by rfl) (hN : WC X.N = true := by kernel_rfl) (hx : Uu X.env.scope x = true := by kernel_rfl) : PG X (.Name x pos) (Yh i) :=
 Zc1 (Z6 hN) hi (WM hx) (.inl hf)
theorem Zy (i : Nat) {x : Str} {e : Expr} {te : TE} {pos pos' : Pos} (hf : X.fn x = true) (he : PE X e te) (hi : X.N[i]? = some x := by rfl) (hN : WC X.N = true := by kernel_rfl) (hx : Uu X.env.scope x = true := by kernel_rfl)
  (hs : swapsWith e (some (.Name x pos')) pos.line X.env = pure false := by rfl) : PS X (.Assign [.Name x pos'] e pos) (ZbP te (Yh i)) :=
 Zjg (Z6 hN) hi (WM hx) he hs (.inl hf)
theorem cb {x : Str} {id : String} {r : List V → Hp → VK → Prop} {e : Expr} {es : List Expr} {t : TA} {p pos : Pos} (hc : Yi X (.builtin id) r) (hm : X.mg x = none) (ha : PA X (e :: es) t) (hg : Yx X.env.scope x = true := by kernel_rfl) (hv : bootBuiltins x = some (.builtin id) := by kernel_rfl)
  (hn : x ≠ "__name__" := by decide) (hd : (x == ("__debug__" : Str)) = false := by kernel_rfl) (he : Wd e = true := by rfl) (hpl : Jv es = true := by rfl) :
  PE X (.Call (.Name x p) (e :: es) [] pos) (tCB r t) := Zfs hc (Jg hg) hm hv ha hn hd (WG he) (WB hpl)
theorem ct {x : Str} {T : String} {r : List V → Hp → VK → Prop} {e : Expr} {es : List Expr} {t : TA} {p pos : Pos} (hc : Yi X (.type T) r) (hm : X.mg x = none) (ha : PA X (e :: es) t) (hg : Yx X.env.scope x = true := by kernel_rfl) (hv : bootBuiltins x = some (.type T) := by kernel_rfl)
  (hn : x ≠ "__name__" := by decide) (hd : (x == ("__debug__" : Str)) = false := by kernel_rfl) (he : Wd e = true := by rfl) (hpl : Jv es = true := by rfl) :
  PE X (.Call (.Name x p) (e :: es) [] pos) (tCB r t) := ZdL hc (Jg hg) hm hv ha hn hd (WG he) (WB hpl)
theorem tyv (T : String) {x : Str} {pos : Pos} (hm : X.mg x = none) (hg : Yx X.env.scope x = true := by kernel_rfl) (hv : bootBuiltins x = some (.type T) := by kernel_rfl) (hn : x ≠ "__name__" := by decide) (hd : (x == ("__debug__" : Str)) = false := by kernel_rfl) :
  PE X (.Name x pos) (tC (.ty T)) := Zhe (Jg hg) hm hv rfl hn hd
theorem ZmE {x : Str} {i : Int} {t : Tok} {pos : Pos} (hm : X.mg x = some (.int i t)) (hg : Yx X.env.scope x = true := by kernel_rfl) (hd : (x == ("__debug__" : Str)) = false := by kernel_rfl) : PE X (.Name x pos) (tC (.int i)) := Zg9 (Jg hg) hm ⟨t, rfl⟩ hd
theorem WI {tg a : Expr} {ta : TA} {p pos : Pos} (hm : X.mg "range" = none) (ha : PA X [a] ta) (hg : Yx X.env.scope "range" = true := by kernel_rfl) (hs : starEach [a] X.env = [(false, eval a X.env)] := by rfl) : PI X tg (.Call (.Name "range" p) [a] [] pos) (ZiK ta) := ZdK (Jg hg) hm ha hs
theorem Zjb {tg a b : Expr} {ta : TA} {p pos : Pos} (hm : X.mg "range" = none) (ha : PA X [a, b] ta) (hg : Yx X.env.scope "range" = true := by kernel_rfl) (hs : starEach [a, b] X.env = [(false, eval a X.env), (false, eval b X.env)] := by rfl) (hs2 : starEach [b] X.env = [(false, eval b X.env)] := by rfl) :
  PI X tg (.Call (.Name "range" p) [a, b] [] pos) (ZiJ ta) := ZdJ (Jg hg) hm ha hs hs2
end
def Fn (P : Program) (w : World) (K : PySem.W.Frag) (mg : Str → Option Value) (base : Heap) (CX : CXT) (k : Nat) (x : Str) (ps : List Str) (sp : Sp) : Prop :=
 ∃ f fd, ZH P w K mg base CX k f fd ps sp ∧ mg x = some (.ref f) ∧ PySem.W.keepIn K (.ref f) = true ∧ UI K fd ps []
section
variable {X : Cx}
theorem Yc {CX : CXT} {k j : Nat} {x : Str} {ps : List Str} {sp : Sp} {E : XK} {e : Expr} {es : List Expr} {t : TA} {p pos : Pos} (G : Fn X.prog X.w X.K X.mg X.base CX k x ps sp) (hr : WO j X.A) (hx : Zas CX X E) (ha : PA X (e :: es) t) (hk : k ≤ j := by decide)
  (hg : Yx X.env.scope x = true := by kernel_rfl) (hd : (x == ("__debug__" : Str)) = false := by kernel_rfl) (he : Wd e = true := by rfl) (hpl : Jv es = true := by rfl) :
  PE X (.Call (.Name x p) (e :: es) [] pos) (Zid sp [] E t) := by
 obtain ⟨f, fd, F, hm, kp, b⟩ := G
 exact Zhd F (hr.mono hk) (Jg hg) hm kp b .nil hx ha hd (WG he) (WB hpl)
end
theorem Fn.mk {P : Program} {w : World} {K : PySem.W.Frag} {mg : Str → Option Value} {base h : Heap} {CX : CXT} {k : Nat} {x : Str} {ps : List Str} {sp : Sp} {st : Stmt} {f : Addr} {oc : Value} {od an : Option Addr} {osl : Array (Option Value)} {kV doc pm cdv ct : Value} (X : K.In h) (G : h.Ns mainGlobals mg)
  (a : PySem.W.nsIn K mainGlobals x = some (some (.ref f))) (l : K.lookup f = some ⟨oc, od, .func (PySem.W.fnOf x x (Y6 st) (YT st) (ZQ st) .none kV doc pm an cdv ct), osl⟩) (c : PySem.W.codeIn K cdv x = true) (kp : PySem.W.keepIn K (.ref f) = true)
  (hok : ∀ fd, YL K x x st f fd → ZH P w K mg base CX k f fd ps sp)
  (hb : ∀ (kV doc pm : Value) (an : Option Addr) (cdv ct : Value) (us : List Value), us.length = ps.length → bindArgs (PySem.W.fnOf x x (Y6 st) (YT st) (ZQ st) .none kV doc pm an cdv ct) ⟨us, []⟩ = pure (ps.zip us)) :
  Fn P w K mg base CX k x ps sp :=
 ⟨f, _, hok _ (Zcf l c kp), PySem.W.mg_of X G a, kp, (Zcf l c kp).binds hb⟩
def JL (n T : String) : Bool := n == T || (n == "bool" && T == "int")
def Zcb : List String := ["NoneType", "bool", "int", "str", "list", "tuple", "dict"]
theorem ZmC {K : PySem.W.Frag} {n T : String} (hn : n ∈ Zcb) (hT : T ∈ ["int", "bool", "tuple", "list", "str"]) : PySem.W.kitOne K (.type n) (.type T) = some (JL n T) := by
 simp only [Zcb, List.mem_cons, List.mem_singleton, List.not_mem_nil, or_false] at hn hT
 rcases hn with rfl | rfl | rfl | rfl | rfl | rfl | rfl <;> rcases hT with rfl | rfl | rfl | rfl | rfl <;> kernel_rfl
def Kd (K : PySem.W.Frag) (H : Hp) (x : V) (n : String) : Prop := Xg K H x (.type n) ∧ n ∈ Zcb
theorem Kd.mono {K : PySem.W.Frag} {H H' : Hp} {x : V} {n : String} (s : Same H H') (h : Kd K H x n) : Kd K H' x n := by
 refine ⟨?_, h.2⟩
 obtain ⟨h, _⟩ := h
 generalize ht : Value.type n = t at h
 cases h with
 | non => exact .non
 | bl x => exact .bl x
 | int i => exact .int i
 | str x => exact .str x
 | flt x => exact .flt x
 | lst e => exact .lst (s _ _ e)
 | frz e => exact .frz (s _ _ e)
 | tup e => exact .tup (s _ _ e)
 | dK e => exact .dK (s _ _ e)
 | dT e => exact .dT (s _ _ e)
 | ins e a b c d f => exact .ins (s _ _ e) a b c d f
def Zk4 (K : PySem.W.Frag) (T : String) : List V → Hp → VK → Prop := fun xs H Q => ∃ x n, xs = [x, .ty T] ∧ Kd K H x n ∧ Q (.bl (JL n T)) H
theorem VQ {X : Cx} {T : String} (hT : T ∈ ["int", "bool", "tuple", "list", "str"]) : Yi X (.builtin "isinstance") (Zk4 X.K T) := by
 intro pins s σ H xs us Q I r h
 obtain ⟨x, n, rfl, ⟨ty, hn⟩, q⟩ := h
 refine ZgA pins s σ H _ us Q I r ⟨x, .ty T, .type n, JL n T, rfl, ty, fun cv rc => ?_, q⟩
 cases (show cv = Value.type T from rc)
 exact ZmC hn hT
section
variable {X : Cx}
theorem Us (K : PySem.W.Frag) (hK : X.K = K := by rfl) : IxR X (Zk1 K) := hK ▸ Zf3
theorem ixL (K : PySem.W.Frag) (hK : X.K = K := by rfl) : IxR X (Zk3 K) := hK ▸ Zdc
theorem Vx (K : PySem.W.Frag) (T : String) (hT : T ∈ ["int", "bool", "tuple", "list", "str"] := by decide) (hK : X.K = K := by rfl) : Yi X (.builtin "isinstance") (Zk4 K T) := hK ▸ VQ hT
def Zmu (K : PySem.W.Frag) : List V → Hp → VK → Prop := fun xs H Q => ∃ p ys, xs = [.ref p] ∧ (Wp K H p ys ∨ YW K H p ys) ∧ Q (.int ys.length) H
theorem Z7 (K : PySem.W.Frag) (hK : X.K = K := by rfl) : Yi X (.builtin "len") (Zmu K) := hK ▸ Zan
theorem itT (K : PySem.W.Frag) {tg l : Expr} {tl : TE} (hl : PE X l tl) (hK : X.K = K := by rfl) : PI X tg l (Zlr K tl) := hK ▸ Zji hl
theorem itL (K : PySem.W.Frag) {tg l : Expr} {tl : TE} (hl : PE X l tl) (hK : X.K = K := by rfl) : PI X tg l (ZiL K tl) := hK ▸ Zg5 hl
end
def Zaj (N : List Str) (esc : Scope) (own : List Str) (caps : List Nat) (N' : List Str) (sc : Scope) : Bool :=
 (sc.kind == .function) && WC (sc.names.map (·.1)) && sc.names.all (fun y => y.2 != .local || WW sc y.1) && WC N' && decide (N' = own ++ caps.map fun j => N.getD j "") &&
  caps.all (fun j => decide (j < N.length) && (match sc.names.lookup (N.getD j "") with | some .free => true | _ => false)) &&
  sc.names.all (fun y => y.2 != .free || (match esc.names.lookup y.1 with | some .cell => true | some .free => true | _ => false))
theorem WP.of {N : List Str} {esc : Scope} {own : List Str} {caps : List Nat} {N' : List Str} {sc : Scope} (h : Zaj N esc own caps N' sc = true) : WP N esc own caps N' sc := by
 unfold Zaj at h
 simp only [Bool.and_eq_true, List.all_eq_true, decide_eq_true_eq, beq_iff_eq, bne_iff_ne, ne_eq, Bool.or_eq_true] at h
 obtain ⟨⟨⟨⟨⟨⟨h1, h2⟩, h3⟩, h4⟩, h5⟩, h6⟩, h7⟩ := h
 refine ⟨h1, Z6 h2, fun y hy e => ?_, Z6 h4, h5, fun j hj => ⟨(h6 j hj).1, ?_⟩, fun y hy e => ?_⟩
 ·rcases h3 y hy with z | z
  ·exact absurd e z
  ·exact Yz z
 ·have := (h6 j hj).2
  split at this
  ·rename_i z; exact z
  ·cases this
 ·rcases h7 y hy with z | z
  ·exact absurd e z
  ·split at z
   ·rename_i q; exact .inl q
   ·rename_i q; exact .inr q
   ·cases z
theorem Xw {X : Cx} (own : List Str) (caps : List Nat) (N' : List Str) {scope : Scope} {elt iter tg : Expr} {ifs : List Expr} {pos : Pos} {wi : TI} {g : TG} {tc : TT} {te : TE} (hc : X.calm = true) (hi : PI X tg iter wi)
  (hg : ∀ cl C s H ex, PG (Yy X scope cl N' C s H ex) tg g) (ht : ∀ cl C s H ex, PIf (Yy X scope cl N' C s H ex) ifs tc) (he : ∀ cl C s H ex, PE (Yy X scope cl N' C s H ex) elt te)
  (hS : Zaj X.N X.env.scope own caps N' scope = true := by kernel_rfl) (hs : ∀ x, foldedSetIterable iter X.env x = pure x := by intro _; rfl) :
  PE X (.ListComp elt [⟨tg, iter, ifs, 0⟩] scope pos) (Zcs own caps wi g tc te) := Zhc rfl (.of hS) hc hi hg ht he hs
section
variable {X : Cx}
def Zk6 : R2 := fun x y H Q => ∃ (a b : Addr) (xs ys : List V), x = .ref a ∧ y = .ref b ∧ H a = some (.tup xs) ∧ H b = some (.tup ys) ∧ xs.length + ys.length ≤ sizeLine ∧ ∀ p H', Same H H' → H' p = some (.tup (xs ++ ys)) → Q (.ref p) H'
theorem WA : JP X (binaryOp .Add) Zk6 := by
 intro pins s σ H x y v u Q I rx ry h
 obtain ⟨a, b, xs, ys, rfl, rfl, ha, hb, hz, q⟩ := h
 by_cases hx : xs = []
 ·subst hx
  cases rx; cases ry
  obtain ⟨its, r1, p1, _⟩ := I.tuple (YW.of ha)
  obtain ⟨its2, r2, p2, _⟩ := I.tuple (YW.of hb)
  cases r1
  obtain ⟨⟨cls, dd, data, sl⟩, ho, hc, n, hd⟩ := id p1
  obtain ⟨⟨cls2, dd2, data2, sl2⟩, ho2, hc2, n2, hd2⟩ := id p2
  simp only at hc hd hc2 hd2
  subst hc hd hc2 hd2
  exact concat_meets ⟨_, ho, rfl⟩ ⟨_, ho2, rfl⟩ noFill_tuple_add seq_tuple_add PySem.F.slot_tuple_add PySem.F.entry_tuple_add (PySem.F.args_tuple_add_2 _ _) (tuple_addW0 a b _ _ n n2 dd dd2 sl sl2 rfl) ⟨ho, ho2, ⟨.ref b, H, I, rfl, q b H (Same.refl H) hb⟩⟩
 ·refine Zhk pins s σ H _ _ v u Q I rx ry ⟨a, b, xs, ys, rfl, rfl, .of ha, .of hb, hx, hz, fun e => ?_, fun e p hp => q p _ (Same.upd hp) Zm⟩
  subst e
  exact q a H (Same.refl H) (by rw [List.append_nil]; exact ha)
end
theorem YM {c : TT} {tb : TS} {D : Xi} {σ : St} {H : Hp} (Pv : Nat → St → Hp → Prop) (Ex : St → Hp → Prop) (hend : ∀ σ H, Ex σ H → D.nx σ H) (h0 : ∃ m, Pv m σ H)
  (turn : (∀ σ H, Ex σ H → D.nx σ H) → ∀ m σ H, Pv m σ H → c σ H fun b H1 => if b = true then ∃ N : St → Hp → Prop, (∀ σ' H', N σ' H' → ∃ m', m' < m ∧ Pv m' σ' H') ∧ tb { D with nx := N, ct := N, bk := D.nx } σ H1 else D.nx σ H1) :
  ZeH c tb D σ H := ⟨Pv, h0, turn hend⟩
structure WN (J : It) (H : Hp) (xs : List V) : Prop where
 go : ∀ (i : Nat) H', Same H H' → i < xs.length → J.go i H'
 yld : ∀ (i : Nat) H' x H2, Same H H' → i < xs.length → J.yld i H' x H2 → H2 = H' ∧ xs[i]? = some x
 stop : ∀ H', Same H H' → J.stop xs.length H'
theorem WN.mono {J : It} {H H' : Hp} {xs : List V} (s : Same H H') (S : WN J H xs) : WN J H' xs :=
 ⟨fun i H2 e => S.go i H2 (s.trans e), fun i H2 x H3 e => S.yld i H2 x H3 (s.trans e), fun H2 e => S.stop H2 (s.trans e)⟩
theorem Yn {K : PySem.W.Frag} {H : Hp} {a : Addr} {xs : List V} (h : YW K H a xs) : WN (Itt K a) H xs :=
 ⟨fun i H' s hi => ⟨xs, _, s.tup h, Zf hi⟩, fun i H' x H2 s _ y => ⟨y.1, y.2 xs (s.tup h)⟩, fun H' s => ⟨xs, s.tup h, Nat.le_refl _⟩⟩
theorem WQ {K : PySem.W.Frag} {H : Hp} {a : Addr} {xs : List V} (h : Wp K H a xs) : WN (Itl K a) H xs :=
 ⟨fun i H' s hi => ⟨xs, _, s.seq h, Zf hi⟩, fun i H' x H2 s _ y => ⟨y.1, y.2 xs (s.seq h)⟩, fun H' s => ⟨xs, s.seq h, Nat.le_refl _⟩⟩
theorem Wh {H : Hp} (lo : Int) (n : Nat) : WN (Itr lo n) H ((Ya lo n).map V.int) := by
 have hl : ((Ya lo n).map V.int).length = n := by rw [Za, Yf]
 refine ⟨fun i H' s hi => by rw [hl] at hi; exact hi, fun i H' x H2 s hi y => ?_, fun H' s => by show n ≤ _; rw [hl]; exact Nat.le_refl _⟩
 rw [hl] at hi
 exact ⟨y.1, by rw [y.2, Zc, ZaT hi]; rfl⟩
theorem Zbw {J : It} {own : List Str} {caps : List Nat} {g : TG} {tc : TT} {te : TE} {σ : St} {H : Hp} {Q : VK} {xs : List V} (S : WN J H xs) (cs : St) (hcs : JO own caps σ = none :: cs) (f : V → Option V) (hz : xs.length ≤ 1000000)
  (hs : ∀ (i : Nat) x v0 H', xs[i]? = some x → Same H H' → ∀ (R : St → V → Hp → Prop) (R' : St → Hp → Prop), (∀ v H5, f x = some v → Same H' H5 → R (some x :: cs) v H5) → (∀ H4, f x = none → Same H' H4 → R' (some x :: cs) H4) →
   g x (v0 :: cs) H' fun σ3 H3 => tc σ3 H3 fun b H4 => if b = true then te σ3 H4 (R σ3) else R' σ3 H4)
  (hd : ∀ D H', H D = none → Same H H' → H' D = some (.lst (xs.filterMap f)) → Q (.ref D) H') :
  W0 own caps g tc te σ Q J H := by
 intro D hD
 refine ⟨fun i m σ' H' => m = xs.length - i ∧ i ≤ xs.length ∧ (∃ v0, σ' = v0 :: cs) ∧ Same H H' ∧ H' D = some (.lst ((xs.take i).filterMap f)), ⟨_, rfl, Nat.zero_le _, ⟨none, hcs⟩, Same.upd hD, by rw [Zm, List.take_zero]; rfl⟩, ?_⟩
 rintro i m σ' H' ⟨rfl, hi, ⟨v0, rfl⟩, s, hl⟩
 by_cases hlt : i < xs.length
 ·refine .inr ⟨S.go i H' s hlt, _, fun σ2 H2 z => z, fun x H2 y => ?_⟩
  obtain ⟨rfl, hx⟩ := S.yld i H' x H2 s hlt y
  have ht : xs.take (i + 1) = xs.take i ++ [x] := by rw [List.take_add_one, hx]; rfl
  have hlen : ((xs.take i).filterMap f).length ≤ i := Nat.le_trans (List.length_filterMap_le _ _) (by rw [List.length_take]; omega)
  refine hs i x v0 H2 hx s _ _ (fun v H5 e s5 => ?_) (fun H4 e s4 => ?_)
  ·refine ⟨_, s5 _ _ hl, ?_, xs.length - (i + 1), by omega, rfl, hlt, ⟨_, rfl⟩, (s.trans s5).updr hD, ?_⟩
   ·have : (16777216 : Nat) = sizeLine := by decide
    omega
   ·rw [Zm, ht, List.filterMap_append, List.filterMap_cons, e]; rfl
  ·refine ⟨xs.length - (i + 1), by omega, rfl, hlt, ⟨_, rfl⟩, s.trans s4, ?_⟩
   rw [s4 _ _ hl, ht, List.filterMap_append, List.filterMap_cons, e]
   simp
 ·have e : i = xs.length := by omega
  subst e
  refine .inl ⟨S.stop H' s, hd D H' hD s ?_⟩
  rw [hl, List.take_length]
theorem Xc {J : It} {g : TG} {tb : TS} {D : Xi} {σ : St} {H0 H : Hp} {xs : List V} (S : WN J H0 xs) (Pv : Nat → St → Hp → Prop) (h0 : Pv 0 σ H) (hS : ∀ i σ H, Pv i σ H → Same H0 H)
  (hs : ∀ (i : Nat) x σ H, xs[i]? = some x → Pv i σ H → g x σ H fun σ2 H2 => tb { D with nx := Pv (i + 1), ct := Pv (i + 1), bk := D.nx } σ2 H2) (hd : ∀ σ H, Pv xs.length σ H → D.nx σ H) :
  ∃ W : Nat → Nat → St → Hp → Prop, (∃ m, W 0 m σ H) ∧ ∀ i m σ H, W i m σ H →
   (J.stop i H ∧ D.nx σ H) ∨ (J.go i H ∧ ∃ N : St → Hp → Prop, (∀ σ' H', N σ' H' → ∃ m', m' < m ∧ W (i + 1) m' σ' H') ∧ ∀ x H', J.yld i H x H' → g x σ H' fun σ2 H2 => tb { D with nx := N, ct := N, bk := D.nx } σ2 H2) := by
 refine ⟨fun i m σ H => m = xs.length - i ∧ i ≤ xs.length ∧ Pv i σ H, ⟨_, rfl, Nat.zero_le _, h0⟩, ?_⟩
 rintro i m σ H ⟨rfl, hi, p⟩
 have s := hS i σ H p
 by_cases hlt : i < xs.length
 ·refine .inr ⟨S.go i H s hlt, Pv (i + 1), fun σ' H' p' => ⟨xs.length - (i + 1), by omega, rfl, hlt, p'⟩, fun x H' y => ?_⟩
  obtain ⟨rfl, hx⟩ := S.yld i H x H' s hlt y
  exact hs i x σ _ hx p
 ·have e : i = xs.length := by omega
  subst e
  exact .inl ⟨S.stop H s, hd σ H p⟩
theorem tT {A B : Hp → Prop} {σ : St} {H : Hp} (h : A H) : tTrue σ H fun b H4 => if b = true then A H4 else B H4 := by
 show if true = true then A H else B H
 rw [if_pos rfl]; exact h
theorem Zdh {α β : Type} (g : α → β) : ∀ xs : List α, xs.filterMap (fun y => some (g y)) = xs.map g
 | [] => rfl
 | x :: r => by rw [List.filterMap_cons, List.map_cons, Zdh g r]
theorem ZiO {α β : Type} (p : α → Bool) (g : α → β) : ∀ xs : List α, xs.filterMap (fun y => if p y = true then some (g y) else none) = (xs.filter p).map g
 | [] => rfl
 | x :: r => by
  rw [List.filterMap_cons, List.filter_cons, ZiO p g r]
  by_cases h : p x = true
  ·rw [if_pos h, if_pos h]; rfl
  ·rw [if_neg h, if_neg h]
theorem V0 {c A B : Prop} [Decidable c] (hc : c) (h : A) : if c then A else B := by rw [if_pos hc]; exact h
theorem YR {c A B : Prop} [Decidable c] (hc : ¬ c) (h : B) : if c then A else B := by rw [if_neg hc]; exact h
theorem ZiH {xs : List V} {i : Int} (h0 : 0 ≤ i) (h1 : i < xs.length) : ∃ v, VU xs i = some v ∧ v ∈ xs := by
 obtain ⟨j, rfl⟩ := Int.eq_ofNat_of_zero_le h0
 have hj : j < xs.length := by omega
 exact ⟨xs[j], YG (Zf hj), List.getElem_mem hj⟩
theorem YA {J : It} {own : List Str} {caps : List Nat} {te : TE} {σ : St} {H : Hp} {Q : VK} {xs : List V} (S : WN J H xs) (cs : St) (hcs : JO own caps σ = none :: cs) (f : V → V) (hz : xs.length ≤ 1000000)
  (hs : ∀ (i : Nat) x H', xs[i]? = some x → Same H H' → ∀ R : VK, (∀ H5, Same H' H5 → R (f x) H5) → te (some x :: cs) H' R)
  (hd : ∀ D H', H D = none → Same H H' → H' D = some (.lst (xs.map f)) → Q (.ref D) H') : W0 own caps (Yh 0) tTrue te σ Q J H := by
 refine Zbw S cs hcs (fun x => some (f x)) hz (fun i x v0 H' hx s R R' h1 h2 => ?_) fun D H' hD s hl => hd D H' hD s (by rw [hl, Zdh])
 show tTrue (some x :: cs) H' fun b H4 => if b = true then te (some x :: cs) H4 (R (some x :: cs)) else R' (some x :: cs) H4
 exact tT (A := fun H4 => te (some x :: cs) H4 (R (some x :: cs))) (hs i x H' hx s _ fun H5 s5 => h1 _ H5 rfl s5)
theorem Wo {J : It} {own : List Str} {caps : List Nat} {tc : TT} {te : TE} {σ : St} {H : Hp} {Q : VK} {xs : List V} (S : WN J H xs) (cs : St) (hcs : JO own caps σ = none :: cs) (p : V → Bool) (f : V → V) (hz : xs.length ≤ 1000000)
  (hs : ∀ (i : Nat) x H', xs[i]? = some x → Same H H' → ∀ (R : VK) (R' : Hp → Prop), (p x = true → ∀ H5, Same H' H5 → R (f x) H5) → (p x = false → ∀ H4, Same H' H4 → R' H4) → tc (some x :: cs) H' fun b H4 => if b = true then te (some x :: cs) H4 R else R' H4)
  (hd : ∀ D H', H D = none → Same H H' → H' D = some (.lst ((xs.filter p).map f)) → Q (.ref D) H') : W0 own caps (Yh 0) tc te σ Q J H := by
 refine Zbw S cs hcs (fun x => if p x = true then some (f x) else none) hz (fun i x v0 H' hx s R R' h1 h2 => ?_) fun D H' hD s hl => hd D H' hD s (by rw [hl, ZiO])
 exact hs i x H' hx s (R (some x :: cs)) (R' (some x :: cs)) (fun e H5 s5 => h1 _ H5 (by rw [if_pos e]) s5) fun e H4 s4 => h2 H4 (by rw [if_neg (by rw [e]; decide)]) s4
theorem JX : ∀ {ns : List Int}, (∀ n ∈ ns, n.natAbs < 2 ^ 200) → PyData.showableAll (ns.map PyData.int) = true ∧ PyData.hasDictAll (ns.map PyData.int) = false ∧ PyData.depthAll (ns.map PyData.int) = 0 ∧ PyData.leavesShortAll 300 (ns.map PyData.int) = true ∧ PyData.bulkAll (ns.map PyData.int) = ns.length ∧ PyData.canLayAll0 (ns.map PyData.int) = true
 | [], _ => ⟨rfl, rfl, rfl, rfl, rfl, rfl⟩
 | n :: r, h => by
  obtain ⟨h1, h2, h3, h4, h5, h6⟩ := JX (ns := r) fun m hm => h m (List.mem_cons_of_mem _ hm)
  have hn := h n List.mem_cons_self
  have hlog : n.natAbs.log2 < 1920 := by
   by_cases h0 : n.natAbs = 0
   ·rw [h0]; decide +kernel
   ·have := (Nat.log2_lt h0).mpr hn
    omega
  have hlen : (PyData.shown (.int n)).length ≤ 300 := by
   have h2 : n.natAbs.log2 < 200 := by
    by_cases h0 : n.natAbs = 0
    ·rw [h0]; decide +kernel
    ·exact (Nat.log2_lt h0).mpr hn
   have := int_text_length_le (k := 200) (by decide) h2
   simp only [PyData.shown]
   rw [PySem.ofString_length]; omega
  refine ⟨?_, ?_, ?_, ?_, ?_, ?_⟩
  ·simp only [List.map_cons, PyData.showableAll, PyData.showable, h1, Bool.and_true, decide_eq_true_eq]; exact hlog
  ·simp only [List.map_cons, PyData.hasDictAll, PyData.hasDict, h2, Bool.or_false]
  ·simp only [List.map_cons, PyData.depthAll, PyData.depth, h3]; rfl
  ·simp only [List.map_cons, PyData.leavesShortAll, PyData.leavesShort, h4, Bool.and_true, decide_eq_true_eq]; exact hlen
  ·simp only [List.map_cons, PyData.bulkAll, PyData.bulk, h5, Zi]; omega
  ·simp only [List.map_cons, PyData.canLayAll0, PyData.canLay0, h6, Bool.and_true]
def Zr (K : PySem.W.Frag) (x : Str) (st : Stmt) : Prop :=
 ∃ (f : Addr) (oc : Value) (od an : Option Addr) (osl : Array (Option Value)) (kV doc pm cdv ct : Value), PySem.W.nsIn K mainGlobals x = some (some (.ref f)) ∧
  K.lookup f = some ⟨oc, od, .func (PySem.W.fnOf x x (Y6 st) (YT st) (ZQ st) .none kV doc pm an cdv ct), osl⟩ ∧ PySem.W.codeIn K cdv x = true ∧ PySem.W.keepIn K (.ref f) = true
theorem Zr.mk {K : PySem.W.Frag} {x : Str} {st : Stmt} {f : Addr} {oc : Value} {od an : Option Addr} {osl : Array (Option Value)} {kV doc pm cdv ct : Value} (a : PySem.W.nsIn K mainGlobals x = some (some (.ref f)))
  (l : K.lookup f = some ⟨oc, od, .func (PySem.W.fnOf x x (Y6 st) (YT st) (ZQ st) .none kV doc pm an cdv ct), osl⟩) (c : PySem.W.codeIn K cdv x = true) (k : PySem.W.keepIn K (.ref f) = true) : Zr K x st :=
 ⟨f, oc, od, an, osl, kV, doc, pm, cdv, ct, a, l, c, k⟩
theorem Zr.fn {P : Program} {w : World} {K : PySem.W.Frag} {mg : Str → Option Value} {base h : Heap} {CX : CXT} {k : Nat} {x : Str} {ps : List Str} {sp : Sp} {st : Stmt} (D : Zr K x st) (X : K.In h) (G : h.Ns mainGlobals mg)
  (hok : ∀ f fd, YL K x x st f fd → ZH P w K mg base CX k f fd ps sp)
  (hb : ∀ (kV doc pm : Value) (an : Option Addr) (cdv ct : Value) (us : List Value), us.length = ps.length → bindArgs (PySem.W.fnOf x x (Y6 st) (YT st) (ZQ st) .none kV doc pm an cdv ct) ⟨us, []⟩ = pure (ps.zip us)) :
  Fn P w K mg base CX k x ps sp := by
 obtain ⟨f, oc, od, an, osl, kV, doc, pm, cdv, ct, a, l, c, kp⟩ := D
 exact Fn.mk X G a l c kp (fun fd F => hok f fd F) hb
theorem Zr.law {P : Program} {w : World} {K : PySem.W.Frag} {mg : Str → Option Value} {h : Heap} {CX : CXT} {k : Nat} {x : Str} {p : Str} {sp : Sp} {st : Stmt} {fa : Addr} (D : Zr K x st) (X : K.In h) (G : h.Ns mainGlobals mg) (hfa : mg x = some (.ref fa))
  (hok : ∀ (base : Heap) f fd, base.Ns mainGlobals mg → K.In base → YL K x x st f fd → ZH P w K mg base CX k f fd [p] sp)
  (hb : ∀ (kV doc pm : Value) (an : Option Addr) (cdv ct : Value) (s : Shared) (u : Value), BindsTo s (PySem.W.fnOf x x (Y6 st) (YT st) (ZQ st) .none kV doc pm an cdv ct) ⟨[u], []⟩ [(p, u)]) :
  ∃ fd : FuncData, (∀ (s : Shared) (u : Value), BindsTo s fd ⟨[u], []⟩ [(p, u)]) ∧ ∀ base : Heap, K.In base → base.Ns mainGlobals mg → ZH P w K mg base CX k fa fd [p] sp := by
 obtain ⟨f, oc, od, an, osl, kV, doc, pm, cdv, ct, a, l, c, kp⟩ := D
 have e := hfa.symm.trans (PySem.W.mg_of X G a)
 cases e
 exact ⟨_, fun s u => hb kV doc pm an cdv ct s u, fun base kb nb => hok base _ _ nb kb (Zcf l c kp)⟩
theorem Xt (val : Nat → Int) : ∀ i, (firstMet val i).Nodup
 | 0 => List.nodup_nil
 | i + 1 => by
  have ih := Xt val i
  rw [firstMet_succ]
  unfold step_dedup
  split
  ·exact ih
  ·rename_i h
   refine List.nodup_append.mpr ⟨ih, List.nodup_cons.mpr ⟨by simp, List.nodup_nil⟩, ?_⟩
   intro a ha b hb e
   rw [List.mem_singleton.mp hb] at e
   apply h
   first
    | exact List.any_eq_true.mpr ⟨a, ha, by simp [e]⟩
    | simpa [e] using ha
theorem ZhE (val : Nat → Int) (i : Nat) (k : Int) : k ∈ firstMet val i ↔ ∃ j, j < i ∧ val j = k := by
 have h := firstMet_any val i k
 constructor
 ·intro hk
  have : (firstMet val i).any (· == k) = true := List.any_eq_true.mpr ⟨k, hk, by simp⟩
  rw [h] at this
  obtain ⟨x, hx, e⟩ := List.any_eq_true.mp this
  obtain ⟨j, hj, rfl⟩ := List.mem_map.mp hx
  exact ⟨j, List.mem_range.mp hj, by simpa using e⟩
 ·rintro ⟨j, hj, rfl⟩
  have : ((List.range i).map val).any (· == val j) = true := List.any_eq_true.mpr ⟨val j, List.mem_map.mpr ⟨j, List.mem_range.mpr hj, rfl⟩, by simp⟩
  rw [← h] at this
  obtain ⟨x, hx, e⟩ := List.any_eq_true.mp this
  have : x = val j := by simpa using e
  exact this ▸ hx
section
variable {X : Cx}
end
theorem gT {te : TE} {N : St → Hp → Prop} {Kt : St → V → Hp → Prop} {x : V} {v0 : Option V} {cs : St} {H : Hp} (h : te (some x :: cs) H (Kt (some x :: cs))) : Yh 0 x (v0 :: cs) H fun σ3 H3 => tTrue σ3 H3 fun b H4 => if b = true then te σ3 H4 (Kt σ3) else N σ3 H4 := by
 show if true = true then te (some x :: cs) H (Kt (some x :: cs)) else N (some x :: cs) H
 rw [if_pos rfl]; exact h
theorem Xe {J : It} {own : List Str} {caps : List Nat} {te : TE} {σ : St} {H : Hp} {Q : VK} {xs : List V} (G : Addr → Nat → List V → Hp → Prop) (cs : St) (hcs : JO own caps σ = none :: cs) (hz : xs.length ≤ 1000000)
  (S : ∀ D i ys H', H D = none → H' D = some (.lst ys) → G D i ys H' → (i < xs.length → J.go i H' ∧ ∀ x H2, J.yld i H' x H2 → H2 = H' ∧ xs[i]? = some x) ∧ (i = xs.length → J.stop i H'))
  (h0 : ∀ D, H D = none → G D 0 [] (upd H D (.lst [])))
  (hs : ∀ D (i : Nat) x ys H', H D = none → H' D = some (.lst ys) → xs[i]? = some x → G D i ys H' → ∀ R : VK, (∀ v H5, H5 D = some (.lst ys) → G D (i + 1) (ys ++ [v]) (upd H5 D (.lst (ys ++ [v]))) → R v H5) → te (some x :: cs) H' R)
  (hd : ∀ D ys H', H D = none → H' D = some (.lst ys) → ys.length = xs.length → G D xs.length ys H' → Q (.ref D) H') : W0 own caps (Yh 0) tTrue te σ Q J H := by
 intro D hD
 refine ⟨fun i m σ' H' => m = xs.length - i ∧ i ≤ xs.length ∧ (∃ v0, σ' = v0 :: cs) ∧ ∃ ys, H' D = some (.lst ys) ∧ ys.length = i ∧ G D i ys H', ⟨_, rfl, Nat.zero_le _, ⟨none, hcs⟩, [], Zm, rfl, h0 D hD⟩, ?_⟩
 rintro i m σ' H' ⟨rfl, hi, ⟨v0, rfl⟩, ys, hl, hy, g⟩
 obtain ⟨S1, S2⟩ := S D i ys H' hD hl g
 by_cases hlt : i < xs.length
 ·refine .inr ⟨(S1 hlt).1, _, fun σ2 H2 z => z, fun x H2 y => ?_⟩
  obtain ⟨rfl, hx⟩ := (S1 hlt).2 x H2 y
  refine gT ?_
  refine hs D i x ys H2 hD hl hx g _ fun v H5 h5 g5 => ⟨ys, h5, ?_, xs.length - (i + 1), by omega, rfl, hlt, ⟨_, rfl⟩, ys ++ [v], Zm, by rw [Zd]; simp [hy], g5⟩
  have : (16777216 : Nat) = sizeLine := by decide
  omega
 ·have e : i = xs.length := by omega
  exact .inl ⟨S2 e, hd D ys H' hD hl (by omega) (e ▸ g)⟩
theorem Zi6 {X : Cx} (i : Nat) (own : List Str) (caps : List Nat) (N' : List Str) {scope : Scope} {elt iter tg : Expr} {ifs : List Expr} {pos spos py : Pos} {y : Str} {wi : TI} {g : TG} {tc : TT} {te : TE} (hc : X.calm = true) (hf : X.fn y = true) (hi : PI X tg iter wi)
  (hg : ∀ cl C s H ex, PG (Yy X scope cl N' C s H ex) tg g) (ht : ∀ cl C s H ex, PIf (Yy X scope cl N' C s H ex) ifs tc) (he : ∀ cl C s H ex, PE (Yy X scope cl N' C s H ex) elt te)
  (hS : Zaj X.N X.env.scope own caps N' scope = true := by kernel_rfl) (hy : X.N[i]? = some y := by rfl) (hN : WC X.N = true := by kernel_rfl) (hx : Uu X.env.scope y = true := by kernel_rfl)
  (hsw : swapsWith (.ListComp elt [⟨tg, iter, ifs, 0⟩] scope pos) (some (.Name y py)) spos.line X.env = pure true := by rfl) (hs : ∀ x, foldedSetIterable iter X.env x = pure x := by intro _; rfl) :
  PS X (.Assign [.Name y py] (.ListComp elt [⟨tg, iter, ifs, 0⟩] scope pos) spos) (ZbP (Zcs own caps wi g tc te) (Yh i)) := ZbZ rfl (.of hS) hc hi hg ht he (Z6 hN) hy (WM hx) (.inl hf) hsw hs
section
variable {X : Cx}
def Zk5 (K : PySem.W.Frag) (neg : Bool) : R2 := fun x y H Q => ∃ p xs ds dx, y = .ref p ∧ (Wp K H p xs ∨ YW K H p xs) ∧ RdDs K H xs ds ∧ Xj K H x dx ∧ PyData.canLayAll0 ds = true ∧ dx.canLay0 = true ∧ dx.depth ≤ 60 ∧ Q (.bl (if neg then !(ds.any fun y => y.eqv dx) else ds.any fun y => y.eqv dx)) H
theorem ZdM (hu : X.A.units + 64 < cLine) : JP X (compareOp .NotIn) (Zk5 X.K true) := by
 intro pins s σ H x y v u Q I rx ry h
 obtain ⟨p, xs, ds, dx, rfl, hq, hs, hd, c1, c2, dp, q⟩ := h
 cases ry
 obtain ⟨bs, r1⟩ := I.reads hd rx
 rcases hq with hq | hq
 ·obtain ⟨its, r, pl, hz⟩ := I.list hq
  obtain ⟨as, ra⟩ := I.readsAll hs r
  refine SeqAt.notIn_listAt _ pl.isList (SeqAt.items_eqAt (by simpa using ra) r1 c1 c2 (by omega)) ⟨.bl _, H, I, rfl, ?_⟩
  rw [SeqAt.any_by_data (by simpa using ra) c1]
  exact q
 ·obtain ⟨its, r, pl, hz⟩ := I.tuple hq
  obtain ⟨as, ra⟩ := I.readsAll hs r
  refine SeqAt.notIn_tupleAt _ pl (SeqAt.items_eqAt (by simpa using ra) r1 c1 c2 (by omega)) ⟨.bl _, H, I, rfl, ?_⟩
  rw [SeqAt.any_by_data (by simpa using ra) c1]
  exact q
theorem Zlj (K : PySem.W.Frag) (hu : X.A.units + 64 < cLine) (hK : X.K = K := by rfl) : JP X (compareOp .NotIn) (Zk5 K true) := hK ▸ ZdM hu
end
theorem XI : ∀ ns : List Int, PyData.canLayAll0 (ns.map PyData.int) = true
 | [] => rfl
 | n :: ns => by
  show (PyData.canLay0 (.int n) && PyData.canLayAll0 (ns.map PyData.int)) = true
  rw [XI ns]
  rfl
theorem VO (ns : List Int) : PyData.canLay0 (.tuple (ns.map PyData.int)) = true := XI ns
theorem VF : ∀ ns : List Int, PyData.depthAll (ns.map PyData.int) ≤ 1
 | [] => by decide
 | n :: ns => by
  have := VF ns
  show max (PyData.depth (.int n)) (PyData.depthAll (ns.map PyData.int)) ≤ 1
  have e : PyData.depth (.int n) ≤ 1 := by simp [PyData.depth]
  omega
end L2
namespace L2
open PySem
theorem Uz (ns : List Int) : PyData.depth (.tuple (ns.map PyData.int)) ≤ 60 := by
 have := VF ns
 show PyData.depthAll (ns.map PyData.int) + 1 ≤ 60
 omega
end L2
namespace L2
open PySem PySem.Spec PyProof.Rows
section
variable {X : Cx} {pos : Pos}
end
end L2
namespace PyZ
open PySem
theorem VW (l : Addr) (items : Array Value) (x : Value) (e : Value → Bool) (j : Nat) (hj : j < items.size) (hit : e items[j] = true) (hno : ∀ (m : Nat) (hm : m < items.size), m < j → e items[m] = false) :
  Meets (Builtin.«tuple.index» { pos := [Value.ref l, x] }) fun A R s =>
   s.heap.IsTuple l items ∧ (∀ (y : Value), y ∈ items → SeqAt.EqAt A.in1 s y x (e y)) ∧
    R (Except.ok (Flow.ret (Value.int (↑j) s.toks))) { heap := s.heap, gens := s.gens, drawn := s.drawn, toks := s.toks + 1, os := s.os } := by
 intro prog w A R s h
 obtain ⟨hl, he, h⟩ := h
 obtain ⟨oa, ha, _, na, da⟩ := hl
 unfold Builtin.«tuple.index»
 refine wpAny_bind ?_
 show wpAny _ _ (pure (Value.ref l, [x])) _ _ s
 refine wpAny_pure ?_
 show wpAny _ _ (Builtin.Tuple.tupleItemsOf (Value.ref l) >>= _) _ _ s
 refine wpAny_bind ?_
 unfold Builtin.Tuple.tupleItemsOf
 refine wpAny_bind (wpAny_seqItems ha da ?_)
 refine wpAny_pure ?_
 show wpAny _ _ (pure 0 >>= _) _ _ s
 refine wpAny_bind (wpAny_pure ?_)
 show wpAny _ _ (pure items.size >>= _) _ _ s
 refine wpAny_bind (wpAny_pure ?_)
 refine wpAny_bind ?_
 rw [Nat.min_self, Std.Legacy.Range.forIn_eq_forIn_range']
 have hsz : (List.range' ([0:items.size] : Std.Legacy.Range).start ([0:items.size] : Std.Legacy.Range).size ([0:items.size] : Std.Legacy.Range).step) = List.range' 0 items.size := by
  show List.range' 0 ((items.size - 0 + 1 - 1) / 1) 1 = _
  rw [Nat.div_one, Nat.sub_zero, Nat.add_sub_cancel]
 rw [hsz]
 refine wpAny_forIn_list _ (fun rest b s' => s' = s ∧ b = (none, ()) ∧ ∃ k, rest = List.range' k (items.size - k) ∧ k ≤ j) _ ?_ ?_ _ _ ⟨rfl, rfl, 0, rfl, Nat.zero_le _⟩
 ·rintro i rest b s' ⟨rfl, rfl, k, hr, hk⟩
  have hs : items.size - k = (items.size - (k + 1)) + 1 := by omega
  rw [hs, List.range'_succ] at hr
  obtain ⟨rfl, rfl⟩ := List.cons.inj hr
  have hi : i < items.size := by omega
  rw [Array.getElem?_eq_getElem hi]
  show wpAny _ _ (eqBool items[i] x >>= _) _ _ _
  refine wpAny_bind (he items[i] (Array.getElem_mem hi) _ _ _ _ ?_)
  by_cases hij : i = j
  ·subst hij
   rw [hit, if_pos rfl]
   refine wpAny_bind ?_
   unfold retInt
   refine wpAny_bind (wpAny_mkInt ?_)
   refine wpAny_pure ?_
   refine wpAny_pure ?_
   show wpAny _ _ (pure _) _ _ _
   exact wpAny_pure h
  ·rw [hno i hi (by omega), if_neg Bool.false_ne_true]
   refine wpAny_pure ?_
   exact ⟨rfl, rfl, i + 1, rfl, by omega⟩
 ·rintro b s' ⟨rfl, rfl, k, hr, hk⟩
  have : items.size - k = 0 := by
   have := congrArg List.length hr
   rw [List.length_range'] at this
   exact this.symm
  omega
end PyZ
namespace L2
open PySem PySem.Spec PyProof.Rows
section
variable {X : Cx}
def ZiA (K : PySem.W.Frag) : V → List V → Hp → VK → Prop := fun x vs H Q => ∃ p xs y, ∃ j : Nat, x = .ref p ∧ vs = [y] ∧ YW K H p xs ∧ XH y = true ∧ xs.all XH = true ∧ j < xs.length ∧ (∀ z, xs[j]? = some z → eqV z y = true) ∧ (∀ m z, m < j → xs[m]? = some z → eqV z y = false) ∧ Q (.int j) H
theorem ZdX : MtR X "tuple.index" (ZiA X.K) := by
 intro pins s σ H x vs v us Q I rx rv h
 obtain ⟨p, xs, y, j, rfl, rfl, hq, fy, fs, hj, h1, h2, q⟩ := h
 cases rx
 obtain ⟨u, rfl, ru⟩ := rv.one
 obtain ⟨its, r, pl, hz⟩ := I.tuple hq
 have hl := r.length
 have flat_at : ∀ (m : Nat) (z : V), xs[m]? = some z → XH z = true := fun m z hm => List.all_eq_true.mp fs z (List.mem_of_getElem? hm)
 have eu : ∀ (m : Nat) (hm : m < its.toArray.size), ∃ z, xs[m]? = some z ∧ eqU y its.toArray[m] = eqV z y := fun m hm => by
  have hm' : m < xs.length := by rw [hl]; simpa using hm
  obtain ⟨w, hw, rw'⟩ := r.get (Zf hm')
  have hw2 : its.toArray[m] = w := by
   have := (List.getElem?_eq_some_iff.mp hw).2
   simpa using this
  exact ⟨_, Zf hm', by rw [hw2]; exact Zgo rw' (flat_at m _ (Zf hm'))⟩
 have hjs : j < its.toArray.size := by rw [Zh, ← hl]; exact hj
 have tyI : s.TypeIs (.ref p) "tuple" := PySem.Heap.IsTuple.typeIs pl
 refine call_meets F.slot_tuple_index tyI F.entry_tuple_index (F.args_tuple_index_2 _ _) (PyZ.VW p its.toArray u (eqU y) j hjs ?_ ?_) ⟨pl, fun w hw => Zbb ru fy r fs w (by simpa using hw), ?_⟩
 ·obtain ⟨z, hz1, hz2⟩ := eu j hjs
  rw [hz2]
  exact h1 z hz1
 ·intro m hm hmj
  obtain ⟨z, hz1, hz2⟩ := eu m hm
  rw [hz2]
  exact h2 m z hmj hz1
 ·exact ⟨.int j, H, I.kept (t' := s.toks + 1) fun b o e => e, ⟨_, rfl⟩, q⟩
theorem ZkA (K : PySem.W.Frag) (hK : X.K = K := by rfl) : MtR X "tuple.index" (ZiA K) := hK ▸ ZdX
end
end L2
namespace PyZ
open PySem PyProof PyProof.Rows
section
variable {prog : Program} {w : World} {A : Around} {E : Value → Shared → Prop} {s : Shared}
end
end PyZ
namespace L2
open PySem PySem.Spec PyProof.Rows
section
variable {X : Cx} {pins : List (Addr × Obj)} {σ : St} {H : Hp} {s : Shared}
end
section
variable {X : Cx}
def Tz (H : Hp) (a : Addr) (ys : List V) : Prop := ∃ o : Obj, H a = some (.frz o (.tup ys)) ∧ o.cls = .type "tuple" ∧ o.dict = none
theorem Tz.sq {K : PySem.W.Frag} {H : Hp} {a : Addr} {ys : List V} (h : Tz H a ys) : YW K H a ys := by
 obtain ⟨o, h, _⟩ := h
 exact .inl (.inr ⟨o, h⟩)
theorem Tz.mono {H H' : Hp} {a : Addr} {ys : List V} (s : Same H H') (h : Tz H a ys) : Tz H' a ys := by
 obtain ⟨o, h, r⟩ := h
 exact ⟨o, s _ _ h, r⟩
theorem ZbB : Yi X (.type "tuple") (fun xs H Q => ∃ p ys, xs = [.ref p] ∧ Wp X.K H p ys ∧ ∀ l H', H l = none → Same H H' → Tz H' l ys → Q (.ref l) H') := by
 intro pins s σ H xs us Q I r h
 obtain ⟨p, ys, rfl, hq, q⟩ := h
 obtain ⟨u, rfl, rx⟩ := W4 r
 cases rx
 obtain ⟨its, r', pl, hz⟩ := I.list hq
 have hlen := r'.length
 refine call_tuple_list pl.isList (fun h' kp => ?_) (by simp only [Zh] <;> omega)
 have I1 : Zv X pins σ H { s with heap := h' } := I.kept (t' := s.toks) kp
 have hf := I1.hok.fresh (Nat.le_refl _)
 have I2 : Zv X pins σ (upd H h'.objs.size (.frz { cls := .type "tuple", data := .seq its.toArray } (.tup ys))) { s with heap := h'.push { cls := .type "tuple", data := .seq its.toArray } } :=
  I1.laid (t' := s.toks) (fun b o e => Heap.get?_push_of_some _ e) (Nat.le_refl _) ⟨Heap.get?_push_size _ rfl, hz, its, r', IsTup.new _ _⟩
 exact ⟨.ref h'.objs.size, _, I2, rfl, q _ _ hf (Same.upd hf) ⟨_, Zm, rfl, rfl⟩⟩
variable {o e : Expr} {es : List Expr} {to : TE} {t : TA} {name : Str} {apos cpos : Pos} {id : String} {r : V → List V → Hp → VK → Prop}
def Zmj (r : V → List V → Hp → VK → Prop) (to : TE) (t : TA) : TE := fun σ H Q => to σ H fun x H1 => (∃ p ys, x = .ref p ∧ Tz H1 p ys) ∧ t σ H1 fun xs H2 => r x xs H2 Q
theorem Zft (pa : PlainAttrs "tuple") (slot : Slot "tuple" name id) (hty : typeOf (.builtin id) = pure (.type "method_descriptor")) (hm : MtR X id r) (ho : PE X o to) (ha : PA X (e :: es) t)
  (hbase : attributeBase o name X.env (eval o X.env) = eval o X.env := by rfl)
  (hfew : ((backTo cpos (starEach (e :: es) X.env)).all (fun x => !x.1) && (backToKw cpos (keywordEach [] X.env)).all (fun x => x.1.isSome)
   && decide ((e :: es).length + ([] : List Keyword).length + (if ([] : List Keyword).isEmpty then 0 else 1) < 30)) = true := by rfl)
  (hline : (apos.endLine == cpos.line) = true := by rfl) (hs : starEach (e :: es) X.env = (false, eval e X.env) :: starEach es X.env := by rfl) (hplain : (backTo cpos (starEach es X.env)).any (·.1) = false := by rfl) :
  PE X (.Call (.Attribute o name apos) (e :: es) [] cpos) (Zmj r to t) := by
 intro pins s σ H Q I h
 refine wpAny_Call_method_late hbase hfew hline rfl (ZT (ho pins s σ H _ I h) fun v s1 ⟨x, H1, I1, r1, ty, q1⟩ => ?_)
 obtain ⟨p, ys, rfl, ob, hob, hc, hd⟩ := ty
 cases r1
 obtain ⟨eo, _⟩ := I1.hok p _ hob
 refine ⟨"tuple", id, pa, slot, hty, ⟨ob, eo, hc⟩, fun a e => ?_, ?_⟩
 ·cases e
  exact ⟨ob, eo, hd⟩
 have hA := ha cpos pins s1 σ H1 _ I1 q1
 rw [hs] at hA ⊢
 refine Calls.callWith_builtin (by show (false || (backTo cpos (starEach es X.env)).any (·.1)) = false; rw [hplain] <;> rfl) (Calls.evalArgs_plain ?_)
 exact ZT hA fun us s2 ⟨vs, H2, I2, r2, q2⟩ => hm pins s2 σ H2 (.ref p) vs (.ref p) us Q I2 rfl r2 q2
end
end L2
namespace PyZ
open PySem PySem.Spec PyProof.Rows
section
variable {prog : Program} {w : World} {A : Around} {E : Value → Shared → Prop} {s : Shared}
theorem V3 {R : List Value → Shared → Prop} {r : Addr} {a b c : Int} {t u v : Tok} {n : Nat} (hh : A.handled = none) (hr : IsRange s.heap r a b c t u v) (hsmall : Builtin.Range.small a b c = true)
  (hn : Builtin.Range.rangeSize a b c = n) (hlen : n ≤ 2 ^ 24)
  (h : ∀ (h' : Heap) (tk : Nat) (acc : Array Value), (∀ b o, s.heap.get? b = some o → h'.get? b = some o) → ItemsOf (fun i v => ∃ t, v = .int (a + i * c) t) acc n → R acc.toList { s with heap := h', toks := tk }) :
  wpAny (model prog w) A (collect (.ref r)) R E s := by
 unfold collect
 refine wpAny_bind (wpAny_runValue (codeAny_builtin PySem.F.entry_proto_collect ?_))
 rw [Around.under_plainId PySem.F.plain_proto_collect _]
 show wpAny _ A.in1 (newList [] >>= fun l => again (.builtin "list.__iadd__" ⟨[l, .ref r], []⟩)) _ _ s
 refine wpAny_bind (wpAny_newObj_type ?_)
 refine wpAny_pure ⟨plainId_quiet PySem.F.plain_list_iadd _, codeAny_builtin PySem.F.entry_list_iadd ?_⟩
 rw [Around.under_plainId PySem.F.plain_list_iadd _]
 have hS₁ : (s.heap.push { cls := .type "list", data := .seq ([] : List Value).toArray }).get? s.heap.objs.size = some { cls := .type "list", data := .seq #[] } := Heap.get?_push_size _ rfl
 show wpAny _ A.in1 (Builtin.List.listExtendWith (.ref s.heap.objs.size) (.ref r) (.ref s.heap.objs.size)) _ _ _
 have key := wpAny_extend_range (prog := prog) (w := w) (A := A) (s := { s with heap := s.heap.push { cls := .type "list", data := .seq ([] : List Value).toArray } })
  (R := fun (q : Result) (s' : Shared) => ∃ (h' : Heap) (tk : Nat) (acc' : Array Value) (c' : Nat), q = .ok (.ret (.ref s.heap.objs.size)) ∧ s' = { s with heap := h', toks := tk } ∧
   (∀ b o, s.heap.get? b = some o → h'.get? b = some o) ∧ h'.get? s.heap.objs.size = some { cls := .type "list", dict := none, data := .seq acc' c', slots := #[] } ∧ ItemsOf (fun i v => ∃ t, v = .int (a + i * c) t) acc' n)
  hh (Heap.get?_push_of_some _ hr) hsmall hn hlen s.heap.objs.size (.ref s.heap.objs.size) 0 hS₁
  (fun h' tk acc' c' hk hS' hacc => ⟨h', tk, acc', c', rfl, rfl, fun b o e => hk b o (Nat.ne_of_lt (Heap.lt_size e)) (Heap.get?_push_of_some _ e), hS', hacc⟩)
 refine wpAny_mono key (fun fin s' x => ?_) fun e s' x => ?_
 ·cases fin with
  | done f =>
   obtain ⟨h', tk, acc', c', e, rfl, hk, hS', hacc⟩ := x
   cases e
   show wpAny _ A (load s.heap.objs.size >>= _) _ _ _
   refine wpAny_bind (wpAny_load hS' ?_)
   exact wpAny_pure (h h' tk acc' hk hacc)
  | again c₁ =>
   refine ⟨x.1, codeAny_mono x.2 fun q s₂ y => ?_⟩
   obtain ⟨h', tk, acc', c', rfl, rfl, hk, hS', hacc⟩ := y
   show wpAny _ A (load s.heap.objs.size >>= _) _ _ _
   refine wpAny_bind (wpAny_load hS' ?_)
   exact wpAny_pure (h h' tk acc' hk hacc)
 ·obtain ⟨_, _, _, _, e', _⟩ := x
  cases e'
theorem Jj {Q₁ : Value → Shared → Prop} {r : Addr} {a b c : Int} {t u v : Tok} {n : Nat} (hh : A.handled = none) (hr : IsRange s.heap r a b c t u v) (hsmall : Builtin.Range.small a b c = true)
  (hn : Builtin.Range.rangeSize a b c = n) (hlen : n ≤ 2 ^ 24)
  (h : ∀ (h' : Heap) (tk : Nat) (acc : Array Value), (∀ b o, s.heap.get? b = some o → h'.get? b = some o) → ItemsOf (fun i v => ∃ t, v = .int (a + i * c) t) acc n →
   Q₁ (.ref h'.objs.size) { s with heap := h'.push { cls := .type "tuple", data := .seq acc }, toks := tk }) :
  codeAny (model prog w) A (.call (.builtin "tuple.__new__") ⟨[.type "tuple", .ref r], []⟩) (wants Q₁ E) s := by
 refine codeAny_of_tree ?_
 show wpAny _ A.in1 (do checkBuiltinCall "tuple.__new__" ⟨[.type "tuple", .ref r], []⟩; again (.builtin "tuple.__new__" ⟨[.type "tuple", .ref r], []⟩)) _ _ s
 refine wpAny_bind (wpAny_of_eq (PySem.F.newCall_tuple_1 _) (wpAny_pure ⟨plainId_quiet (show plainId "tuple.__new__" = true by decide +kernel) _, codeAny_builtin PySem.F.entry_tuple_new ?_⟩))
 rw [Around.under_plainId (show plainId "tuple.__new__" = true by decide +kernel) _]
 have hsub := sub_tuple_self
 have hinit := init_tuple_lookup
 have hmh := madeHere_tuple
 have hTI : s.TypeIs (.ref r) "range" := ⟨_, hr, rfl⟩
 have hsz : n ≤ sizeLine := by
  have : (16777216 : Nat) = sizeLine := by decide
  omega
 wp_walk using wpAny_typeOf hTI, V3 (A := A.in1) hh hr hsmall hn hlen
 intro h' tk acc hm hacc
 show wpAny _ _ (Builtin.Tuple.tupleExact acc.toList.toArray >>= fun v => ret v) _ _ _
 unfold Builtin.Tuple.tupleExact
 refine wpAny_bind (wpAny_newObj_type ?_ (by show acc.toList.toArray.size ≤ sizeLine; simp only [Array.toArray_toList]; rw [hacc.1]; exact hsz))
 refine wpAny_pure ?_
 have e : acc.toList.toArray = acc := by simp
 rw [e]
 exact h h' tk acc hm hacc
theorem Xy {Q : Value → Shared → Prop} {r : Addr} {a b c : Int} {t u v : Tok} {n : Nat} (hh : A.handled = none) (hr : IsRange s.heap r a b c t u v) (hsmall : Builtin.Range.small a b c = true)
  (hn : Builtin.Range.rangeSize a b c = n) (hlen : n ≤ 2 ^ 24)
  (h : ∀ (h' : Heap) (tk : Nat) (acc : Array Value), (∀ b o, s.heap.get? b = some o → h'.get? b = some o) → ItemsOf (fun i v => ∃ t, v = .int (a + i * c) t) acc n →
   Q (.ref h'.objs.size) { s with heap := h'.push { cls := .type "tuple", data := .seq acc }, toks := tk }) :
  wpAny (model prog w) A (call (.type "tuple") [.ref r]) Q E s := by
 refine callType_codes (Q₁ := fun obj s₁ => s₁.TypeIs obj "tuple" ∧ Q obj s₁) PySem.F.called_tuple (PySem.F.typeCall_tuple_1 _) PySem.F.entry_object_init
  (Jj (A := A.in1) hh hr hsmall hn hlen fun h' tk acc hk hacc => ⟨⟨_, Heap.get?_push_size _ rfl, rfl⟩, h h' tk acc hk hacc⟩) fun obj s₁ h₁ => ?_
 exact ⟨h₁.1, PySem.F.args_object_init_2 obj _, object_init_meets PySem.F.called_tuple.init.lookup PySem.F.called_tuple.made (by decide) prog w A.in1 _ s₁ ⟨h₁.1, rfl, h₁.2⟩⟩
end
end PyZ
namespace L2
open PySem PySem.Spec PyProof.Rows
section
variable {X : Cx}
theorem VP (hc : X.calm = true) : Yi X (.type "tuple") (fun xs H Q => ∃ (a : Addr) (lo hi : Int), xs = [.ref a] ∧ H a = some (.rng lo hi) ∧ (-(2 ^ 62) ≤ lo ∧ lo < 2 ^ 62 ∧ -(2 ^ 62) ≤ hi ∧ hi < 2 ^ 62) ∧ (hi - lo).toNat ≤ sizeLine ∧
  ∀ l, H l = none → Q (.ref l) (upd H l (.tup ((Ya lo (hi - lo).toNat).map V.int)))) := by
 intro pins s σ H xs us Q I r h
 obtain ⟨a, lo, hi, rfl, ha, ⟨b1, b2, b3, b4⟩, hz, q⟩ := h
 obtain ⟨u, rfl, ru⟩ := W4 r
 cases ru
 obtain ⟨t, u, v, e⟩ := (show ∃ t u v, s.heap.get? a = some { cls := .type "range", data := .fields #[.int lo t, .int hi u, .int 1 v] } from I.hok a _ ha)
 refine PyZ.Xy (n := (hi - lo).toNat) (I.ok.hd hc) e (small_one b1 b2 b3 b4) (by rw [rangeSize_one]; split <;> omega) hz fun h' tk acc hk hit => ?_
 have I1 : Zv X pins σ H { s with heap := h', toks := tk } := I.kept (t' := tk) hk
 have I2 : Zv X pins σ (upd H h'.objs.size (.tup ((Ya lo (hi - lo).toNat).map V.int))) { s with heap := h'.push { cls := .type "tuple", data := .seq acc }, toks := tk } :=
  I1.laid (t' := tk) (fun b o e => Heap.get?_push_of_some _ e) (Nat.le_refl _) (show ZS X.prog X.w _ _ _ (.tup ((Ya lo (hi - lo).toNat).map V.int)) from ⟨by rw [Za, Yf]; exact hz, acc.toList, ZdA hit, by simpa using IsTup.new _ _⟩)
 exact ⟨.ref h'.objs.size, _, I2, rfl, q _ (I1.hok.fresh (Nat.le_refl _))⟩
end
end L2
namespace HT
open PySem PyProof.Rows
section
variable {prog : Program} {w : World} {A : Around} {E : Value → Shared → Prop} {s : Shared}
end
end HT
namespace L2
open PySem PySem.Spec PyProof.Rows
section
variable {X : Cx} {e : Expr} {te ts : TE} {st : Expr} {pos p2 : Pos}
end
end L2
namespace HT
open PySem PyProof.Rows
section
variable {prog : Program} {w : World} {A : Around} {E : Value → Shared → Prop} {s : Shared}
theorem JB {t sl : Addr} {items : Array Value} {vl vu : Value} {lo hi : Option Int} {Q : Value → Shared → Prop} (ht : IsTup s.heap t items) (hs : s.heap.IsSliceOf sl vl vu .none) (pl : IsPart vl lo) (pu : IsPart vu hi)
  (hw : Yv items.size 0 lo = 0 ∧ Yv items.size items.size hi = items.size)
  (h : Q (.ref t) s) : wpAny (model prog w) A (getItem (.ref t) (.ref sl)) Q E s := by
 obtain ⟨os, hos, hcs, hds⟩ := id hs
 have hTs : s.TypeIs (.ref sl) "slice" := ⟨os, hos, hcs⟩
 unfold getItem
 try with_reducible refine wpAny_holding ?_
 first | refine wpAny_bind (wpAny_pure ?_) | skip
 refine wpAny_bind (wpAny_sequenceKey ht.typeIs (by decide) ?_)
 refine wpAny_bind (wpAny_callSpecial?_slot (name := Str.ofString "__getitem__") ht.typeIs PyProof.Rows.slot_tuple_getitem
  (wpAny_call_entry PyProof.Rows.slot_tuple_getitem ht.typeIs entry_tuple_getitem ?_ (args_tuple_getitem _ _)))
 show wpAny _ _ (Builtin.Tuple.tupleItemsOf (.ref t) >>= _) _ _ s
 refine wpAny_bind (tupleItemsOf_ ht ?_)
 refine wpAny_bind (wpAny_typeOf hTs ?_)
 rw [if_pos (by decide)]
 refine wpAny_bind (WH hs pl pu ?_)
 have hyes : (((Yv items.size 0 lo : Nat) : Int) == 0 && (1 : Int) == 1 && (Yv items.size items.size hi - Yv items.size 0 lo) == items.size) = true := by
  rw [hw.1, hw.2]
  simp
 show wpAny _ _ (if (((Yv items.size 0 lo : Nat) : Int) == 0 && (1 : Int) == 1 && (Yv items.size items.size hi - Yv items.size 0 lo) == items.size) = true then _ else _) _ _ s
 rw [if_pos hyes]
 refine wpAny_bind ?_
 unfold Builtin.Tuple.tupleIsExact
 refine wpAny_bind (wpAny_typeOf ht.typeIs (wpAny_pure ?_))
 rw [if_pos (by decide)]
 refine wpAny_bind (wpAny_rule ?_)
 first
  | exact wpAny_pure ⟨_, rfl, wpAny_pure h⟩
  | exact wpAny_bind (wpAny_pure ⟨_, rfl, wpAny_pure h⟩)
end
end HT
namespace L2
open PySem PySem.Spec PyProof.Rows
section
variable {X : Cx}
def Zmo (K : PySem.W.Frag) : V → Option Int → Option Int → Hp → VK → Prop := fun x lo hi H Q => ∃ a xs, x = .ref a ∧ YW K H a xs ∧ (HT.Yv xs.length 0 lo = 0 ∧ HT.Yv xs.length xs.length hi = xs.length) ∧ Q (.ref a) H
theorem ZeY : SlR X (Zmo X.K) := by
 intro pins s σ H x v vl vu lo hi sl Q I rx hs pl pu h
 obtain ⟨a, xs, rfl, hx, hw, q⟩ := h
 cases rx
 obtain ⟨its, r, ht, hz⟩ := I.tuple hx
 have hlen : its.toArray.size = xs.length := by rw [Zh]; exact r.length.symm
 refine ⟨"tuple", _, PyProof.Rows.slot_tuple_getitem.lookup, ht.typeIs, ?_⟩
 exact HT.JB ht hs pl pu (by rw [hlen]; exact hw) ⟨.ref a, H, I, rfl, q⟩
end
end L2
namespace PyS
open PySem PySem.SetTable
def Xz (p : Array Nat) : Prop := p.toList.Pairwise (· < ·)
theorem Xz.lt {p : Array Nat} (h : Xz p) {i j : Nat} {x y : Nat} (hij : i < j) (hi : p[i]? = some x) (hj : p[j]? = some y) : x < y := by
 rw [← Array.getElem?_toList] at hi hj
 obtain ⟨li, rfl⟩ := List.getElem?_eq_some_iff.mp hi
 obtain ⟨lj, rfl⟩ := List.getElem?_eq_some_iff.mp hj
 exact List.pairwise_iff_getElem.mp h i j li lj hij
structure Zcp (p : Array Nat) (j k : Nat) : Prop where
 le : k ≤ p.size
 lo : ∀ i x, i < k → p[i]? = some x → x < j
 hi : ∀ i x, k ≤ i → p[i]? = some x → j ≤ x
theorem Zcd {p : Array Nat} (h : Xz p) (j : Nat) : ∀ (fuel lo hi : Nat), lo ≤ hi → hi ≤ p.size → hi - lo ≤ fuel → (∀ i x, i < lo → p[i]? = some x → x < j) → (∀ i x, hi ≤ i → p[i]? = some x → j ≤ x) → Zcp p j (below.go p j fuel lo hi)
 | 0, lo, hi, h1, h2, h3, h4, h5 => by
  have : lo = hi := by omega
  subst this
  exact ⟨h2, h4, h5⟩
 | fuel + 1, lo, hi, h1, h2, h3, h4, h5 => by
  unfold below.go
  by_cases hlt : lo < hi
  ·rw [if_pos hlt]
   dsimp only
   have hm : (lo + hi) / 2 < p.size := by omega
   have em : p[(lo + hi) / 2]? = some p[(lo + hi) / 2] := Array.getElem?_eq_getElem hm
   have eg : p.getD ((lo + hi) / 2) j = p[(lo + hi) / 2] := by rw [Array.getD_eq_getD_getElem?, em]; rfl
   rw [eg]
   by_cases hc : p[(lo + hi) / 2] < j
   ·rw [if_pos hc]
    refine Zcd h j fuel _ _ (by omega) h2 (by omega) (fun i x hi' e => ?_) h5
    by_cases e1 : i = (lo + hi) / 2
    ·subst e1
     rw [em] at e
     cases e
     exact hc
    ·exact Nat.lt_trans (h.lt (by omega) e em) hc
   ·rw [if_neg hc]
    refine Zcd h j fuel _ _ (by omega) (by omega) (by omega) h4 fun i x hi' e => ?_
    by_cases e1 : i = (lo + hi) / 2
    ·subst e1
     rw [em] at e
     cases e
     omega
    ·have := h.lt (by omega) em e
     omega
  ·rw [if_neg hlt]
   have : lo = hi := by omega
   subst this
   exact ⟨h2, h4, h5⟩
theorem UG {p : Array Nat} (h : Xz p) (j : Nat) : Zcp p j (below p j) := Zcd h j _ _ _ (Nat.zero_le _) (Nat.le_refl _) (by omega) (fun i x hi => absurd hi (Nat.not_lt_zero _)) (fun i x hi e => by
 rw [Array.getElem?_eq_none hi] at e
 cases e)
theorem Zcp.uniq {p : Array Nat} {j k k' : Nat} (a : Zcp p j k) (b : Zcp p j k') : k = k' := by
 have key : ∀ {k k' : Nat}, Zcp p j k → Zcp p j k' → ¬ k < k' := fun {k k'} a b hlt => by
  have hs : k < p.size := Nat.lt_of_lt_of_le hlt b.le
  have e : p[k]? = some p[k] := Array.getElem?_eq_getElem hs
  have h1 := b.lo k _ hlt e
  have h2 := a.hi k _ (Nat.le_refl _) e
  omega
 have := key a b
 have := key b a
 omega
theorem Xz.insert {p : Array Nat} (h : Xz p) {j : Nat} (hn : p[below p j]? ≠ some j) : Xz (insertAt p (below p j) j) := by
 have c := UG h j
 generalize below p j = k at c hn
 unfold Xz
 rw [toList_insertAt]
 have hm : ∀ y ∈ p.toList.take k, y < j := fun y hy => by
  obtain ⟨i, hi, rfl⟩ := List.mem_take_iff_getElem.mp hy
  have : i < p.size := by rw [← Array.length_toList]; omega
  exact c.lo i _ (by omega) (by rw [Array.getElem?_eq_getElem this]; simp)
 have hd : ∀ y ∈ p.toList.drop k, j < y := fun y hy => by
  obtain ⟨i, hi, rfl⟩ := List.mem_drop_iff_getElem.mp hy
  have hs : k + i < p.size := by rw [Array.length_toList] at hi; omega
  have h1 := c.hi (k + i) p[k + i] (by omega) (by rw [Array.getElem?_eq_getElem hs])
  have h2 : p[k + i] ≠ j := fun z => by
   by_cases e : i = 0
   ·subst e
    exact hn (by rw [← z]; exact Array.getElem?_eq_getElem (by simpa using hs))
   ·have hk : k < p.size := by omega
    have h3 := h.lt (i := k) (j := k + i) (by omega) (Array.getElem?_eq_getElem hk) (Array.getElem?_eq_getElem hs)
    have h4 := c.hi k _ (Nat.le_refl _) (Array.getElem?_eq_getElem hk)
    omega
  show j < p.toList[k + i]
  rw [Array.getElem_toList]
  omega
 rw [List.pairwise_append]
 refine ⟨List.Pairwise.sublist (List.take_sublist k _) h, ?_, fun a ha b hb => ?_⟩
 ·rw [List.pairwise_cons]
  exact ⟨hd, List.Pairwise.sublist (List.drop_sublist k _) h⟩
 ·rcases List.mem_cons.mp hb with hb | hb
  ·rw [hb]; exact hm a ha
  ·exact Nat.lt_trans (hm a ha) (hd b hb)
theorem XB {t : SetTable} (hd : t.dummies = #[]) {hashAt : Nat → Int} {h : Int} : ∀ (fuel : Nat) (p : Probe), p.dummy = none → ∀ {j : Nat} {d : Option Nat}, probe.go t hashAt h fuel p = some (.empty j d) → t.slot j = .empty ∧ d = none
 | 0, p, _, j, d, e => by
  unfold probe.go at e
  cases e
 | fuel + 1, p, hp, j, d, e => by
  unfold probe.go at e
  cases hs : t.slot p.j with
  | empty =>
   rw [hs] at e
   dsimp only at e
   have e := Option.some.inj e
   injection e with e1 e2
   subst e1
   exact ⟨hs, by rw [← e2]; exact hp⟩
  | dummy =>
   exfalso
   unfold SetTable.slot at hs
   dsimp only at hs
   split at hs
   ·cases hs
   ·split at hs
    ·rename_i hh
     unfold has at hh
     rw [hd] at hh
     simp at hh
    ·cases hs
  | live i =>
   rw [hs] at e
   dsimp only at e
   split at e
   ·cases e
   ·refine XB hd fuel _ ?_ e
    unfold advance
    split
    ·exact hp
    ·exact hp
theorem Zea {t : SetTable} (hd : t.dummies = #[]) {h : Int} {j : Nat} {b : Bool} (e : t.freeSlot h = some (j, b)) : t.place[below t.place j]? ≠ some j := by
 unfold SetTable.freeSlot at e
 split at e
 ·rename_i j' d' e'
  have e := Option.some.inj e
  injection e with e1 e2
  obtain ⟨h1, h2⟩ := XB hd _ _ rfl e'
  subst h2
  have e1 : j' = j := e1
  subst e1
  unfold SetTable.slot at h1
  dsimp only at h1
  split at h1
  ·cases h1
  ·rename_i hne
   intro z
   exact hne (by rw [z]; simp)
 ·cases e
structure Wk (t : SetTable) (led : Bool) : Prop where
 rise : Xz t.place
 dum : t.dummies = #[]
 led : t.led = led
theorem ZbX (n : Nat) : Xz (Array.range n) := by
 unfold Xz
 rw [Array.toList_range]
 exact List.pairwise_lt_range
theorem Wk.standIn {t : SetTable} {led : Bool} (h : t.led = led) (n : Nat) : Wk (t.standIn n) led := ⟨ZbX n, rfl, h⟩
theorem Wk.lay {t : SetTable} {led : Bool} (W : Wk t led) (es : Array (Int × Value)) (h : Int) (x : Value) : Wk (layNew t es h x).2.1 led := by
 unfold layNew
 split
 ·rename_i slot was e
  dsimp only
  have hne := Zea W.dum e
  have hp : Wk (t.put slot).1 led := by
   unfold put
   dsimp only
   refine ⟨W.rise.insert hne, ?_, W.led⟩
   dsimp only
   rw [W.dum]
   unfold has
   simp
  unfold SetTable.orStandIn
  split
  ·exact hp
  ·exact .standIn hp.led _
 ·exact .standIn W.led _
theorem Zhh {n : Nat} (g : Nat → Option Nat) : (((List.range n).filterMap fun j => (g j).map (j, ·)).map (·.1)).Pairwise (· < ·) := by
 have e : ∀ l : List Nat, (l.filterMap fun j => (g j).map (j, ·)).map (·.1) = l.filter fun j => (g j).isSome := fun l => by
  induction l with
  | nil => rfl
  | cons a l ih =>
   rw [List.filterMap_cons, List.filter_cons]
   cases h : g a with
   | none => rw [Option.map_none]; dsimp only; rw [ih]; rfl
   | some b => rw [Option.map_some]; dsimp only; rw [List.map_cons, ih]; rfl
 rw [e]
 exact List.Pairwise.sublist List.filter_sublist List.pairwise_lt_range
theorem Wk.relay {t : SetTable} {led : Bool} (W : Wk t led) (es : Array (Int × Value)) (wanted : Nat) : Wk (relayAll t es wanted).2.1 led := by
 unfold relayAll
 split
 ·rename_i t' order e
  dsimp only
  split
  ·dsimp only
   unfold relaid laid at e
   cases ho : layClean (sizeAbove wanted - 1) (es.map (·.1)) with
   | none => rw [ho] at e; cases e
   | some owner =>
    rw [ho] at e
    have e := Option.some.inj e
    injection e with e1 e2
    subst e1
    refine ⟨?_, rfl, W.led⟩
    unfold Xz
    exact Zhh _
  ·exact .standIn W.led _
 ·exact .standIn W.led _
theorem Wk.plain {t : SetTable} {led : Bool} (W : Wk t led) (b : Bool) : Wk { t with plain := b } led := ⟨W.rise, W.dum, W.led⟩
theorem Wk.fresh (led : Bool) : Wk (SetTable.fresh 0 0 led) led := ⟨List.Pairwise.nil, rfl, rfl⟩
theorem Zc4 {p : Array Nat} (h : Xz p) {i : Nat} {slot : Nat} (hi : i ≤ p.size) (hs : (i = 0 ∧ slot = 0) ∨ (∃ j x, i = j + 1 ∧ p[j]? = some x ∧ slot = x + 1)) : below p slot = i := by
 refine (UG h slot).uniq ⟨hi, fun k x hk e => ?_, fun k x hk e => ?_⟩
 ·rcases hs with ⟨rfl, _⟩ | ⟨j, y, rfl, ey, rfl⟩
  ·omega
  ·by_cases e1 : k = j
   ·subst e1
    rw [ey] at e
    cases e
    omega
   ·have := h.lt (by omega) e ey
    omega
 ·rcases hs with ⟨_, rfl⟩ | ⟨j, y, rfl, ey, rfl⟩
  ·omega
  ·have := h.lt (by omega) ey e
   omega
theorem JM {α : Type} : ∀ {l : List α} {i : Nat} {x : α}, l[i]? = some x → List.Perm (x :: l.eraseIdx i) l
 | [], i, x, e => by cases e
 | a :: l, 0, x, e => by cases e; exact List.Perm.refl _
 | a :: l, i + 1, x, e => by
  rw [List.getElem?_cons_succ] at e
  rw [List.eraseIdx_cons_succ]
  exact (List.Perm.swap a x _).trans ((JM e).cons a)
theorem Uf {α : Type} (next : Nat → Nat) : ∀ (fuel k : Nat) (left : List α) (out : Array α), left.length ≤ fuel → List.Perm (pickOrder.go next fuel k left out).toList (out.toList ++ left)
 | 0, k, left, out, h => by
  have : left = [] := List.length_eq_zero_iff.mp (by omega)
  subst this
  unfold pickOrder.go
  rw [List.append_nil]
 | fuel + 1, k, left, out, h => by
  unfold pickOrder.go
  split
  ·rename_i x e
   have hl := (List.getElem?_eq_some_iff.mp e).1
   refine (Uf next fuel (k + 1) _ _ (by rw [List.length_eraseIdx]; split <;> omega)).trans ?_
   rw [Array.toList_push, List.append_assoc]
   refine List.Perm.append_left _ ?_
   exact JM e
  ·rename_i e
   have : left = [] := by
    rcases left with _ | ⟨a, l⟩
    ·rfl
    ·exfalso
     rw [List.getElem?_eq_none_iff] at e
     have := Nat.mod_lt (next k) (show 0 < (a :: l).length by rw [Zi]; omega)
     omega
   subst this
   rw [List.append_nil]
theorem Ww {α : Type} (next : Nat → Nat) (xs : Array α) : List.Perm (pickOrder next xs).toList xs.toList := by
 unfold pickOrder
 have := Uf next xs.size 0 xs.toList #[] (by rw [Array.length_toList]; exact Nat.le_refl _)
 simpa using this
end PyS
namespace PyS
open PySem
theorem ZM : Slot "set_iterator" "__next__" "set_iterator.__next__" :=
 .of (owner := "set_iterator") (n := "__next__") (by rw [typeLookup_type, builtinLookup_eq_fast]; kernel_rfl) (by decide +kernel) (by decide +kernel) (by decide +kernel)
  (by first | exact .inl (by decide +kernel) | exact .inr (by decide +kernel)) (by rw [isSubtype_type]; kernel_rfl)
theorem Y4 : entryFor table "set_iterator.__next__" = some Builtin.«set_iterator.__next__» := entryFor_of_tree (by kernel_rfl)
theorem ZaX : Manifest.owners.lookup (String.ofList ['r', 'o', 't', 'a', 'r', 'e', 't', 'i', '_', 't', 'e', 's'].reverse) = some Manifest.sig_set_iterator := by kernel_rfl
theorem Wm (a : Value) : argsOk "set_iterator.__next__" ⟨[a], []⟩ := by
 unfold argsOk; rw [signature?_of (id := "set_iterator.__next__") (n := ['_', '_', 't', 'x', 'e', 'n', '_', '_']) (o := ['r', 'o', 't', 'a', 'r', 'e', 't', 'i', '_', 't', 'e', 's']) (by kernel_rfl) ZaX]; kernel_rfl
theorem JV : Slot "set_iterator" "__iter__" "set_iterator.__iter__" :=
 .of (owner := "set_iterator") (n := "__iter__") (by rw [typeLookup_type, builtinLookup_eq_fast]; kernel_rfl) (by decide +kernel) (by decide +kernel) (by decide +kernel)
  (by first | exact .inl (by decide +kernel) | exact .inr (by decide +kernel)) (by rw [isSubtype_type]; kernel_rfl)
theorem V2 : entryFor table "set_iterator.__iter__" = some Builtin.«dict_keyiterator.__iter__» := entryFor_alias (id' := "dict_keyiterator.__iter__") (by kernel_rfl) rfl (by decide +kernel) (by kernel_rfl)
theorem Zap (a : Value) : argsOk "set_iterator.__iter__" ⟨[a], []⟩ := by
 unfold argsOk; rw [signature?_of (id := "set_iterator.__iter__") (n := ['_', '_', 'r', 'e', 't', 'i', '_', '_']) (o := ['r', 'o', 't', 'a', 'r', 'e', 't', 'i', '_', 't', 'e', 's']) (by kernel_rfl) ZaX]; kernel_rfl
theorem VD : entryFor table "set.__iter__" = some Builtin.«frozenset.__iter__» := entryFor_alias (id' := "frozenset.__iter__") (by kernel_rfl) rfl (by decide +kernel) (by kernel_rfl)
def W2 (h : Heap) (a : Addr) (es : Array (Int × Value)) (ep : Nat) (t : SetTable) : Prop := ∃ o, h.get? a = some o ∧ o.ExactSet ∧ o.data = .set es ep t ∧ t.fits es.size = true
def YB (h : Heap) (I : Addr) (first : Value) (i : Nat) (a : Addr) (n ep : Nat) : Prop := ∃ o, h.get? I = some o ∧ o.cls = .type "set_iterator" ∧ o.data = .fields #[first, .int i 0, .ref a, .int n 0, .int ep 0]
theorem W2.keep {h h' : Heap} {a : Addr} {es : Array (Int × Value)} {ep : Nat} {t : SetTable} (S : W2 h a es ep t) (k : ∀ o, h.get? a = some o → h'.get? a = some o) : W2 h' a es ep t := let ⟨o, e, r⟩ := S; ⟨o, k o e, r⟩
theorem YB.keep {h h' : Heap} {I : Addr} {first : Value} {i : Nat} {a : Addr} {n ep : Nat} (S : YB h I first i a n ep) (k : ∀ o, h.get? I = some o → h'.get? I = some o) : YB h' I first i a n ep := let ⟨o, e, r⟩ := S; ⟨o, k o e, r⟩
section
variable {prog : Program} {w : World} {A : Around} {E : Value → Shared → Prop} {s : Shared} {I a : Addr} {es : Array (Int × Value)} {ep : Nat} {t : SetTable} {first : Value} {i n : Nat}
theorem YB.typeIs (h : YB s.heap I first i a n ep) : s.TypeIs (.ref I) "set_iterator" := let ⟨o, e, c, _⟩ := h; ⟨o, e, c⟩
theorem W2.typeIs (h : W2 s.heap a es ep t) : s.TypeIs (.ref a) "set" := let ⟨o, e, c, _⟩ := h; ⟨o, e, c.1⟩
theorem W2.state (h : W2 s.heap a es ep t) {Q : (Array (Int × Value) × Nat × SetTable) → Shared → Prop} (q : Q (es, ep, t) s) : wpAny (model prog w) A (setState a) Q E s := let ⟨_, e, _, d, f⟩ := h; wpAny_setState_of e d f q
theorem W2.entries (h : W2 s.heap a es ep t) {Q : Array (Int × Value) → Shared → Prop} (q : Q es s) : wpAny (model prog w) A (setEntries a) Q E s := by
 unfold setEntries
 exact wpAny_bind (h.state (wpAny_pure q))
theorem W2.epoch (h : W2 s.heap a es ep t) {Q : Nat → Shared → Prop} (q : Q ep s) : wpAny (model prog w) A (setEpoch a) Q E s := by
 unfold setEpoch
 exact wpAny_bind (h.state (wpAny_pure q))
theorem Zao {Q : Bool → Shared → Prop} (q : Q (w.params.followText "set-order") s) : wpAny (model prog w) A setsByText Q E s := by
 unfold setsByText
 exact wpAny_bind (wpAny_askSetting (wpAny_pure q))
theorem YB.turn {h : Heap} {o : Obj} (e : h.get? I = some o) (c : o.cls = .type "set_iterator") (d : o.data = .fields #[first, .int i 0, .ref a, .int n 0, .int ep 0]) (next : Value) :
  YB ((h.update I (Obj.mapFields (·.setIfInBounds 0 next))).update I (Obj.mapFields (·.setIfInBounds 1 (rawInt ((i : Int) + 1))))) I next (i + 1) a n ep := by
 have h1 := Heap.get?_update_self (Obj.mapFields (·.setIfInBounds 0 next)) e (Obj.isFreed_of_fields (Obj.data_mapFields d _))
 have d1 := Obj.data_mapFields d (·.setIfInBounds 0 next)
 refine ⟨_, Heap.get?_update_self _ h1 (Obj.isFreed_of_fields (Obj.data_mapFields d1 _)), ?_, ?_⟩
 ·rw [Obj.cls_mapFields, Obj.cls_mapFields, c]
 ·rw [Obj.data_mapFields d1]
  simp [rawInt]
theorem Za6 {slot : Nat} {Q : Option Value → Shared → Prop} (hI : YB s.heap I (.int slot 0) i a n ep) (hS : W2 s.heap a es ep t) (hn : es.size = n) {x : Value} {nx : Nat}
  (hN : ∀ {R : Option (Value × Nat) → Shared → Prop} {A' : Around} {E' : Value → Shared → Prop}, R (some (x, nx)) s → wpAny (model prog w) A' (setNext a slot i ep) R E' s)
  (q : ∀ h', YB h' I (.int nx 0) (i + 1) a n ep → Heap.SameBut I s.heap h' → Q (some x) { s with heap := h' }) : wpAny (model prog w) A (pyNext (.ref I)) Q E s := by
 obtain ⟨o, e, c, d⟩ := id hI
 unfold pyNext
 refine wpAny_bind (wpAny_attempt (wpAny_callSpecial?_slot (name := Str.ofString "__next__") hI.typeIs ZM (wpAny_call_entry ZM hI.typeIs Y4 ?_ (Wm _))))
 unfold Builtin.«set_iterator.__next__»
 refine wpAny_bind (wpAny_pure ?_)
 refine wpAny_bind (wpAny_fieldsOf e d ?_)
 refine wpAny_bind (hS.entries ?_)
 rw [hn]
 rw [if_neg (by simp)]
 show wpAny _ _ (setNext a slot i ep >>= _) _ _ s
 refine wpAny_bind (hN ?_)
 dsimp only
 refine wpAny_bind (wpAny_setField e d (by simp) ?_)
 have h1 := Heap.get?_update_self (Obj.mapFields (·.setIfInBounds 0 (rawInt nx))) e (Obj.isFreed_of_fields (Obj.data_mapFields d _))
 have d1 := Obj.data_mapFields d (·.setIfInBounds 0 (rawInt nx))
 refine wpAny_bind (wpAny_setField h1 d1 (by simp) ?_)
 exact wpAny_pure ⟨_, rfl, wpAny_pure (q _ (YB.turn e c d _) ((Heap.SameBut.update ..).trans (Heap.SameBut.update ..)))⟩
theorem ZaB {h : Heap} {Q : Option Value → Shared → Prop} {F : Fin → Shared → Prop} (hh : A.handled = none) (q : ∀ h', (∀ b o, h.get? b = some o → h'.get? b = some o) → Q none { s with heap := h' }) :
  wpAny (model prog w) A.in1 (do let x ← newExc (.type "StopIteration") []; raiseNew (α := Fin) x) F (fun e s' => wpAny (model prog w) A (do let b ← isInstance e (.type "StopIteration"); if b = true then pure none else throw e) Q E s') { s with heap := h } := by
 refine wpAny_bind ?_
 unfold newExc newTuple
 refine wpAny_bind (wpAny_newObj_type (Q := _) ?_ (by size_fits))
 refine wpAny_bind (m := firstArgMember _ _) (wpAny_of_eq (a := Value.none) (by first | rfl | (unfold firstArgMember; rfl)) ?_)
 refine wpAny_newObj_type (Q := _) ?_ (by size_fits)
 unfold raiseNew
 refine wpAny_bind (wpAny_handled ?_)
 rw [show A.in1.handled = none from hh]
 refine wpAny_bind (wpAny_pure (wpAny_throw ?_))
 refine wpAny_bind (wpAny_isInstance (T := "StopIteration") (b := true) ⟨_, Heap.get?_push_size _ rfl, rfl⟩ isSubtype_stop ?_)
 exact wpAny_pure (q _ fun b o e => Heap.get?_push_of_some _ (Heap.get?_push_of_some _ e))
theorem Zdj {slot : Nat} {Q : Option Value → Shared → Prop} (hh : A.handled = none) (hI : YB s.heap I (.int slot 0) i a n ep) (hS : W2 s.heap a es ep t) (hn : es.size = n)
  (hN : ∀ {R : Option (Value × Nat) → Shared → Prop} {A' : Around} {E' : Value → Shared → Prop}, R none s → wpAny (model prog w) A' (setNext a slot i ep) R E' s)
  (q : ∀ h', (∀ b o, b ≠ I → s.heap.get? b = some o → h'.get? b = some o) → Q none { s with heap := h' }) : wpAny (model prog w) A (pyNext (.ref I)) Q E s := by
 obtain ⟨o, e, c, d⟩ := id hI
 unfold pyNext
 refine wpAny_bind (wpAny_attempt (wpAny_callSpecial?_slot (name := Str.ofString "__next__") hI.typeIs ZM (wpAny_call_entry ZM hI.typeIs Y4 ?_ (Wm _))))
 unfold Builtin.«set_iterator.__next__»
 refine wpAny_bind (wpAny_pure ?_)
 refine wpAny_bind (wpAny_fieldsOf e d ?_)
 refine wpAny_bind (hS.entries ?_)
 rw [hn]
 rw [if_neg (by simp)]
 show wpAny _ _ (setNext a slot i ep >>= _) _ _ s
 refine wpAny_bind (hN ?_)
 dsimp only
 refine wpAny_bind (wpAny_setField e d (by simp) ?_)
 exact ZaB hh fun h' k => q h' fun b o' hb e' => k b o' ((Heap.SameBut.update s.heap I _).extBut b o' hb e')
theorem Zc3 (ht : w.params.followText "set-order" = true) (hS : W2 s.heap a es ep t) {slot : Nat} {R : Option (Value × Nat) → Shared → Prop}
  (q : R (((pickOrder (w.params.setOrder a ep) es)[i]?).map fun e => (e.2, slot)) s) : wpAny (model prog w) A (setNext a slot i ep) R E s := by
 unfold setNext
 refine wpAny_bind (hS.state ?_)
 dsimp only
 refine wpAny_bind (Zao ?_)
 rw [ht, if_pos rfl, if_neg (by simp)]
 refine wpAny_bind ?_
 unfold setWalk
 refine wpAny_bind (hS.state ?_)
 dsimp only
 refine wpAny_bind (Zao ?_)
 rw [ht, if_pos rfl]
 exact wpAny_bind (wpAny_askSetting (wpAny_pure (wpAny_pure q)))
theorem Za1 (ht : w.params.followText "set-order" = false) (hS : W2 s.heap a es ep t) (hd : t.plain = true ∨ es.size ≤ 1) (hl : t.led = true) {slot : Nat} {R : Option (Value × Nat) → Shared → Prop}
  (q : R (match es[SetTable.below t.place slot]?, t.place[SetTable.below t.place slot]? with | some (_, x), some j => some (x, j + 1) | _, _ => none) s) : wpAny (model prog w) A (setNext a slot i ep) R E s := by
 unfold setNext
 refine wpAny_bind (hS.state ?_)
 dsimp only
 refine wpAny_bind (Zao ?_)
 rw [ht, if_neg (by decide)]
 show wpAny _ _ (if (!t.plain && decide (es.size > 1)) = true then _ else _) _ _ s
 rw [if_neg (by
  rcases hd with hd | hd
  ·rw [hd]; simp
  ·rw [decide_eq_false (by omega), Bool.and_false]; decide)]
 show wpAny _ _ ((if (!t.led && !es.isEmpty) = true then _ else _) >>= _) _ _ s
 rw [hl]
 exact wpAny_bind (wpAny_pure (wpAny_pure q))
theorem Zb5 {T0 : Addr} {ps : Array Value} {pl : Nat} {Q : Option Value → Shared → Prop} (hI : YB s.heap I (.ref T0) i a n ep) (hT : ∃ o k, s.heap.get? T0 = some o ∧ o.data = .seq ps k) (hS : W2 s.heap a es ep t) (hn : es.size = n) (hp : ps[i]? = some (.int pl 0)) {h : Int} {x : Value} (hx : es[pl]? = some (h, x))
  (q : ∀ h', YB h' I (.ref T0) (i + 1) a n ep → Heap.SameBut I s.heap h' → Q (some x) { s with heap := h' }) : wpAny (model prog w) A (pyNext (.ref I)) Q E s := by
 obtain ⟨o, e, c, d⟩ := id hI
 obtain ⟨ot, k, et, dt⟩ := hT
 unfold pyNext
 refine wpAny_bind (wpAny_attempt (wpAny_callSpecial?_slot (name := Str.ofString "__next__") hI.typeIs ZM (wpAny_call_entry ZM hI.typeIs Y4 ?_ (Wm _))))
 unfold Builtin.«set_iterator.__next__»
 refine wpAny_bind (wpAny_pure ?_)
 refine wpAny_bind (wpAny_fieldsOf e d ?_)
 refine wpAny_bind (hS.entries ?_)
 rw [hn]
 rw [if_neg (by simp)]
 show wpAny _ _ (seqItems? (.ref T0) >>= _) _ _ s
 refine wpAny_bind (wpAny_seqItems et dt ?_)
 dsimp only
 rw [Zj, hp]
 show wpAny _ _ (setNextDrawn a pl ep >>= _) _ _ s
 refine wpAny_bind ?_
 unfold setNextDrawn
 refine wpAny_bind (hS.state ?_)
 dsimp only
 rw [if_neg (by simp), hx]
 refine wpAny_pure ?_
 refine wpAny_bind (wpAny_setField e d (by simp) ?_)
 refine wpAny_pure ⟨_, rfl, wpAny_pure (q _ ⟨_, Heap.get?_update_self _ e (Obj.isFreed_of_fields (Obj.data_mapFields d _)), ?_, ?_⟩ (Heap.SameBut.update ..))⟩
 ·rw [Obj.cls_mapFields, c]
 ·rw [Obj.data_mapFields d]
  simp [rawInt]
theorem Zef {T0 : Addr} {ps : Array Value} {Q : Option Value → Shared → Prop} (hh : A.handled = none) (hI : YB s.heap I (.ref T0) i a n ep) (hT : ∃ o k, s.heap.get? T0 = some o ∧ o.data = .seq ps k) (hS : W2 s.heap a es ep t) (hn : es.size = n) (hp : ps[i]? = none)
  (q : ∀ h', (∀ b o, b ≠ I → s.heap.get? b = some o → h'.get? b = some o) → Q none { s with heap := h' }) : wpAny (model prog w) A (pyNext (.ref I)) Q E s := by
 obtain ⟨o, e, c, d⟩ := id hI
 obtain ⟨ot, k, et, dt⟩ := hT
 unfold pyNext
 refine wpAny_bind (wpAny_attempt (wpAny_callSpecial?_slot (name := Str.ofString "__next__") hI.typeIs ZM (wpAny_call_entry ZM hI.typeIs Y4 ?_ (Wm _))))
 unfold Builtin.«set_iterator.__next__»
 refine wpAny_bind (wpAny_pure ?_)
 refine wpAny_bind (wpAny_fieldsOf e d ?_)
 refine wpAny_bind (hS.entries ?_)
 rw [hn]
 rw [if_neg (by simp)]
 show wpAny _ _ (seqItems? (.ref T0) >>= _) _ _ s
 refine wpAny_bind (wpAny_seqItems et dt ?_)
 dsimp only
 rw [Zj, hp]
 dsimp only
 refine wpAny_bind (wpAny_setField e d (by simp) ?_)
 have h1 := Heap.get?_update_self (Obj.mapFields (·.setIfInBounds 0 (rawInt 0))) e (Obj.isFreed_of_fields (Obj.data_mapFields d _))
 have d1 := Obj.data_mapFields d (·.setIfInBounds 0 (rawInt 0))
 refine wpAny_bind (wpAny_setField h1 d1 (by simp) ?_)
 exact ZaB hh fun h' k => q h' fun b o' hb e' => k b o' (((Heap.SameBut.update s.heap I _).trans (Heap.SameBut.update _ I _)).extBut b o' hb e')
theorem Zel {src : Source} {m : Nat} {Q : Nat → Shared → Prop} (hm : m ≠ 0) (q : ∀ k dr, k < m → Q k { s with drawn := dr }) : wpAny (model prog w) A (choose src m) Q E s := fun _ _ _ => ⟨hm, q _ _ (Nat.mod_lt _ (by omega))⟩
theorem Uy {α : Type} : ∀ (m : Nat) (xs : List α) {s : Shared} {Q : List α → Shared → Prop}, xs.length ≤ m → (∀ ys dr, List.Perm ys xs → Q ys { s with drawn := dr }) → wpAny (model prog w) A (drawOrder m xs) Q E s
 | 0, xs, s, Q, h, q => by
  have : xs = [] := List.length_eq_zero_iff.mp (by omega)
  subst this
  unfold drawOrder
  exact wpAny_pure (q [] s.drawn (List.Perm.refl _))
 | m + 1, [], s, Q, h, q => by
  unfold drawOrder
  exact wpAny_pure (q [] s.drawn (List.Perm.refl _))
 | m + 1, x :: xs, s, Q, h, q => by
  unfold drawOrder
  refine wpAny_bind (Zel (by rw [Zi]; omega) fun k dr hk => ?_)
  rw [Zf hk]
  dsimp only
  refine wpAny_bind (Uy m _ (by rw [List.length_eraseIdx, if_pos hk]; omega) fun ys dr' hp => wpAny_pure ?_)
  exact q _ dr' ((hp.cons _).trans (JM (Zf hk)))
end
section
variable {prog : Program} {w : World} {A : Around} {E : Value → Shared → Prop} {s : Shared} {I a : Addr} {es : Array (Int × Value)} {ep : Nat} {t : SetTable} {first : Value} {i n : Nat}
theorem UU {Q : Value → Shared → Prop} (hI : YB s.heap I first i a n ep) (q : Q (.ref I) s) : wpAny (model prog w) A (pyIter (.ref I)) Q E s := by
 refine wpAny_pyIter_slot hI.typeIs JV (wpAny_call_entry JV hI.typeIs V2 ?_ (Zap _))
 show wpAny _ _ (ret (.ref I)) _ _ s
 exact wpAny_pure ⟨_, rfl, "set_iterator", _, hI.typeIs, ZM.lookup, q⟩
def vals (es : Array (Int × Value)) : List Value := es.toList.map (·.2)
theorem Zdz (hh : A.handled = none) (ht : w.params.followText "set-order" = true) (hne : a ≠ I) :
  Walks prog w A I [I, a] [I] es.size (fun i v => ((pickOrder (w.params.setOrder a ep) es).toList.map (·.2))[i]? = some v) (fun i h => YB h I (.int 0 0) i a es.size ep ∧ W2 h a es ep t) where
 sub := fun b hb => by simp at hb; simp [hb]
 frame := fun _ _ _ st k => ⟨st.1.keep fun o e => k I (by simp) o e, st.2.keep fun o e => k a (by simp) o e⟩
 item := fun i s Q E hi st hQ => by
  have hp := Ww (w.params.setOrder a ep) es
  have hl : (pickOrder (w.params.setOrder a ep) es).size = es.size := by rw [← Array.length_toList, hp.length_eq, Array.length_toList]
  have e : (pickOrder (w.params.setOrder a ep) es)[i]? = some ((pickOrder (w.params.setOrder a ep) es)[i]'(by omega)) := Array.getElem?_eq_getElem (by omega)
  generalize (pickOrder (w.params.setOrder a ep) es)[i]'(by omega) = y at e
  refine Za6 (slot := 0) (x := y.2) (nx := 0) st.1 st.2 rfl (fun {R A' E'} r => Zc3 ht st.2 (by rw [e]; exact r)) fun h' i' sb => ?_
  refine hQ y.2 h' s.toks ?_ ⟨i', st.2.keep fun o e => sb.extBut a o hne e⟩ fun b o hb e => sb.extBut b o (fun z => hb (by simp [z])) e
  rw [Zc, Array.getElem?_toList, e]
  rfl
 done := fun s Q E st hQ => by
  have hp := Ww (w.params.setOrder a ep) es
  have hl : (pickOrder (w.params.setOrder a ep) es).size = es.size := by rw [← Array.length_toList, hp.length_eq, Array.length_toList]
  refine Zdj (slot := 0) hh st.1 st.2 rfl (fun {R A' E'} r => Zc3 ht st.2 (by rw [Array.getElem?_eq_none (by omega)]; exact r)) fun h' k => hQ h' s.toks fun b o hb e => k b o (fun z => hb (by simp [z])) e
 self := fun _ _ _ _ st hQ => UU st.1 hQ
theorem ZbK (hh : A.handled = none) (ht : w.params.followText "set-order" = false) (hd : t.plain = true ∨ es.size ≤ 1) (W : Wk t true) (hne : a ≠ I) :
  Walks prog w A I [I, a] [I] es.size (fun i v => (vals es)[i]? = some v) (fun i h => ∃ slot : Nat, ((i = 0 ∧ slot = 0) ∨ (∃ j x, i = j + 1 ∧ t.place[j]? = some x ∧ slot = x + 1)) ∧ YB h I (.int slot 0) i a es.size ep ∧ W2 h a es ep t) where
 sub := fun b hb => by simp at hb; simp [hb]
 frame := fun _ _ _ st k => by
  obtain ⟨slot, h1, h2, h3⟩ := st
  exact ⟨slot, h1, h2.keep fun o e => k I (by simp) o e, h3.keep fun o e => k a (by simp) o e⟩
 item := fun i s Q E hi st hQ => by
  obtain ⟨slot, h1, h2, h3⟩ := st
  have hf : t.place.size = es.size := by
   obtain ⟨_, _, _, _, f⟩ := h3
   simp only [SetTable.fits, Bool.and_eq_true, beq_iff_eq] at f
   exact f.1
  have hb := Zc4 W.rise (i := i) (slot := slot) (by omega) h1
  have e1 : es[i]? = some es[i] := Array.getElem?_eq_getElem hi
  have e2 : t.place[i]? = some (t.place[i]'(by omega)) := Array.getElem?_eq_getElem (by omega)
  generalize es[i] = y at e1
  generalize t.place[i]'(by omega) = j at e2
  refine Za6 (slot := slot) (x := y.2) (nx := j + 1) h2 h3 rfl (fun {R A' E'} r => Za1 ht h3 hd W.led (by rw [hb, e1, e2]; exact r)) fun h' i' sb => ?_
  refine hQ y.2 h' s.toks ?_ ⟨j + 1, .inr ⟨i, j, rfl, e2, rfl⟩, i', h3.keep fun o e => sb.extBut a o hne e⟩ fun b o hb e => sb.extBut b o (fun z => hb (by simp [z])) e
  show (es.toList.map (·.2))[i]? = some y.2
  rw [Zc, Array.getElem?_toList, e1]
  rfl
 done := fun s Q E st hQ => by
  obtain ⟨slot, h1, h2, h3⟩ := st
  have hf : t.place.size = es.size := by
   obtain ⟨_, _, _, _, f⟩ := h3
   simp only [SetTable.fits, Bool.and_eq_true, beq_iff_eq] at f
   exact f.1
  have hb := Zc4 W.rise (i := es.size) (slot := slot) (by omega) h1
  refine Zdj (slot := slot) hh h2 h3 rfl (fun {R A' E'} r => Za1 ht h3 hd W.led (by rw [hb, Array.getElem?_eq_none (Nat.le_refl _)]; exact r)) fun h' k => hQ h' s.toks fun b o hb e => k b o (fun z => hb (by simp [z])) e
 self := fun _ _ _ _ st hQ => by
  obtain ⟨slot, h1, h2, h3⟩ := st
  exact UU h2 hQ
theorem ZbL (hh : A.handled = none) {T0 : Addr} {ps : List Nat} (hp : List.Perm ps (List.range es.size)) (hne : a ≠ I) (hnT : T0 ≠ I) :
  Walks prog w A I [I, a, T0] [I] es.size (fun i v => (ps.filterMap fun p => (es[p]?).map (·.2))[i]? = some v) (fun i h => YB h I (.ref T0) i a es.size ep ∧ W2 h a es ep t ∧ ∃ o k, h.get? T0 = some o ∧ o.data = .seq (ps.map fun (p : Nat) => rawInt p).toArray k) where
 sub := fun b hb => by simp at hb; simp [hb]
 frame := fun _ _ _ st k => by
  obtain ⟨h1, h2, o, k0, h3, h4⟩ := st
  exact ⟨h1.keep fun o e => k I (by simp) o e, h2.keep fun o e => k a (by simp) o e, o, k0, k T0 (by simp) o h3, h4⟩
 item := fun i s Q E hi st hQ => by
  obtain ⟨h1, h2, h3⟩ := st
  have hl : ps.length = es.size := by rw [hp.length_eq, Zg]
  have e0 : ps[i]? = some (ps[i]'(by omega)) := Zf (by omega)
  have hm : ps[i]'(by omega) < es.size := List.mem_range.mp (hp.mem_iff.mp (List.getElem_mem _))
  generalize ps[i]'(by omega) = pl at e0 hm
  have e1 : es[pl]? = some es[pl] := Array.getElem?_eq_getElem hm
  generalize es[pl] = y at e1
  obtain ⟨hv, x⟩ := y
  refine Zb5 (pl := pl) h1 h3 h2 rfl (by simp [e0, rawInt]) e1 fun h' i' sb => ?_
  obtain ⟨o, k0, h3, h4⟩ := h3
  refine hQ x h' s.toks ?_ ⟨i', h2.keep fun o e => sb.extBut a o hne e, o, k0, sb.extBut T0 o hnT h3, h4⟩ fun b o hb e => sb.extBut b o (fun z => hb (by simp [z])) e
  have all : ∀ (l : List Nat), (∀ p ∈ l, p < es.size) → (l.filterMap fun p => (es[p]?).map (·.2)) = l.map fun p => (es.getD p (0, .none)).2 := fun l => by
   induction l with
   | nil => intro _; rfl
   | cons p l ih =>
    intro h
    have hp := h p List.mem_cons_self
    rw [List.filterMap_cons, Array.getElem?_eq_getElem hp, Option.map_some, List.map_cons, ih fun q hq => h q (List.mem_cons_of_mem _ hq)]
    dsimp only
    rw [Array.getD_eq_getD_getElem?, Array.getElem?_eq_getElem hp]
    rfl
  rw [all ps fun p hm => List.mem_range.mp (hp.mem_iff.mp hm), Zc, e0, Option.map_some, Array.getD_eq_getD_getElem?, e1]
  rfl
 done := fun s Q E st hQ => by
  obtain ⟨h1, h2, h3⟩ := st
  have hl : ps.length = es.size := by rw [hp.length_eq, Zg]
  refine Zef hh h1 h3 h2 rfl (by rw [Array.getElem?_eq_none (by simp [hl])]) fun h' k => hQ h' s.toks fun b o hb e => k b o (fun z => hb (by simp [z])) e
 self := fun _ _ _ _ st hQ => UU st.1 hQ
theorem ZeZ (hz : es.size ≤ sizeLine) (hS : W2 s.heap a es ep t) (W : Wk t (!w.params.followText "set-order")) {Q : Value → Shared → Prop}
  (q : ∀ (I : Addr) (fp : List Addr) (h' : Heap) (dr : Drawn) (L : List Value) (St : Nat → Heap → Prop), s.heap.objs.size ≤ I → (∀ b ∈ fp, b = a ∨ s.heap.objs.size ≤ b) → (∀ b o, s.heap.get? b = some o → h'.get? b = some o) → List.Perm L (vals es) →
   (∀ A' : Around, A'.handled = none → Walks prog w A' I fp [I] es.size (fun i v => L[i]? = some v) St) → St 0 h' → Q (.ref I) { s with heap := h', drawn := dr }) :
  wpAny (model prog w) A (pyIter (.ref a)) Q E s := by
 have ha : a < s.heap.objs.size := let ⟨o, e, _⟩ := hS; Heap.lt_size e
 refine wpAny_pyIter_slot hS.typeIs F.slot_set_iter (wpAny_call_entry F.slot_set_iter hS.typeIs VD ?_ (F.args_set_iter_1 _))
 unfold Builtin.«frozenset.__iter__»
 show wpAny _ _ (pure a >>= _) _ _ s
 refine wpAny_bind (wpAny_pure ?_)
 refine wpAny_bind ?_
 unfold Builtin.Frozenset.sizeOf
 refine wpAny_bind (hS.entries (wpAny_pure ?_))
 refine wpAny_bind ?_
 unfold setDrawn
 refine wpAny_bind (hS.state ?_)
 dsimp only
 refine wpAny_bind (Zao (wpAny_pure ?_))
 show wpAny _ _ (if (!w.params.followText "set-order" && (!t.plain && decide (es.size > 1))) = true then _ else _) _ _ s
 by_cases hdr : (!w.params.followText "set-order" && (!t.plain && decide (es.size > 1))) = true
 ·rw [if_pos hdr]
  refine wpAny_bind (Uy _ _ (by rw [Zg]; exact Nat.le_refl _) fun ps dr hp => ?_)
  have hl : ps.length = es.size := by rw [hp.length_eq, Zg]
  unfold newTuple
  refine wpAny_bind (wpAny_newObj_type ?_ (by show (List.map (fun (i : Nat) => rawInt i) ps).toArray.size ≤ sizeLine; rw [Zh, Za, hl]; exact hz))
  have h1 : (s.heap.push { cls := .type "tuple", data := .seq (List.map (fun (i : Nat) => rawInt i) ps).toArray }).get? s.heap.objs.size = some { cls := .type "tuple", data := .seq (List.map (fun (i : Nat) => rawInt i) ps).toArray } := Heap.get?_push_size _ rfl
  have hk1 : ∀ b o, s.heap.get? b = some o → (s.heap.push { cls := .type "tuple", data := .seq (List.map (fun (i : Nat) => rawInt i) ps).toArray }).get? b = some o := fun b o e => Heap.get?_push_of_some _ e
  have hz1 : (s.heap.push { cls := .type "tuple", data := .seq (List.map (fun (i : Nat) => rawInt i) ps).toArray }).objs.size = s.heap.objs.size + 1 := Heap.size_push ..
  generalize s.heap.push { cls := .type "tuple", data := .seq (List.map (fun (i : Nat) => rawInt i) ps).toArray } = g1 at h1 hk1 hz1 ⊢
  have hS1 : W2 g1 a es ep t := hS.keep fun o e => hk1 a o e
  refine wpAny_bind (W2.epoch (s := { s with heap := g1, drawn := dr }) hS1 ?_)
  refine wpAny_bind ?_
  unfold newFields
  refine wpAny_newObj_type (wpAny_pure ⟨_, rfl, "set_iterator", _, ⟨_, Heap.get?_push_size _ rfl, rfl⟩, ZM.lookup, ?_⟩) (by size_fits)
  refine q g1.objs.size [g1.objs.size, a, s.heap.objs.size] _ dr _ (fun i h => YB h g1.objs.size (.ref s.heap.objs.size) i a es.size ep ∧ W2 h a es ep t ∧ ∃ o k, h.get? s.heap.objs.size = some o ∧ o.data = .seq (ps.map fun (p : Nat) => rawInt p).toArray k) (by omega) (fun b hb => ?_) (fun b o e => Heap.get?_push_of_some _ (hk1 b o e)) ?_
   (fun A' hh => ZbL hh hp (Nat.ne_of_lt (by rw [hz1]; exact Nat.lt_succ_of_lt ha)) (Nat.ne_of_lt (by rw [hz1]; exact Nat.lt_succ_self _))) ⟨⟨_, Heap.get?_push_size _ rfl, rfl, rfl⟩, hS1.keep fun o e => Heap.get?_push_of_some _ e, _, _, Heap.get?_push_of_some _ h1, rfl⟩
  ·simp only [List.mem_cons, List.not_mem_nil, or_false] at hb
   rcases hb with rfl | rfl | rfl
   ·right; omega
   ·left; rfl
   ·right; omega
  ·refine (hp.filterMap _).trans ?_
   have e : ((List.range es.size).filterMap fun p => (es[p]?).map (·.2)) = vals es := by
    unfold vals
    rw [← filterMap_getElem?_range es, List.map_filterMap]
   rw [e]
 ·rw [if_neg hdr]
  refine wpAny_bind (wpAny_pure ?_)
  refine wpAny_bind (hS.epoch ?_)
  refine wpAny_bind ?_
  unfold newFields
  refine wpAny_newObj_type (wpAny_pure ⟨_, rfl, "set_iterator", _, ⟨_, Heap.get?_push_size _ rfl, rfl⟩, ZM.lookup, ?_⟩) (by size_fits)
  have fpok : ∀ b ∈ [s.heap.objs.size, a], b = a ∨ s.heap.objs.size ≤ b := fun b hb => by
   simp only [List.mem_cons, List.not_mem_nil, or_false] at hb
   rcases hb with rfl | rfl
   ·right; omega
   ·left; rfl
  cases ht : w.params.followText "set-order" with
  | true =>
   refine q s.heap.objs.size [s.heap.objs.size, a] _ s.drawn _ (fun i h => YB h s.heap.objs.size (.int 0 0) i a es.size ep ∧ W2 h a es ep t) (Nat.le_refl _) fpok (fun b o e => Heap.get?_push_of_some _ e) ?_
    (fun A' hh => Zdz hh ht (Nat.ne_of_lt ha)) ⟨⟨_, Heap.get?_push_size _ rfl, rfl, rfl⟩, hS.keep fun o e => Heap.get?_push_of_some _ e⟩
   exact (Ww _ es).map _
  | false =>
   rw [ht] at W hdr
   refine q s.heap.objs.size [s.heap.objs.size, a] _ s.drawn _ (fun i h => ∃ slot : Nat, ((i = 0 ∧ slot = 0) ∨ (∃ j x, i = j + 1 ∧ t.place[j]? = some x ∧ slot = x + 1)) ∧ YB h s.heap.objs.size (.int slot 0) i a es.size ep ∧ W2 h a es ep t) (Nat.le_refl _) fpok (fun b o e => Heap.get?_push_of_some _ e) (List.Perm.refl _)
    (fun A' hh => ZbK hh ht ?_ W (Nat.ne_of_lt ha)) ⟨0, .inl ⟨rfl, rfl⟩, ⟨_, Heap.get?_push_size _ rfl, rfl, rfl⟩, hS.keep fun o e => Heap.get?_push_of_some _ e⟩
   cases hp : t.plain with
   | true => exact .inl rfl
   | false =>
    rw [hp] at hdr
    right
    by_cases h1 : es.size > 1
    ·exfalso
     apply hdr
     simp [h1]
    ·omega
end
end PyS
namespace PyS
open PySem PySem.W PyProof.Rows PySem.Calls PyProof.V PySem.Spec
section
variable {prog : Program} {w : World} {A : Around} {E : Value → Shared → Prop} {s : Shared} {a : Addr} {es : Array (Int × Value)} {ep : Nat} {t : SetTable}
theorem Zgd {r : Addr} {Q : Bool → Shared → Prop} (hT : s.TypeIs (.ref r) "set") (h : Q false s) : wpAny (model prog w) A (Builtin.List.listLengthHint (.ref r)) Q E s := by
 unfold Builtin.List.listLengthHint
 refine wpAny_bind (wpAny_specialOf hT PySem.F.slot_set_len.lookup ?_)
 generalize hid : ("set.__len__" : String) = id0
 wp_delta
 rw [show splitId id0 = some ("set", "__len__") from by subst hid; decide +kernel]
 subst hid
 refine wpAny_bind (wpAny_isInstance (T := "set") (b := true) hT (by rw [isSubtype_type]; kernel_rfl) ?_)
 refine wpAny_ite_split (fun hab => absurd hab (by decide)) (fun _ => ?_)
 refine wpAny_ite_split (fun _ => ?_) (fun hab => absurd (by decide +kernel) hab)
 refine wpAny_bind (wpAny_typeOf hT ?_)
 exact wpAny_pure h
theorem Zf5 {L : List Value} {acc : Array Value} {n : Nat} (hl : L.length = n) (h : ItemsOf (fun i v => L[i]? = some v) acc n) : acc.toList = L := by
 refine List.ext_getElem? fun i => ?_
 by_cases hi : i < n
 ·have e : acc[i]? = some (acc[i]'(by rw [h.1]; exact hi)) := Array.getElem?_eq_getElem _
  rw [Array.getElem?_toList, e]
  exact (h.2 i _ e).symm
 ·rw [List.getElem?_eq_none (by rw [Array.length_toList, h.1]; omega), List.getElem?_eq_none (by omega)]
structure Src (prog : Program) (w : World) (T : String) (a : Addr) (n : Nat) (Good : (Nat → Value → Prop) → Prop) (OK : Heap → Prop) : Prop where
 type : ∀ s : Shared, OK s.heap → s.TypeIs (.ref a) T
 keep : ∀ h h' : Heap, OK h → (∀ o, h.get? a = some o → h'.get? a = some o) → OK h'
 notList : (Value.type T == Value.type "list") = false
 notTuple : (Value.type T == Value.type "tuple") = false
 hint : ∀ (A : Around) (E : Value → Shared → Prop) (s : Shared) (Q : Bool → Shared → Prop), OK s.heap → Q false s → wpAny (model prog w) A (Builtin.List.listLengthHint (.ref a)) Q E s
 iter : ∀ (A : Around) (E : Value → Shared → Prop) (s : Shared) (Q : Value → Shared → Prop), OK s.heap →
  (∀ (I : Addr) (fp : List Addr) (h' : Heap) (dr : Drawn) (P : Nat → Value → Prop) (St : Nat → Heap → Prop), s.heap.objs.size ≤ I → (∀ b ∈ fp, b = a ∨ s.heap.objs.size ≤ b) → (∀ b o, s.heap.get? b = some o → h'.get? b = some o) → Good P →
   (∀ A' : Around, A'.handled = none → Walks prog w A' I fp [I] n P St) → St 0 h' → Q (.ref I) { s with heap := h', drawn := dr }) → wpAny (model prog w) A (pyIter (.ref a)) Q E s
section
variable {T : String} {n : Nat} {Good : (Nat → Value → Prop) → Prop} {OK : Heap → Prop}
theorem ZbS {R : Result → Shared → Prop} (C : Src prog w T a n Good OK) (hh : A.handled = none) (hz : n ≤ sizeLine) (hok : OK s.heap) (S : Addr) (hSa : S ≠ a) (res : Value) (c₀ : Nat) (hL : s.heap.get? S = some { cls := .type "list", data := .seq #[] c₀ })
  (hR : ∀ h' dr tk (acc' : Array Value) c' P, (∀ b o, b ≠ S → s.heap.get? b = some o → h'.get? b = some o) → h'.get? S = some { cls := .type "list", dict := none, data := .seq acc' c', slots := #[] } → Good P → ItemsOf P acc' n → R (.ok (.ret res)) { s with heap := h', drawn := dr, toks := tk }) :
  wpAny (model prog w) A.in1 (Builtin.List.listExtendWith (.ref S) (.ref a) res)
   (fun fin s' => match fin with | .done f => R (.ok f) s' | .again c' => c'.quiet = true ∧ codeAny (model prog w) A c' R s') (fun e s' => R (.error e) s') s := by
 have hlt : S < s.heap.objs.size := Heap.lt_size hL
 unfold Builtin.List.listExtendWith
 refine wpAny_bind (wpAny_typeOf (T := T) (C.type s hok) ?_)
 have h1 : Builtin.List.listSameRef (.ref S) (.ref a) = false := by simp [Builtin.List.listSameRef, hSa]
 simp only [h1, C.notList, C.notTuple, Bool.or_false, Bool.false_eq_true, if_false]
 refine wpAny_bind (C.iter _ _ _ _ hok fun I fp h' dr P St hI hfp hk hp Wk' st => ?_)
 have hSf : S ∉ fp := fun z => by
  rcases hfp S z with e | e
  ·exact hSa e
  ·exact absurd hlt (Nat.not_lt.mpr e)
 have key : ∀ (h : Heap) (c₁ tk : Nat), St 0 h → (∀ b o, b ≠ S → s.heap.get? b = some o → h.get? b = some o) →
   h.get? S = some { cls := .type "list", data := .seq #[] c₁ } → codeAny (model prog w) A (.builtin "list.extend.loop" ⟨[.ref S, .ref I, res], []⟩) R { s with heap := h, drawn := dr, toks := tk } := by
  intro h c₁ tk hst hk hS₁
  refine codeAny_extend_loopS (Wk' A.in1 hh).toS hz S hSf res n 0 _ #[] c₁ rfl (Nat.zero_le _) hst hS₁ (ItemsOf.nil _) fun s' acc' c' hm hS' hacc => ?_
  rw [Moved.eq_with hm]
  refine hR s'.heap dr s'.toks acc' c' P (fun b o hb e => hm.heap b o (fun hmem => ?_) (hk b o hb e)) hS' hp hacc
  rcases List.mem_cons.mp hmem with e' | hmem
  ·exact hb e'
  ·exact absurd (Heap.lt_size e) (by rw [List.mem_singleton.mp hmem]; exact Nat.not_lt.mpr hI)
 have hS₁ := hk S _ hL
 refine wpAny_bind (wpAny_holding (C.hint _ _ { s with heap := h', drawn := dr } _ (C.keep _ _ hok fun o e => hk a o e) ?_))
 refine wpAny_ite_split (fun _ => ?_) (fun _ => wpAny_pure ⟨plainId_quiet PySem.F.plain_extend_loop _, key _ c₀ _ st (fun b o _ e => hk b o e) hS₁⟩)
 refine wpAny_bind (wpAny_rule ?_)
 refine wpAny_bind ?_
 show wpAny _ _ (updateSeq S (·.push .none) >>= fun _ => updateSeq S (·.pop)) _ _ _
 refine wpAny_bind (wpAny_updateSeq hS₁ rfl ?_)
 have hS₂ := Heap.get?_update_self (Obj.mapSeq (·.push Value.none)) hS₁ rfl
 refine wpAny_updateSeq (hz := by seq_fits) hS₂ rfl ?_
 have hS₃ := Heap.get?_update_self (Obj.mapSeq (·.pop)) hS₂ rfl
 refine wpAny_pure ⟨plainId_quiet PySem.F.plain_extend_loop _, key _ _ _ ?_ (fun b o hb e => ?_) hS₃⟩
 ·refine (Wk' A.in1 hh).frame 0 _ _ st fun b hb o e => ?_
  have hbS : b ≠ S := fun h => hSf (h ▸ hb)
  exact (Heap.get?_update_other _ _ (Ne.symm hbS)).trans ((Heap.get?_update_other _ _ (Ne.symm hbS)).trans e)
 ·exact (Heap.get?_update_other _ _ (Ne.symm hb)).trans ((Heap.get?_update_other _ _ (Ne.symm hb)).trans (hk b o e))
theorem ZaC {R : List Value → Shared → Prop} (C : Src prog w T a n Good OK) (hh : A.handled = none) (hz : n ≤ sizeLine) (hok : OK s.heap)
  (h : ∀ (h' : Heap) (dr : Drawn) (tk : Nat) (acc : Array Value) (P : Nat → Value → Prop), s.heap.objs.size < h'.objs.size → (∀ b o, s.heap.get? b = some o → h'.get? b = some o) → Good P → ItemsOf P acc n → R acc.toList { s with heap := h', drawn := dr, toks := tk }) :
  wpAny (model prog w) A (collect (.ref a)) R E s := by
 have ha : a < s.heap.objs.size := let ⟨o, e, _⟩ := C.type s hok; Heap.lt_size e
 unfold collect
 refine wpAny_bind (wpAny_runValue (codeAny_builtin entry_proto_collect' ?_))
 rw [Around.under_plainId PySem.F.plain_proto_collect _]
 show wpAny _ A.in1 (newList [] >>= fun l => again (.builtin "list.__iadd__" ⟨[l, .ref a], []⟩)) _ _ s
 refine wpAny_bind (wpAny_newObj_type ?_)
 refine wpAny_pure ⟨plainId_quiet PySem.F.plain_list_iadd _, codeAny_builtin entry_list_iadd' ?_⟩
 rw [Around.under_plainId PySem.F.plain_list_iadd _]
 have hS₁ : (s.heap.push { cls := .type "list", data := .seq ([] : List Value).toArray }).get? s.heap.objs.size = some { cls := .type "list", data := .seq #[] } := Heap.get?_push_size _ rfl
 show wpAny _ A.in1 (Builtin.List.listExtendWith (.ref s.heap.objs.size) (.ref a) (.ref s.heap.objs.size)) _ _ _
 have key := ZbS (prog := prog) (w := w) (A := A) (s := { s with heap := s.heap.push { cls := .type "list", data := .seq ([] : List Value).toArray } })
  (R := fun (q : Result) (s' : Shared) => ∃ (h' : Heap) (dr : Drawn) (tk : Nat) (acc' : Array Value) (c' : Nat) (P : Nat → Value → Prop), q = .ok (.ret (.ref s.heap.objs.size)) ∧ s' = { s with heap := h', drawn := dr, toks := tk } ∧
   (∀ b o, s.heap.get? b = some o → h'.get? b = some o) ∧ h'.get? s.heap.objs.size = some { cls := .type "list", dict := none, data := .seq acc' c', slots := #[] } ∧ Good P ∧ ItemsOf P acc' n)
  C hh hz (C.keep _ _ hok fun o e => Heap.get?_push_of_some _ e) s.heap.objs.size (Nat.ne_of_gt ha) (.ref s.heap.objs.size) 0 hS₁
  (fun h' dr tk acc' c' P hk hS' hg hacc => ⟨h', dr, tk, acc', c', P, rfl, rfl, fun b o e => hk b o (Nat.ne_of_lt (Heap.lt_size e)) (Heap.get?_push_of_some _ e), hS', hg, hacc⟩)
 refine wpAny_mono key (fun fin s' x => ?_) fun e s' x => ?_
 ·cases fin with
  | done f =>
   obtain ⟨h', dr, tk, acc', c', P, e, rfl, hk, hS', hg, hacc⟩ := x
   cases e
   show wpAny _ A (load s.heap.objs.size >>= _) _ _ _
   refine wpAny_bind (wpAny_load hS' ?_)
   exact wpAny_pure (h h' dr tk acc' P (Heap.lt_size hS') hk hg hacc)
  | again c₁ =>
   refine ⟨x.1, codeAny_mono x.2 fun q s₂ y => ?_⟩
   obtain ⟨h', dr, tk, acc', c', P, rfl, rfl, hk, hS', hg, hacc⟩ := y
   show wpAny _ A (load s.heap.objs.size >>= _) _ _ _
   refine wpAny_bind (wpAny_load hS' ?_)
   exact wpAny_pure (h h' dr tk acc' P (Heap.lt_size hS') hk hg hacc)
 ·obtain ⟨_, _, _, _, _, _, e', _⟩ := x
  cases e'
def Za3 : Value → Int
 | .int k _ => k
 | _ => 0
theorem Zgb : ∀ {l : List Value} {ns : List Int}, IntsAre l ns → ns = l.map Za3
 | _, _, .nil => rfl
 | _, _, .cons n t r => by rw [List.map_cons, ← Zgb r]; rfl
theorem Zga : ∀ {l : List Value} {ns : List Int}, IntsAre l ns → ∀ v ∈ l, ∃ k t, v = .int k t
 | _, _, .nil, v, h => by cases h
 | _, _, .cons n t r, v, h => by
  rcases List.mem_cons.mp h with h | h
  ·exact ⟨n, t, h⟩
  ·exact Zga r v h
theorem Zde : ∀ {l : List Value}, (∀ v ∈ l, ∃ k t, v = .int k t) → IntsAre l (l.map Za3)
 | [], _ => .nil
 | v :: l, h => by
  obtain ⟨k, t, rfl⟩ := h v List.mem_cons_self
  exact .cons k t (Zde fun u hu => h u (List.mem_cons_of_mem _ hu))
theorem ZhM {l l' : List Value} {ns : List Int} (p : List.Perm l' l) (h : IntsAre l ns) : IntsAre l' (l'.map Za3) ∧ List.Perm (l'.map Za3) ns :=
 ⟨Zde fun v hv => Zga h v (p.mem_iff.mp hv), by rw [Zgb h]; exact p.map _⟩
theorem Va {Q : Value → Shared → Prop} (C : Src prog w T a n Good OK) (hh : A.handled = none) (h64 : n < 64) (hok : OK s.heap) {ns : List Int} (hi : ∀ P acc, Good P → ItemsOf P acc n → IntsAre acc.toList (acc.toList.map Za3) ∧ List.Perm (acc.toList.map Za3) ns)
    (q : ∀ (D : Addr) (h' : Heap) (dr : Drawn) (tk : Nat) (out : List Value) (ns' : List Int) (c : Nat), s.heap.objs.size ≤ D → (∀ b o, s.heap.get? b = some o → h'.get? b = some o) → h'.get? D = some (seqObj "list" out.toArray c) → IntsAre out ns' → List.Perm ns' ns → ns'.Pairwise (· ≤ ·) → Q (.ref D) { s with heap := h', drawn := dr, toks := tk }) :
    wpAny (model prog w) A (call (.builtin "sorted") [.ref a]) Q E s := by
  have hz : n ≤ sizeLine := by have : (16777216 : Nat) = sizeLine := by decide
                               omega
  refine call_function_entry kind_sorted plain_sorted entry_sorted (args_sorted1 _) ?_
  unfold Builtin.«sorted»
  refine wpAny_bind (m := checkCount "sorted" 1 1 _) (wpAny_pure ?_)
  refine wpAny_bind (ZaC (A := A.in1) C hh hz hok fun h' dr tk acc P hgt hk hg hacc => ?_)
  obtain ⟨i1, i2⟩ := hi P acc hg hacc
  have hl : acc.toList.length = n := by rw [Array.length_toList]; exact hacc.1
  generalize acc.toList = vs at i1 i2 hl ⊢
  refine wpAny_bind (wpAny_newList ?_ (by rw [hl]; exact hz))
  have ho : (h'.push { cls := .type "list", data := .seq vs.toArray }).get? h'.objs.size = some (seqObj "list" vs.toArray 0) := Heap.get?_push_size _ rfl
  have hkk : ∀ b o, s.heap.get? b = some o → (h'.push { cls := .type "list", data := .seq vs.toArray }).get? b = some o := fun b o e => Heap.get?_push_of_some _ (hk b o e)
  refine wpAny_bind (wpAny_holding ?_)
  refine wpAny_call_entry slot_list_sort ⟨_, ho, rfl⟩ entry_list_sort (list_sort_tree (n := 0) (vs := vs) ho i1 (by omega) fun out ns' hI hpp hP => ⟨.none, rfl, ?_⟩) (args_list_sort _)
  refine wpAny_pure ⟨_, rfl, ?_⟩
  have o1 := get?_update_seq ho (fun _ => (#[] : Array Value))
  have o2 := Heap.get?_push_of_some (seqObj "tuple" vs.toArray 0) o1
  have o3 := Heap.get?_push_of_some (seqObj "list" #[] 0) o2
  have o4 := get?_update_seq o3 (fun _ => out)
  refine q h'.objs.size _ dr tk out.toList ns' _ (Nat.le_of_lt hgt) (fun b o e => ?_) (by rw [Array.toArray_toList]; exact o4) hI (hpp.trans i2) hP
  have hb : b ≠ h'.objs.size := Nat.ne_of_lt (Nat.lt_trans (Heap.lt_size e) hgt)
  unfold sortedHeap
  rw [Heap.get?_update_other _ _ (Ne.symm hb)]
  refine Heap.get?_push_of_some _ (Heap.get?_push_of_some _ ?_)
  rw [Heap.get?_update_other _ _ (Ne.symm hb)]
  exact hkk b o e
end
theorem ZgR (hz : es.size ≤ sizeLine) (W : Wk t (!w.params.followText "set-order")) : Src prog w "set" a es.size (fun P => ∃ L : List Value, List.Perm L (vals es) ∧ P = fun i v => L[i]? = some v) (fun h => W2 h a es ep t) where
 type := fun s h => W2.typeIs h
 keep := fun h h' S k => S.keep k
 notList := by decide
 notTuple := by decide
 hint := fun A E s Q S q => Zgd (W2.typeIs S) q
 iter := fun A E s Q S q => ZeZ hz S W fun I fp h' dr L St hI hfp hk hp Wk' st => q I fp h' dr _ St hI hfp hk ⟨L, hp, rfl⟩ Wk' st
theorem ZbT {ns : List Int} {Q : Value → Shared → Prop} (hh : A.handled = none) (h64 : es.size < 64) (hS : W2 s.heap a es ep t) (W : Wk t (!w.params.followText "set-order")) (hi : IntsAre (vals es) ns)
    (q : ∀ (D : Addr) (h' : Heap) (dr : Drawn) (tk : Nat) (out : List Value) (ns' : List Int) (c : Nat), s.heap.objs.size ≤ D → (∀ b o, s.heap.get? b = some o → h'.get? b = some o) → h'.get? D = some (seqObj "list" out.toArray c) → IntsAre out ns' → List.Perm ns' ns → ns'.Pairwise (· ≤ ·) → Q (.ref D) { s with heap := h', drawn := dr, toks := tk }) :
    wpAny (model prog w) A (call (.builtin "sorted") [.ref a]) Q E s := by
  have hz : es.size ≤ sizeLine := by have : (16777216 : Nat) = sizeLine := by decide
                                     omega
  refine Va (ZgR (ep := ep) hz W) hh h64 hS (ns := ns) (fun P acc hg hacc => ?_) q
  obtain ⟨L, hp, rfl⟩ := hg
  rw [Zf5 (by rw [hp.length_eq]; unfold vals; rw [Za, Array.length_toList]) hacc]
  exact ZhM hp hi
section
variable {K : Type} [DecidableEq K] {knd : PySem.KeyKind prog w K} {kvs : List (K × Value)}
theorem ZeK (lo : (a == sysModules) = false) : Src prog w "dict" a kvs.length (fun P => P = fun i v => ∃ k x, kvs[i]? = some (k, x) ∧ knd.is k v = true) (fun h => h.DictAt knd a kvs ep) where
 type := fun _ hm => hm.dictOf.typeIs
 keep := fun _ _ hm hk => hm.at' hk
 notList := by decide
 notTuple := by decide
 hint := fun _ _ _ _ hm hq => kdl_hint_dict hm.dictOf.typeIs hq
 iter := fun A E s Q hm q => by
  refine wpAny_pyIter_dict lo hm ?_
  refine q s.heap.objs.size [s.heap.objs.size, a] _ s.drawn _ (fun i h => h.IsKeyIter s.heap.objs.size a i kvs.length ep ∧ h.DictAt knd a kvs ep) (Nat.le_refl _) (fun b hb => ?_) (fun b o e => Heap.get?_push_of_some _ e) rfl
   (fun A' hh => Walks.dictKeys hh _ a (Nat.ne_of_lt hm.lt_size) kvs ep) ⟨⟨_, Heap.get?_push_size _ rfl, rfl, rfl⟩, hm.push _⟩
  simp only [List.mem_cons, List.not_mem_nil, or_false] at hb
  rcases hb with rfl | rfl
  ·right; exact Nat.le_refl _
  ·left; rfl
end
end
structure SX (prog : Program) (w : World) (h : Heap) (a : Addr) (es : Array (Int × Value)) (ep : Nat) (t : SetTable) (S : Int → Bool) (n : Nat) : Prop where
 at_ : W2 h a es ep t
 el : ElemsOf (intKind prog w) es.toList
 mem : ∀ k, S k = true ↔ ∃ e ∈ es.toList, (intKind prog w).is k e.2 = true
 sb : es.size < scanBound
 sz : es.size = n
 wk : Wk t (!w.params.followText "set-order")
def Xh (prog : Program) (w : World) (h : Heap) (a : Addr) (S : Int → Bool) (n : Nat) : Prop := ∃ es ep t, SX prog w h a es ep t S n
section
variable {prog : Program} {w : World} {A : Around} {E : Value → Shared → Prop} {s : Shared} {a : Addr}
theorem Xh.keep {h h' : Heap} {S : Int → Bool} {n : Nat} (X : Xh prog w h a S n) (k : ∀ o, h.get? a = some o → h'.get? a = some o) : Xh prog w h' a S n := by
 obtain ⟨es, ep, t, X⟩ := X
 exact ⟨es, ep, t, X.at_.keep k, X.el, X.mem, X.sb, X.sz, X.wk⟩
theorem Xh.congr {h : Heap} {S S' : Int → Bool} {n n' : Nat} (X : Xh prog w h a S n) (e : ∀ k, S k = S' k) (en : n = n') : Xh prog w h a S' n' := by
 have : S = S' := funext e
 subst this
 subst en
 exact X
theorem stored {h : Heap} {es es' : Array (Int × Value)} {ep : Nat} {t t' : SetTable} (S : W2 h a es ep t) (hf : t'.fits es'.size = true) : W2 (h.update a (Obj.putSet es' t')) a es' (ep + 1) t' := by
 obtain ⟨o, e, x, d, _⟩ := S
 have hg := Heap.get?_update_self (Obj.putSet es' t') e (by rw [putSet_of es' t' d]; rfl)
 rw [putSet_of es' t' d] at hg
 exact ⟨_, hg, x, rfl, hf⟩
theorem Y7 {es es' : Array (Int × Value)} {ep : Nat} {t t' : SetTable} {Q : Unit → Shared → Prop} (S : W2 s.heap a es ep t) (hz : es'.size ≤ sizeLine) (q : Q () { s with heap := s.heap.update a (Obj.putSet es' t') }) : wpAny (model prog w) A (storeSet a es' t') Q E s := by
 obtain ⟨o, e, x, d, _⟩ := S
 exact wpAny_storeSet_of e d q hz
theorem ZbF {g : Bool → Sem Unit} (hg : ∀ (b : Bool) (s₁ : Shared) (Q' : Unit → Shared → Prop), Q' () s₁ → wpAny (model prog w) A (g b) Q' E s₁) {es es1 : Array (Int × Value)} {ep : Nat} {t t2 : SetTable} {led : Bool} (S : W2 s.heap a es ep t) (hz : es1.size ≤ sizeLine) (f2 : t2.fits es1.size = true) (w2 : Wk t2 led)
  {wasD : Bool} {R : Option Bool → Shared → Prop} (fin : ∀ (h' : Heap) (es' : Array (Int × Value)) (ep' : Nat) (t' : SetTable), Heap.SameBut a s.heap h' → W2 h' a es' ep' t' → List.Perm es'.toList es1.toList → Wk t' led → R (some true) { s with heap := h' }) :
  wpAny (model prog w) A (do
    storeSet a es1 t2
    if (!wasD && t2.tooFull) = true then do
      g (relayAll t2 es1 (SetTable.grown es1.size)).2.2
      storeSet a (relayAll t2 es1 (SetTable.grown es1.size)).1 (relayAll t2 es1 (SetTable.grown es1.size)).2.1
      pure (some true)
     else pure (some true)) R E s := by
 refine wpAny_bind (Y7 S hz ?_)
 have S2 := stored S (es' := es1) f2
 have sbb := Heap.SameBut.update s.heap a (Obj.putSet es1 t2)
 generalize s.heap.update a (Obj.putSet es1 t2) = h2 at S2 sbb ⊢
 by_cases hfull : (!wasD && t2.tooFull) = true
 ·rw [if_pos hfull]
  have hp3 := relayAll_perm t2 es1 (SetTable.grown es1.size)
  have hf3 := relayAll_fits t2 es1 (SetTable.grown es1.size)
  have hw3 := w2.relay es1 (SetTable.grown es1.size)
  generalize relayAll t2 es1 (SetTable.grown es1.size) = Rl at hp3 hf3 hw3 ⊢
  obtain ⟨es2, t3, gave2⟩ := Rl
  dsimp only at hp3 hf3 hw3 ⊢
  have hs2 : es2.size = es1.size := by rw [← Array.length_toList, hp3.length_eq, Array.length_toList]
  refine wpAny_bind (hg _ _ _ ?_)
  refine wpAny_bind (Y7 (s := { s with heap := h2 }) S2 (by rw [hs2]; exact hz) ?_)
  exact wpAny_pure (fin _ es2 _ t3 (sbb.trans (Heap.SameBut.update _ a _)) (stored S2 hf3) hp3 hw3)
 ·rw [if_neg hfull]
  exact wpAny_pure (fin h2 es1 _ t2 sbb S2 (List.Perm.refl _) w2)
theorem add_int {S : Int → Bool} {n : Nat} {k : Int} {x : Value} {Q : Bool → Shared → Prop} (hkey : (intKind prog w).is k x = true) (hsc : x.scannable = true) (X : Xh prog w s.heap a S n) (hroom : n + 1 < scanBound)
  (q : ∀ b h', Heap.SameBut a s.heap h' → Xh prog w h' a (fun k' => S k' || decide (k' = k)) (if S k then n else n + 1) → Q b { s with heap := h' }) :
  wpAny (model prog w) A (setAddHashed a x ((intKind prog w).hash k)) Q E s := by
 obtain ⟨es, ep, t, X⟩ := X
 obtain ⟨o, e1, e2, e3, e4⟩ := id X.at_
 unfold setAddHashed setAddHashedIn
 refine wpAny_holding (wpAny_bind (X.at_.state ?_))
 dsimp only
 rw [byScan_of hsc X.sb X.el]
 simp only [↓reduceIte]
 unfold setAddByScan
 refine wpAny_bind (wpAny_bind (wpAny_rule (wpAny_bind (wpAny_setScan_of hkey e1 e3 e4 X.el ?_))))
 cases hr : List.findIdx? (fun e => (intKind prog w).is k e.2) es.toList with
 | some j =>
  obtain ⟨hj, hpj, _⟩ := List.findIdx?_eq_some_iff_getElem.mp hr
  have hSk : S k = true := (X.mem k).mpr ⟨_, List.getElem_mem hj, hpj⟩
  refine wpAny_pure (wpAny_pure ?_)
  have := q false s.heap (Heap.SameBut.refl a s.heap) ⟨es, ep, t, X.at_, X.el, fun k' => ?_, X.sb, by rw [hSk]; exact X.sz, X.wk⟩
  ·exact this
  ·rw [Bool.or_eq_true, decide_eq_true_eq, ← X.mem k']
   exact ⟨fun h => h.elim id fun e => by rw [e]; exact hSk, .inl⟩
 | none =>
  have hSk : S k = false := by
   cases hk : S k with
   | false => rfl
   | true =>
    obtain ⟨e, he, hp⟩ := (X.mem k).mp hk
    have := List.findIdx?_eq_none_iff.mp hr e he
    rw [hp] at this
    exact Bool.noConfusion this
  dsimp only
  have hperm := layNew_perm t es ((intKind prog w).hash k) x
  have hfits := layNew_fits t es ((intKind prog w).hash k) x
  have hwk := X.wk.lay es ((intKind prog w).hash k) x
  generalize layNew t es ((intKind prog w).hash k) x = L at hperm hfits hwk ⊢
  obtain ⟨es1, t1, wasD, gave⟩ := L
  dsimp only at hperm hfits hwk ⊢
  rw [Array.toList_push] at hperm
  have hgw : ∀ (b : Bool) {s₁ : Shared} {Q' : Unit → Shared → Prop}, Q' () s₁ → wpAny (model prog w) A (match b with | true => rule "set.scan.the-table-gave-way" | false => pure ()) Q' E s₁ :=
   fun b s₁ Q' hq => by cases b <;> first | exact wpAny_pure hq | exact wpAny_rule hq
  have sz1 : es1.size = n + 1 := by rw [← Array.length_toList, hperm.length_eq, Zd, Array.length_toList, X.sz]; rfl
  have el1 : ElemsOf (intKind prog w) es1.toList := (X.el.push hkey hsc).perm hperm
  have mem1 : ∀ k', (S k' || decide (k' = k)) = true ↔ ∃ e ∈ es1.toList, (intKind prog w).is k' e.2 = true := mem_push_iff hkey X.mem hperm
  have sb1 : es1.size < scanBound := by rw [sz1]; exact hroom
  have zl : ∀ m, m < scanBound → m ≤ sizeLine := fun m h => fits_of_scanBound h
  have fin : ∀ (h' : Heap) (es' : Array (Int × Value)) (ep' : Nat) (t' : SetTable), Heap.SameBut a s.heap h' → W2 h' a es' ep' t' → List.Perm es'.toList es1.toList → Wk t' (!w.params.followText "set-order") → Q true { s with heap := h' } := fun h' es' ep' t' sb at' hp wk' => by
   have hs : es'.size = es1.size := by rw [← Array.length_toList, hp.length_eq, Array.length_toList]
   refine q true h' sb ⟨es', ep', t', at', el1.perm hp, fun k' => ?_, by rw [hs]; exact sb1, by rw [hSk, hs]; exact sz1, wk'⟩
   rw [mem1 k']
   exact ⟨fun ⟨e, he, r⟩ => ⟨e, hp.mem_iff.mpr he, r⟩, fun ⟨e, he, r⟩ => ⟨e, hp.mem_iff.mp he, r⟩⟩
  refine wpAny_bind (hgw gave ?_)
  split
  ·refine wpAny_bind ?_
   rw [hashByValue_scannable 8 hsc]
   refine wpAny_pure ?_
   refine ZbF (fun b s₁ Q' hq => ?_) X.at_ (zl _ sb1) ?_ ?_ fun h' es' ep' t' sb at' hp wk' => wpAny_pure (fin h' es' ep' t' sb at' hp wk')
   ·cases b <;> first | exact wpAny_pure hq | exact wpAny_rule hq
   ·split
    ·exact hfits
    ·exact SetTable.fits_plain_off hfits
   ·split
    ·exact hwk
    ·exact hwk.plain false
  ·refine wpAny_bind (wpAny_pure ?_)
   simp only [↓reduceIte]
   refine ZbF (fun b s₁ Q' hq => ?_) X.at_ (zl _ sb1) hfits hwk fun h' es' ep' t' sb at' hp wk' => wpAny_pure (fin h' es' ep' t' sb at' hp wk')
   cases b <;> first | exact wpAny_pure hq | exact wpAny_rule hq
end
section
variable {prog : Program} {w : World} {A : Around} {R : Result → Shared → Prop} {I : Addr} {fp wr : List Addr} {G : Array GenState → Array GenState → Prop} {n : Nat} {P : Nat → Value → Prop} {St : Nat → Shared → Prop}
theorem Zez (W : WalksS prog w A.in1 I fp wr G n P St) (S : Addr) (hSf : S ∉ fp) (val : Nat → Int) (hval : ∀ i v, P i v → ∃ t, v = .int (val i) t) (hb : n + 1 < scanBound) :
  ∀ (k i : Nat) (s : Shared), n - i = k → i ≤ n → St i s → Xh prog w s.heap S (fun k' => (firstMet val i).any (· == k')) (firstMet val i).length →
   (∀ s', Moved (S :: wr) G s s' → Xh prog w s'.heap S (fun k' => (firstMet val n).any (· == k')) (firstMet val n).length → R (.ok (.ret .none)) s') →
   codeAny (model prog w) A (.builtin "set.update.loop" ⟨[.ref S, .ref I], []⟩) R s := by
 have hSw : S ∉ wr := fun h => hSf (W.sub _ h)
 have hsub : ∀ b ∈ wr, b ∈ S :: wr := fun b hb => List.mem_cons_of_mem _ hb
 intro k
 induction k with
 | zero =>
  intro i s hk hi hst hS hR
  have hin : i = n := by omega
  subst hin
  refine codeAny_builtin PyProof.Rows.F.entry_set_update_loop ?_
  rw [Around.under_plainId PyProof.Rows.F.plain_set_update_loop _]
  show wpAny _ A.in1 (pyNext (.ref I) >>= _) _ _ s
  refine wpAny_bind (W.done s _ _ hst fun s' hm => ?_)
  show wpAny _ A.in1 (ret Value.none) _ _ s'
  exact wpAny_pure (hR s' (hm.mono hsub) (hS.keep fun o e => hm.heap S o hSw e))
 | succ k ih =>
  intro i s hk hi hst hS hR
  have hlt : i < n := by omega
  refine codeAny_builtin PyProof.Rows.F.entry_set_update_loop ?_
  rw [Around.under_plainId PyProof.Rows.F.plain_set_update_loop _]
  show wpAny _ A.in1 (pyNext (.ref I) >>= _) _ _ s
  refine wpAny_bind (W.item i s _ _ hlt hst fun v s' hP hst' hm => ?_)
  obtain ⟨t, rfl⟩ := hval i v hP
  have hS' := hS.keep fun o e => hm.heap S o hSw e
  show wpAny _ A.in1 (holding [Value.int (val i) t] (setAdd S (.int (val i) t)) >>= _) _ _ s'
  refine wpAny_bind (wpAny_holding ?_)
  unfold setAdd
  refine wpAny_holding ?_
  refine wpAny_bind ((intKind prog w).pyHash (k := val i) (intKind_is _ _ _ _) ?_)
  have hroom : (firstMet val i).length + 1 < scanBound := by have := firstMet_length_le val i; omega
  refine add_int (s := { s' with toks := s'.toks + 1 }) (intKind_is _ _ _ _) rfl hS' hroom fun _ h' hsb hS2 => ?_
  have hSi : Xh prog w h' S (fun k' => (firstMet val (i + 1)).any (· == k')) (firstMet val (i + 1)).length :=
   hS2.congr (fun k' => by rw [firstMet_succ, step_any]) (by rw [firstMet_succ, step_length])
  refine wpAny_pure ⟨plainId_quiet PyProof.Rows.F.plain_set_update_loop _, ih (i + 1) _ (by omega) hlt (W.frame _ s' _ _ hst' (Nat.le_succ _) fun b hb o e => ?_) hSi fun s'' hm'' hS'' => ?_⟩
  ·rw [hsb.2 b (fun h : b = S => hSf (by rw [← h]; exact hb))]; exact e
  ·refine hR s'' (Moved.trans W.gtrans ((hm.mono hsub).then_heap (Nat.le_succ _) fun b o hb e => ?_) hm'') hS''
   rw [hsb.2 b (fun h : b = S => hb (by rw [h]; exact List.mem_cons_self))]; exact e
end
section
variable {prog : Program} {w : World} {A : Around} {E : Value → Shared → Prop} {s : Shared}
theorem ZgU (a : Value) {Q₁ : Value → Shared → Prop}
  (h : Q₁ (.ref s.heap.objs.size) { s with heap := s.heap.push { cls := .type "set", dict := none, data := .set #[] 0 (.fresh 0 0 (!w.params.followText "set-order")) } }) :
  codeAny (model prog w) A (.call (.builtin "set.__new__") ⟨[.type "set", a], []⟩) (wants Q₁ E) s := by
 refine codeAny_of_tree ?_
 show wpAny _ A.in1 (do checkBuiltinCall "set.__new__" ⟨[.type "set", a], []⟩; again (.builtin "set.__new__" ⟨[.type "set", a], []⟩)) _ _ s
 refine wpAny_bind (wpAny_of_eq (PySem.F.newCall_set_1 a) (wpAny_pure ⟨plainId_quiet PySem.F.plain_set_new _, codeAny_builtin PySem.F.entry_set_new ?_⟩))
 rw [Around.under_plainId PySem.F.plain_set_new _]
 unfold Builtin.«set.__new__» Builtin.Frozenset.newClass
 have hsub := sub_set_self
 obtain ⟨hp, g, d, tk, os⟩ := s
 dsimp only
 wp_walk
 refine wpAny_askSetting (wpAny_pure ?_)
 dsimp only
 simp only [newObj]
 refine wpAny_bind (wpAny_alloc (wpAny_pure ?_))
 exact wpAny_pure h
theorem ZhO {h : Heap} {a : Addr} (e : h.get? a = some { cls := .type "set", dict := none, data := .set #[] 0 (.fresh 0 0 (!w.params.followText "set-order")) }) : Xh prog w h a (fun _ => false) 0 :=
 ⟨#[], 0, _, ⟨_, e, ⟨rfl, rfl, rfl⟩, rfl, rfl⟩, fun x hx => (by simp at hx), fun k => (by simp), by unfold scanBound; decide, rfl, Wk.fresh _⟩
abbrev Zdu (prog : Program) (w : World) (s : Shared) (ns : List Int) (n : Nat) (h' : Heap) : Prop :=
 Xh prog w h' s.heap.objs.size (fun k' => (L2.Vr ns n).any (· == k')) (L2.Vr ns n).length ∧ ∀ b o, b < s.heap.objs.size → s.heap.get? b = some o → h'.get? b = some o
theorem ZaK {l : Addr} {items : Array Value} {ns : List Int} {Q : Value → Shared → Prop} (hh : A.handled = none) (hl : s.heap.IsList l items) (hi : IntsAre items.toList ns) (hb : items.size + 1 < scanBound)
  (h : ∀ (h' : Heap) (tk : Nat), Zdu prog w s ns items.size h' → Q (.ref s.heap.objs.size) { s with heap := h', toks := tk }) : wpAny (model prog w) A (call (.type "set") [.ref l]) Q E s := by
 obtain ⟨c, tl, hmro⟩ := PySem.F.called_set.mro
 have hmade := PySem.F.called_set.made; have hsub := PySem.F.called_set.sub
 refine wpAny_call (codeAny_of_tree ?_); show wpAny _ _ (callAny (.type "set") _) _ _ _
 refine wpAny_pure ⟨Code.quiet_builtin _ (by decide +kernel), codeAny_builtin PySem.F.entry_type_call ?_⟩; rw [Around.under_plain (weight_type_call_type "set" [.ref l] []) rfl]
 have h1 := PySem.F.called_set.notType; have h2 := PySem.F.called_set.canCreate; have hct := PySem.F.typeCall_set_1 (.ref l)
 repeat (any_goals (first | assumption | wp_step))
 let ob : Obj := { cls := .type "set", dict := none, data := .set #[] 0 (.fresh 0 0 (!w.params.followText "set-order")) }
 refine codeAny_mono (ZgU (.ref l) (E := E) (Q₁ := fun obj s₁ => obj = .ref s.heap.objs.size ∧ s₁ = { s with heap := s.heap.push ob }) ⟨rfl, rfl⟩) fun r s₁ hr => ?_
 cases r with
 | error e => exact hr
 | ok fl =>
  cases fl with
  | ret obj =>
   obtain ⟨rfl, rfl⟩ := hr
   have hS : (s.heap.push ob).get? s.heap.objs.size = some ob := Heap.get?_push_size _ rfl
   have hT : Shared.TypeIs { s with heap := s.heap.push ob } (.ref s.heap.objs.size) "set" := ⟨_, hS, rfl⟩
   have hli := PySem.F.called_set.init.lookup; have hbi := PySem.F.called_set.init.bind (.ref s.heap.objs.size)
   repeat (any_goals (first | assumption | wp_step))
   refine codeAny_mono (codeAny_call_builtin (R := wants (fun r s₂ => r = .none ∧ ∃ h' tk, s₂ = { s with heap := h', toks := tk } ∧ Zdu prog w s ns items.size h') E) PySem.F.called_set.init.plain PySem.F.entry_set_init (check_set_init_1 hT ?_)) fun r₂ s₂ hr₂ => ?_
   ·obtain ⟨ol, hol, hcl, nl, hdl⟩ := id hl
    obtain ⟨ocls, odict, odata, oslots⟩ := ol
    simp only at hcl hdl
    subst hcl; subst hdl
    have hol' : (s.heap.push ob).get? l = some { cls := .type "list", dict := odict, data := .seq items nl, slots := oslots } := Heap.get?_push_of_some _ hol
    have hsls := PySem.F.sub_list_set; have hslf := PySem.F.sub_list_frozenset
    have hne : (Value.type "list" == Value.type "dict") = false := by decide
    have hl1 : (s.heap.push ob).IsList l items := ⟨_, hol', rfl, nl, rfl⟩
    unfold Builtin.«set.__init__» noKeywords Builtin.Frozenset.updateFrom; generalize hPI : pyIter = PI
    wp_walk
    subst hPI
    refine wpAny_pyIter_list hl1 ?_
    refine wpAny_bind (wpAny_runValue ?_)
    have hlS : l < s.heap.objs.size := Heap.lt_size hol
    have hneI : l ≠ (s.heap.push ob).objs.size := by rw [Heap.size_push]; exact Nat.ne_of_lt (Nat.lt_succ_of_lt hlS)
    have hSf : s.heap.objs.size ∉ [(s.heap.push ob).objs.size, l] := by
     rw [Heap.size_push]; intro z
     rcases List.mem_cons.mp z with z | z
     ·exact absurd z (Nat.ne_of_lt (Nat.lt_succ_self _))
     ·exact absurd (List.mem_singleton.mp z) (Nat.ne_of_gt hlS)
    refine Zez ((Walks.list (A := A.in1.in1.in1) (by simp [hh]) _ l hneI items).toS) s.heap.objs.size hSf (fun i => ns.getD i 0) (fun i v hv => IntsAre.int_at hi i v (by rw [Array.getElem?_toList]; exact hv)) hb (items.size - 0) 0 _ (by omega) (Nat.zero_le _)
     ⟨⟨_, Heap.get?_push_size _ rfl, rfl, rfl⟩, ⟨_, Heap.get?_push_of_some _ hol', rfl, nl, rfl⟩⟩ ?hS0 ?hR
    case hS0 => exact (ZhO (Heap.get?_push_of_some _ hS)).congr (fun _ => rfl) rfl
    case hR =>
     intro s' hm hS'
     obtain ⟨h', g', d', tk', os'⟩ := s'
     obtain rfl : g' = s.gens := hm.gens
     obtain rfl : d' = s.drawn := hm.drawn
     obtain rfl : os' = s.os := hm.os
     show wpAny _ _ _ _ _ _
     refine wpAny_pure ?_; show wpAny _ _ (ret Value.none) _ _ _
     refine wpAny_pure ⟨rfl, h', tk', rfl, hS', fun b o hb e => hm.heap b o (fun z => ?_) (Heap.get?_push_of_some _ (Heap.get?_push_of_some _ e))⟩
     rcases List.mem_cons.mp z with z | z
     ·exact absurd z (Nat.ne_of_lt hb)
     ·refine absurd (List.mem_singleton.mp z) (Nat.ne_of_lt ?_); rw [Heap.size_push]; exact Nat.lt_succ_of_lt hb
   ·cases r₂ with
    | error e => exact hr₂
    | ok fl₂ =>
     cases fl₂ with
     | ret r =>
      obtain ⟨rfl, h', tk, rfl, he⟩ := hr₂
      repeat (any_goals (first | assumption | wp_step))
      exact h _ _ he
     | _ => exact hr₂.elim
  | _ => exact hr.elim
end
end PyS
namespace L2
open PySem PySem.Spec PyProof.Rows
theorem XC : ∀ {M L : List Int}, M.Nodup → (∀ x ∈ M, x ∈ L) → L.length = M.length → List.Perm L M
 | [], L, _, _, h => by
  have : L = [] := List.length_eq_zero_iff.mp (by simpa using h)
  subst this
  exact List.Perm.refl _
 | x :: M, L, hn, hs, h => by
  have hx := hs x List.mem_cons_self
  have hp := List.perm_cons_erase hx
  rw [List.nodup_cons] at hn
  refine hp.trans ((XC hn.2 (fun y hy => ?_) ?_).cons x)
  ·have hne : y ≠ x := fun z => hn.1 (z ▸ hy)
   exact (List.mem_erase_of_ne hne).mpr (hs y (List.mem_cons_of_mem _ hy))
  ·have := hp.length_eq
   rw [Zi] at this
   rw [Zi] at h
   omega
theorem UL : ∀ {out : List Value} {ns : List Int}, IntsAre out ns → Zz (ns.map V.int) out
 | _, _, .nil => .nil
 | _, _, .cons n t r => .cons ⟨t, rfl⟩ (UL r)
def Ze0 (prog : Program) (w : World) (a : Addr) (M : List Int) : HO := .ext fun h => PyS.Xh prog w h a (fun k => M.any (· == k)) M.length
section
variable {X : Cx} {pins : List (Addr × Obj)} {σ : L2.St} {H : Hp} {s : Shared}
theorem Zv.drawn (I : Zv X pins σ H s) (d : Drawn) : Zv X pins σ H { s with drawn := d } := ⟨I.ok, I.os, I.bare, I.base, I.loc, I.cell, I.free, I.freeC, I.pin, I.hok, I.len⟩
theorem Zeo (hc : X.calm = true) : Yi X (.type "set") (fun xs H Q => ∃ (a : Addr) (ns : List Int), xs = [.ref a] ∧ Wp X.K H a (ns.map V.int) ∧ ns.length < 1000 ∧ ∀ p, H p = none → Q (.ref p) (upd H p (Ze0 X.prog X.w p (Vr ns ns.length)))) := by
 intro pins s σ H xs us Q I r h
 obtain ⟨a, ns, rfl, hq, hn, q⟩ := h
 obtain ⟨u, rfl, ru⟩ := W4 r
 cases ru
 obtain ⟨its, rv, p, hz⟩ := I.list hq
 have hl : its.toArray.size = ns.length := by rw [Zh, ← rv.length, Za]
 refine PyS.ZaK (I.ok.hd hc) p.isList (ns := ns) (by simpa using Zdd rv) (by rw [hl]; unfold scanBound; omega) fun h' tk ⟨e1, e2⟩ => ?_
 rw [hl] at e1
 refine ⟨.ref _, _, I.laid (a := s.heap.objs.size) (o := Ze0 X.prog X.w s.heap.objs.size (Vr ns ns.length)) (t' := tk) (fun b o e => e2 b o (Heap.lt_size e) e) (Nat.le_refl _) ⟨e1, ?_, fun h1 h2 x k => x.keep k⟩, rfl, q _ (I.hok.fresh (Nat.le_refl _))⟩
 obtain ⟨es, ep, t, ⟨o, e, _⟩, _⟩ := e1
 exact ⟨o, e⟩
theorem Zcj (hc : X.calm = true) : Yi X (.builtin "sorted") (fun xs H Q => ∃ (a : Addr) (M : List Int), xs = [.ref a] ∧ H a = some (Ze0 X.prog X.w a M) ∧ M.Nodup ∧ M.length < 64 ∧ ∀ l ns, H l = none → List.Perm ns M → ns.Pairwise (· ≤ ·) → Q (.ref l) (upd H l (.lst (ns.map V.int)))) := by
 intro pins s σ H xs us Q I r h
 obtain ⟨a, M, rfl, ha, hn, h64, q⟩ := h
 obtain ⟨u, rfl, ru⟩ := W4 r
 cases ru
 obtain ⟨X0, _, _⟩ := (show ZS X.prog X.w H s.heap a (Ze0 X.prog X.w a M) from I.hok a _ ha)
 obtain ⟨es, ep, t, X0⟩ := X0
 have hint : ∀ v ∈ PyS.vals es, ∃ k tk, v = .int k tk := fun v hv => by
  obtain ⟨e, he, rfl⟩ := List.mem_map.mp hv
  obtain ⟨⟨k, hk, _⟩, _⟩ := X0.el e he
  obtain ⟨tk, et⟩ := Value.isInt_shape hk
  exact ⟨k, tk, et⟩
 have hia := PyS.Zde hint
 have hp : List.Perm ((PyS.vals es).map PyS.Za3) M := by
  refine XC hn (fun x hx => ?_) ?_
  ·have hS : M.any (· == x) = true := List.any_eq_true.mpr ⟨x, hx, by simp⟩
   obtain ⟨e, he, hk⟩ := (X0.mem x).mp hS
   obtain ⟨tk, et⟩ := Value.isInt_shape hk
   refine List.mem_map.mpr ⟨e.2, List.mem_map.mpr ⟨e, he, rfl⟩, ?_⟩
   rw [et]
   rfl
  ·unfold PyS.vals
   rw [Za, Za, Array.length_toList]
   exact X0.sz
 refine PyS.ZbT (I.ok.hd hc) (by rw [X0.sz]; exact h64) X0.at_ X0.wk hia fun D h' dr tk out ns' c hD kp hD' hi hpp hP => ?_
 have hl : Zz (ns'.map V.int) out := UL hi
 have sz : (16777216 : Nat) = sizeLine := by decide
 have hll : ns'.length = M.length := (hpp.trans hp).length_eq
 refine ⟨.ref D, _, (I.laid (a := D) (o := .lst (ns'.map V.int)) (t' := tk) kp hD ⟨by rw [Za]; omega, out, c, hl, hD'⟩).drawn dr, rfl, q _ ns' (I.hok.fresh hD) (hpp.trans hp) hP⟩
end
section
variable {X : Cx} {pins : List (Addr × Obj)} {σ : L2.St} {H : Hp} {s : Shared}
theorem Zck (hc : X.calm = true) : Yi X (.builtin "sorted") (fun xs H Q => ∃ (a : Addr) (kvs : List (Z9 × V)) (ks : List Int), xs = [.ref a] ∧ H a = some (.dK kvs) ∧ kvs.map (·.1) = ks.map Sum.inl ∧ ks.length < 64 ∧ ∀ l ns, H l = none → List.Perm ns ks → ns.Pairwise (· ≤ ·) → Q (.ref l) (upd H l (.lst (ns.map V.int)))) := by
 intro pins s σ H xs us Q I r h
 obtain ⟨a, kvs, ks, rfl, ha, hk, h64, q⟩ := h
 obtain ⟨u, rfl, ru⟩ := W4 r
 cases ru
 obtain ⟨z, lo, vs, kv, hD⟩ := Zbs I.hok ha
 obtain ⟨ep, hat⟩ := hD.dictAt
 have hl : vs.length = ks.length := by rw [← kv.length, ← Za (f := fun p : Z9 × V => p.1), hk, Za]
 have hvk : vs.map (·.1) = ks.map Sum.inl := by rw [← kv.keys]; exact hk
 refine PyS.Va (PyS.ZeK (knd := ZX X.prog X.w) (kvs := vs) (ep := ep) lo) (I.ok.hd hc) (by omega) hat (ns := ks) (fun P acc hg hacc => ?_) fun D h' dr tk out ns' c hD' kp hD2 hi hpp hP => ?_
 ·subst hg
  have key : ∀ i v, acc.toList[i]? = some v → ∃ t, v = .int (ks.getD i 0) t ∧ i < ks.length := fun i v e => by
   rw [Array.getElem?_toList] at e
   obtain ⟨k, x, e1, e2⟩ := hacc.2 i v e
   have e3 : (vs.map (·.1))[i]? = some k := by rw [Zc, e1]; rfl
   rw [hvk, Zc] at e3
   cases hki : ks[i]? with
   | none => rw [hki] at e3; cases e3
   | some j =>
    rw [hki] at e3
    cases e3
    obtain ⟨t, et⟩ := Value.isInt_shape (show Value.isInt j v = true from e2)
    exact ⟨t, by rw [et, Zb, hki]; rfl, (List.getElem?_eq_some_iff.mp hki).1⟩
  have e : acc.toList.map PyS.Za3 = ks := by
   refine List.ext_getElem? fun i => ?_
   rw [Zc]
   by_cases hi : i < ks.length
   ·have hs : i < acc.toList.length := by rw [Array.length_toList, hacc.1]; omega
    obtain ⟨t, e1, _⟩ := key i _ (Zf hs)
    rw [Zf hs, e1, Option.map_some, Zf hi, Zb, Zf hi]
    rfl
   ·rw [List.getElem?_eq_none (by rw [Array.length_toList, hacc.1]; omega), List.getElem?_eq_none (by omega)]
    rfl
  refine ⟨PyS.Zde fun v hv => ?_, by rw [e]⟩
  obtain ⟨i, hi⟩ := List.getElem?_of_mem hv
  obtain ⟨t, e1, _⟩ := key i v hi
  exact ⟨_, t, e1⟩
 ·have hl2 : Zz (ns'.map V.int) out := UL hi
  have sz : (16777216 : Nat) = sizeLine := by decide
  have hll : ns'.length = ks.length := hpp.length_eq
  exact ⟨.ref D, _, (I.laid (a := D) (o := .lst (ns'.map V.int)) (t' := tk) kp hD' ⟨by rw [Za]; omega, out, c, hl2, hD2⟩).drawn dr, rfl, q _ ns' (I.hok.fresh hD') hpp hP⟩
def ZkK (td ty : TE) : TE := fun σ H Q => td σ H fun x H1 => ∃ a, x = .ref a ∧ IsD H1 a ∧ ty σ H1 fun y H2 => ∃ b kvs more, y = .ref b ∧ a ≠ b ∧ H2 a = some (.dK kvs) ∧ H2 b = some (.dK more) ∧ kvs.length + more.length ≤ sizeLine ∧ Q .non (upd H2 a (.dK (Y2 kvs more)))
theorem Zha {o e : Expr} {apos cpos : Pos} {td ty : TE} (ho : PE X o td) (he : PE X e ty) (m : M1 X o "update" apos e cpos) : PE X (.Call (.Attribute o "update" apos) [e] [] cpos) (ZkK td ty) := by
 intro pins s σ H Q I h
 refine wpAny_Call_method m.base m.few m.line PySem.F.plainAttrs_dict PySem.F.slot_dict_update PySem.F.type_dict_update (ZT (ho pins s σ H _ I h) fun u s1 ⟨x, H1, I1, rx, a, ex, d, q1⟩ => ?_)
 subst ex
 obtain rfl : u = Value.ref a := rx
 obtain ⟨t1, t2, _⟩ := ZjN I1 d
 refine ⟨t1, t2, ?_⟩
 rw [m.trees]
 refine Calls.callWith_builtin rfl (Calls.evalArgs_plain (Calls.spliced_cons (ZT (he pins s1 σ H1 _ I1 q1) fun iv s2 ⟨y, H2, I2, ry, b, kvs, more, ey, hab, ha, hb, hz, q2⟩ => Calls.spliced_nil ?_)))
 subst ey
 obtain rfl : iv = Value.ref b := ry
 obtain ⟨_, lo, vs, kv, hD⟩ := Zbs I2.hok ha
 obtain ⟨_, lo', ws, kv', hD'⟩ := Zbs I2.hok hb
 refine call_meetsIn PySem.F.slot_dict_update hD.typeIs PySem.F.entry_dict_update (PySem.F.args_dict_update_2 _ _) (meets_dict_update (ZX X.prog X.w) a b hab lo') ⟨vs, ws, hD, hD', by rw [← kv.length, ← kv'.length]; exact hz, fun h' d1 d2 sb => ?_⟩
 have he' : ∃ q, h'.get? a = some q := let ⟨q, _, _, hq, _⟩ := d1; ⟨q, hq⟩
 exact ⟨.non, _, XX (t' := s2.toks) I2 (by rw [ha]; exact True.intro) sb he' (Zci (Nat.le_trans (WD more kvs) hz) lo (KV.merge kv' kv) d1), rfl, q2⟩
end
end L2
namespace PyY
open PySem
open AutoSeq1 (wpAny_loadPart')
section
variable {prog : Program} {w : World} {A : Around} {E : Value → Shared → Prop} {s : Shared}
theorem Vq {j a : Addr} {k : Nat} {us : Array Value} {y : Value} {Q : Value → Shared → Prop} (c : s.heap.IsTupleIter j a k) (d : s.heap.IsTuple a us) (e : us[k]? = some y)
  (q : ∀ g, g.IsTupleIter j a (k + 1) → Heap.SameBut j s.heap g → Q y { s with heap := g }) : wpAny (model prog w) A (Builtin.SmallTypes.nextOf (.ref j)) Q E s := by
 obtain ⟨oj, hj, cj, dj⟩ := id c
 obtain ⟨oa, ha, _, na, da⟩ := d
 unfold Builtin.SmallTypes.nextOf
 refine wpAny_bind (wpAny_callSpecial?_slot (name := Str.ofString "__next__") c.typeIs F.slot_tuple_iterator_next (wpAny_call_entry F.slot_tuple_iterator_next c.typeIs F.entry_tuple_iterator_next ?_ (F.args_tuple_iterator_next_1 _)))
 show wpAny _ _ (field (.ref j) 0 >>= _) _ _ s
 refine wpAny_bind (wpAny_field hj dj (x := .ref a) rfl ?_)
 show wpAny _ _ (if (Value.ref a == Value.none) = true then _ else _) _ _ s
 rw [if_neg (show ¬ ((Value.ref a == Value.none) = true) from Bool.false_ne_true)]
 show wpAny _ _ (field (.ref j) 1 >>= _) _ _ s
 refine wpAny_bind (wpAny_field hj dj (x := .int k 0) rfl ?_)
 show wpAny _ _ (seqItems? (.ref a) >>= _) _ _ s
 refine wpAny_bind (wpAny_seqItems ha da ?_)
 simp only [Zj, e]
 refine wpAny_bind (wpAny_setField hj dj (by simp) (wpAny_pure ⟨y, rfl, wpAny_pure (q _ ?_ (Heap.SameBut.update ..))⟩))
 refine ⟨_, Heap.get?_update_self _ hj (Obj.isFreed_of_fields (Obj.data_mapFields dj _)), (Obj.cls_mapFields ..).trans cj, ?_⟩
 rw [Obj.data_mapFields dj]
 simp [rawInt]
theorem Uj {j a : Addr} {k : Nat} {us : Array Value} {Q : Value → Shared → Prop} (hn : A.handled = none) (c : s.heap.IsTupleIter j a k) (d : s.heap.IsTuple a us) (e : us[k]? = none)
  (q : ∀ g x, Heap.ExtBut j s.heap g → (∃ o, g.get? x = some o ∧ o.cls = .type "StopIteration") → E (.ref x) { s with heap := g }) : wpAny (model prog w) A (Builtin.SmallTypes.nextOf (.ref j)) Q E s := by
 obtain ⟨oj, hj, cj, dj⟩ := id c
 obtain ⟨oa, ha, _, na, da⟩ := d
 unfold Builtin.SmallTypes.nextOf
 refine wpAny_bind (wpAny_callSpecial?_slot (name := Str.ofString "__next__") c.typeIs F.slot_tuple_iterator_next (wpAny_call_entry F.slot_tuple_iterator_next c.typeIs F.entry_tuple_iterator_next ?_ (F.args_tuple_iterator_next_1 _)))
 show wpAny _ _ (field (.ref j) 0 >>= _) _ _ s
 refine wpAny_bind (wpAny_field hj dj (x := .ref a) rfl ?_)
 show wpAny _ _ (if (Value.ref a == Value.none) = true then _ else _) _ _ s
 rw [if_neg (show ¬ ((Value.ref a == Value.none) = true) from Bool.false_ne_true)]
 show wpAny _ _ (field (.ref j) 1 >>= _) _ _ s
 refine wpAny_bind (wpAny_field hj dj (x := .int k 0) rfl ?_)
 show wpAny _ _ (seqItems? (.ref a) >>= _) _ _ s
 refine wpAny_bind (wpAny_seqItems ha da ?_)
 simp only [Zj, e]
 refine wpAny_bind (wpAny_rule (wpAny_bind (wpAny_setField hj dj (by simp) ?_)))
 show wpAny _ _ (newExc (.type "StopIteration") [] >>= _) _ _ { s with heap := _ }
 refine wpAny_bind ?_
 unfold newExc newTuple
 refine wpAny_bind (wpAny_newObj_type (Q := _) ?_ (by size_fits))
 refine wpAny_bind (m := firstArgMember _ _) (wpAny_of_eq (a := Value.none) (by first | rfl | (unfold firstArgMember; rfl)) ?_)
 refine wpAny_newObj_type (Q := _) ?_ (by size_fits)
 unfold raiseNew
 refine wpAny_bind (wpAny_handled ?_)
 have hn' : A.in1.handled = none := hn
 rw [hn']
 refine wpAny_bind (wpAny_pure (wpAny_throw (E := E) ?_))
 exact q _ _ (((Heap.SameBut.update ..).extBut.push _).push _) ⟨_, Heap.get?_push_size _ rfl, rfl⟩
theorem Zch {n j a : Addr} {k : Nat} {us : Array Value} {y old : Value} {Q : Option Value → Shared → Prop} (b : IsEnum s.heap n j k old) (c : s.heap.IsTupleIter j a k) (d : s.heap.IsTuple a us) (e : us[k]? = some y) (nj : n ≠ j)
  (q : ∀ g, IsEnumOut g n j ((k : Int) + 1) y s.heap.objs.size → g.IsTupleIter j a (k + 1) → g.get? s.heap.objs.size = some { cls := .type "tuple", data := .seq #[.int k s.toks, y] } → g.objs.size = s.heap.objs.size + 1 →
   (∀ x o, x ≠ n → x ≠ j → s.heap.get? x = some o → g.get? x = some o) → Q (some (.ref s.heap.objs.size)) { s with heap := g, toks := s.toks + 1 }) : wpAny (model prog w) A (pyNext (.ref n)) Q E s := by
 have tn : s.TypeIs (.ref n) "enumerate" := ⟨_, b, rfl⟩
 unfold pyNext
 refine wpAny_bind (wpAny_attempt (wpAny_callSpecial?_slot (name := Str.ofString "__next__") tn F.slot_enumerate_next (wpAny_call_entry F.slot_enumerate_next tn F.entry_enumerate_next ?_ (F.args_enumerate_next_1 _))))
 obtain ⟨g0, gs, dr, tk, os⟩ := s
 show wpAny _ _ (field (.ref n) 2 >>= _) _ _ _
 refine wpAny_bind (wpAny_field b rfl (x := .ref j) rfl ?_)
 refine wpAny_bind (Vq c d e fun g1 c1 s1 => ?_)
 replace s1 : Heap.SameBut j g0 g1 := s1
 have b1 : IsEnum g1 n j k old := (s1.2 n nj).trans b
 show wpAny _ _ (field (.ref n) 3 >>= _) _ _ ⟨g1, gs, dr, tk, os⟩
 refine wpAny_bind (wpAny_field b1 rfl (x := rawInt k) rfl ?_)
 show wpAny _ _ (field (.ref n) 4 >>= _) _ _ ⟨g1, gs, dr, tk, os⟩
 refine wpAny_bind (wpAny_field b1 rfl (x := .none) rfl ?_)
 show wpAny _ _ (mkInt k >>= _) _ _ ⟨g1, gs, dr, tk, os⟩
 refine wpAny_bind (wpAny_mkInt ?_)
 show wpAny _ _ (setField (.ref n) 3 (rawInt ((k : Int) + 1)) >>= _) _ _ ⟨g1, gs, dr, tk + 1, os⟩
 refine wpAny_bind (wpAny_setField_rec b1 (by simp) fun g2 b2 s2 => ?_)
 replace s2 : Heap.SameBut n g1 g2 := s2
 replace b2 : IsEnum g2 n j ((k : Int) + 1) old := b2
 show wpAny _ _ (setField (.ref n) 4 .none >>= _) _ _ ⟨g2, gs, dr, tk + 1, os⟩
 refine wpAny_bind (wpAny_setField_rec b2 (by simp) fun g3 b3 s3 => ?_)
 replace s3 : Heap.SameBut n g2 g3 := s3
 replace b3 : IsEnum g3 n j ((k : Int) + 1) old := b3
 show wpAny _ _ (newTuple [.int k tk, y] >>= _) _ _ ⟨g3, gs, dr, tk + 1, os⟩
 refine wpAny_bind (wpAny_newTuple ?_)
 have b4 : IsEnum (g3.push { cls := .type "tuple", data := .seq #[.int k tk, y] }) n j ((k : Int) + 1) old := Heap.get?_push_of_some _ b3
 generalize z4 : g3.push { cls := .type "tuple", data := .seq #[.int k tk, y] } = g4 at b4
 have sz : g3.objs.size = g0.objs.size := by rw [s3.1, s2.1, s1.1]
 have nl : n < g0.objs.size := Heap.lt_size b
 have t4 : g4.get? g0.objs.size = some { cls := .type "tuple", data := .seq #[.int k tk, y] } := by
  rw [← z4, ← sz]
  exact Heap.get?_push_size _ rfl
 have w4 : g4.objs.size = g0.objs.size + 1 := by
  rw [← z4, Heap.size_push, sz]
 have k4 : ∀ x o, x ≠ n → x ≠ j → g0.get? x = some o → g4.get? x = some o := fun x o xn xj hx => by
  rw [← z4]
  exact Heap.get?_push_of_some _ (s3.extBut x o xn (s2.extBut x o xn (s1.extBut x o xj hx)))
 have c4 : g4.IsTupleIter j a (k + 1) := by
  obtain ⟨o, ho, r⟩ := (c1.extBut s2.extBut (Ne.symm nj)).extBut s3.extBut (Ne.symm nj)
  rw [← z4]
  exact ⟨o, Heap.get?_push_of_some _ ho, r⟩
 show wpAny _ _ (Builtin.SmallTypes.ownedTupleIsFree (.ref n) >>= _) _ _ ⟨g4, gs, dr, tk + 1, os⟩
 rw [sz]
 clear z4 b3 s3 b2 s2 b1 s1 c1 sz g3 g2 g1
 refine wpAny_bind ?_
 unfold Builtin.SmallTypes.ownedTupleIsFree
 refine wpAny_bind (wpAny_field b4 rfl (x := .none) rfl (wpAny_pure ?_))
 rw [if_pos rfl]
 refine wpAny_bind (wpAny_rule (wpAny_bind (wpAny_field b4 rfl (x := old) rfl ?_)))
 refine wpAny_bind (wpAny_setField_rec b4 (by simp) fun g5 b5 s5 => ?_)
 replace s5 : Heap.SameBut n g4 g5 := s5
 replace b5 : IsEnum g5 n j ((k : Int) + 1) y := b5
 show wpAny _ _ (Builtin.SmallTypes.ownedTupleHandOut (.ref n) (.ref g0.objs.size) >>= _) _ _ ⟨g5, gs, dr, tk + 1, os⟩
 refine wpAny_bind ?_
 unfold Builtin.SmallTypes.ownedTupleHandOut
 refine wpAny_bind (wpAny_setField_rec b5 (by simp) fun g6 b6 s6 => ?_)
 replace s6 : Heap.SameBut n g5 g6 := s6
 replace b6 : IsEnumOut g6 n j ((k : Int) + 1) y g0.objs.size := b6
 refine wpAny_setField_rec b6 (by simp) fun g7 b7 s7 => ?_
 replace s7 : Heap.SameBut n g6 g7 := s7
 replace b7 : IsEnumOut g7 n j ((k : Int) + 1) y g0.objs.size := b7
 refine wpAny_bind (wpAny_letGo (wpAny_pure ⟨_, rfl, wpAny_pure (q g7 b7 ?_ ?_ ?_ ?_)⟩))
 ·exact ((c4.extBut s5.extBut (Ne.symm nj)).extBut s6.extBut (Ne.symm nj)).extBut s7.extBut (Ne.symm nj)
 ·exact s7.extBut _ _ (Nat.ne_of_gt nl) (s6.extBut _ _ (Nat.ne_of_gt nl) (s5.extBut _ _ (Nat.ne_of_gt nl) t4))
 ·rw [s7.1, s6.1, s5.1, w4]
 ·exact fun x o xn xj hx => s7.extBut x o xn (s6.extBut x o xn (s5.extBut x o xn (k4 x o xn xj hx)))
theorem Zed {n j a : Addr} {k : Nat} {us : Array Value} {old : Value} {Q : Option Value → Shared → Prop} (hn : A.handled = none) (b : IsEnum s.heap n j k old) (c : s.heap.IsTupleIter j a k) (d : s.heap.IsTuple a us) (e : us[k]? = none)
  (q : ∀ g, Heap.ExtBut j s.heap g → Q none { s with heap := g }) : wpAny (model prog w) A (pyNext (.ref n)) Q E s := by
 have tn : s.TypeIs (.ref n) "enumerate" := ⟨_, b, rfl⟩
 unfold pyNext
 refine wpAny_bind (wpAny_attempt (wpAny_callSpecial?_slot (name := Str.ofString "__next__") tn F.slot_enumerate_next (wpAny_call_entry F.slot_enumerate_next tn F.entry_enumerate_next ?_ (F.args_enumerate_next_1 _))))
 show wpAny _ _ (field (.ref n) 2 >>= _) _ _ _
 refine wpAny_bind (wpAny_field b rfl (x := .ref j) rfl ?_)
 refine wpAny_bind (Uj hn c d e fun g x xe xs => ?_)
 obtain ⟨o, ho, hc⟩ := xs
 refine wpAny_bind (wpAny_isInstance (T := "StopIteration") (b := true) ⟨o, ho, hc⟩ isSubtype_stop ?_)
 exact wpAny_pure (q _ xe)
theorem Zec (a : Addr) (us : Array Value) (n : Nat) (dd : Option Addr) (sl : Array (Option Value)) :
  Meets (Builtin.«enumerate.__new__» ⟨[.type "enumerate", .ref a], []⟩) (fun _ R s => s.heap.get? a = some { cls := .type "tuple", dict := dd, data := .seq us n, slots := sl } ∧
   R (.ok (.ret (.ref (s.heap.push { cls := .type "tuple_iterator", data := .fields #[.ref a, .int 0 0] }).objs.size)))
    { s with heap := (s.heap.push { cls := .type "tuple_iterator", data := .fields #[.ref a, .int 0 0] }).push { cls := .type "enumerate", data := .fields #[.none, .bool false, .ref s.heap.objs.size, rawInt 0, .none, .none] } }) :=
 .of_wp fun prog w A R s h => by
  obtain ⟨hh, gg, dr, tk, os⟩ := s
  obtain ⟨ha, h⟩ := h
  have sub := sub_enumerate
  have hT : Heap.IsTuple (Shared.heap ⟨hh, gg, dr, tk, os⟩) a us := ⟨_, ha, rfl, n, rfl⟩
  wp_walk using wpAny_loadPart' ha
  refine wpAny_stack_any fun st => wpAny_pure ?_
  split
  ·rename_i c1 _ _ _ _ _
   cases (c1 == Value.type "enumerate") <;> (wp_walk using wpAny_loadPart' ha, wpAny_pyIter_tuple hT) <;> exact ⟨_, rfl, h⟩
  ·wp_walk using wpAny_loadPart' ha, wpAny_pyIter_tuple hT
   exact ⟨_, rfl, h⟩
theorem VR {a : Addr} {us : Array Value} {Q : Value → Shared → Prop} (hT : s.heap.IsTuple a us)
  (h : ∀ g, IsEnum g (s.heap.objs.size + 1) s.heap.objs.size 0 .none → g.IsTupleIter s.heap.objs.size a 0 → g.objs.size = s.heap.objs.size + 2 → (∀ b o, s.heap.get? b = some o → g.get? b = some o) → Q (.ref (s.heap.objs.size + 1)) { s with heap := g }) :
  wpAny (model prog w) A (call (.type "enumerate") [.ref a]) Q E s := by
 obtain ⟨⟨cc, dd, dt, sl⟩, ha, hc, n, hd⟩ := hT
 have hc' : cc = .type "tuple" := hc
 have hd' : dt = .seq us n := hd
 subst hc' hd'
 refine callType_new F.called_enumerate (by decide) (F.typeCall_enumerate_1 _) (F.newCall_enumerate_1 _) (fun obj => F.args_object_init_2 obj _) F.entry_enumerate_new (Zec a us n dd sl) ⟨ha, ?_⟩
 have hz : (s.heap.push { cls := .type "tuple_iterator", data := .fields #[.ref a, .int 0 0] }).objs.size = s.heap.objs.size + 1 := Heap.size_push ..
 show _ ∧ _
 rw [hz]
 have he : IsEnum ((s.heap.push { cls := .type "tuple_iterator", data := .fields #[.ref a, .int 0 0] }).push { cls := .type "enumerate", data := .fields #[.none, .bool false, .ref s.heap.objs.size, rawInt 0, .none, .none] }) (s.heap.objs.size + 1) s.heap.objs.size 0 .none := by
  have z := Heap.get?_push_size (s.heap.push { cls := .type "tuple_iterator", data := .fields #[.ref a, .int 0 0] }) (o := { cls := .type "enumerate", data := .fields #[.none, .bool false, .ref s.heap.objs.size, rawInt 0, .none, .none] }) rfl
  rw [hz] at z
  exact z
 exact ⟨⟨_, he, rfl⟩, h _ he ⟨_, Heap.get?_push_of_some _ (Heap.get?_push_size _ rfl), rfl, rfl⟩ (by rw [Heap.size_push, hz]) fun b o y => Heap.get?_push_of_some _ (Heap.get?_push_of_some _ y)⟩
end
end PyY
namespace L2
open PySem PySem.Spec PyProof.Rows
section
variable {X : Cx} {pins : List (Addr × Obj)} {σ : St} {H : Hp} {s : Shared} {h' : Heap}
theorem Zv.turnLay {t' : Nat} {ts : List Addr} {T : Addr} {o : HO} (I : Zv X pins σ H s) (k : ∀ b u, b ∉ ts → s.heap.get? b = some u → h'.get? b = some u) (ht : ∀ b ∈ ts, ∃ u, h'.get? b = some u) (hf : ∀ b ∈ ts, V5 X pins H b) (hT : s.heap.objs.size ≤ T)
  (new : ZS X.prog X.w (upd H T o) h' T o) : Zv X pins σ (upd H T o) { s with heap := h', toks := t' } := by
 have fT : H T = none := I.hok.fresh hT
 have nts : ∀ b u, H b = some u → b ∉ ts := fun b u e z => by
  have := (hf b z).1
  rw [e] at this
  cases this
 refine I.call (ch := ts) (g' := s.gens) (d' := s.drawn) ⟨fun b u e _ _ nx => k b u nx e, fun b u e _ _ nx => ⟨u.slots, k b u nx e⟩, fun b u e n _ => ?_, fun b u e nx => ⟨u, k b u nx e⟩, fun b ys q => ?_, fun b u v q => ?_, fun b ps q => ⟨#[], ?_⟩⟩
  (fun b u e => ?_) I.bare fun b hb => ?_
 ·rw [Zt (Nat.ne_of_lt (Nat.lt_of_lt_of_le (Heap.lt_size e) hT))]
  exact n
 ·rw [Zt (ZP q fT)]
  exact q
 ·rw [Zt (ZP q fT)]
  exact q
 ·rw [Zt (ZP q fT), q]
  simp
 ·by_cases hb : b = T
  ·subst hb
   rw [Zm] at e
   cases e
   exact new
  ·rw [Zt hb] at e
   refine (I.hok b u e).stay (fun c v hc q => k c v ?_ q) (fun c r => by rw [Zt (ZP r fT)]; exact r) fun c ys r => by rw [Zt (ZP r fT)]; exact r
   rcases hc with z | z
   ·rw [z]
    exact nts b u e
   ·exact nts c _ z
 ·obtain ⟨f0, f1, f2, f3, f4, f5⟩ := hf b hb
  exact ⟨f3, f1, f4, f5⟩
theorem Zv.turnedL {t' : Nat} {ts : List Addr} (I : Zv X pins σ H s) (k : ∀ b u, b ∉ ts → s.heap.get? b = some u → h'.get? b = some u) (hf : ∀ b ∈ ts, V5 X pins H b) : Zv X pins σ H { s with heap := h', toks := t' } := by
 have nts : ∀ b u, H b = some u → b ∉ ts := fun b u e z => by
  have := (hf b z).1
  rw [e] at this
  cases this
 refine I.call (ch := ts) (g' := s.gens) (d' := s.drawn) ⟨fun b u e _ _ nx => k b u nx e, fun b u e _ _ nx => ⟨u.slots, k b u nx e⟩, fun b u e n _ => n, fun b u e nx => ⟨u, k b u nx e⟩, fun b ys q => q, fun b u v q => q, fun b ps q => ⟨#[], by rw [q]; simp⟩⟩
  (fun b u e => ?_) I.bare fun b hb => ?_
 ·refine (I.hok b u e).stay (fun c v hc q => k c v ?_ q) (fun c r => r) fun c ys r => r
  rcases hc with z | z
  ·rw [z]
   exact nts b u e
  ·exact nts c _ z
 ·obtain ⟨f0, f1, f2, f3, f4, f5⟩ := hf b hb
  exact ⟨f3, f1, f4, f5⟩
end
def Zkj (K : PySem.W.Frag) (a : Addr) : It :=
 ⟨fun i H => ∃ xs x, Wp K H a xs ∧ xs[i]? = some x, fun i H x H' => ∃ T y, x = .ref T ∧ H T = none ∧ H' = upd H T (.tup [.int i, y]) ∧ ∀ xs, Wp K H a xs → xs[i]? = some y, fun i H => ∃ xs, Wp K H a xs ∧ xs.length ≤ i⟩
def Zki (K : PySem.W.Frag) (a : Addr) : It :=
 ⟨fun i H => ∃ xs x, YW K H a xs ∧ xs[i]? = some x, fun i H x H' => ∃ T y, x = .ref T ∧ H T = none ∧ H' = upd H T (.tup [.int i, y]) ∧ ∀ xs, YW K H a xs → xs[i]? = some y, fun i H => ∃ xs, YW K H a xs ∧ xs.length ≤ i⟩
theorem X5 {P : Program} {w : World} {K : PySem.W.Frag} {elts : List Expr} {x1} {pos : Pos} (a e it : Addr) (ne : e ≠ it) :
  Zar P w K (.Tuple elts x1 pos) (Zkj K a) [e, it] e (fun i h => (∃ old, IsEnum h e it i old) ∧ h.IsListIter it a i) where
 mem := by simp
 obj := fun i h st b hb => by
  obtain ⟨⟨old, se⟩, ⟨o, e1, c, d⟩⟩ := st
  rcases List.mem_cons.mp hb with rfl | hb
  ·exact ⟨_, se, fun v z => by
    have z' : Data.fields _ = Data.cell v := z
    cases z'⟩
  ·have q : b = it := by simpa using hb
   subst q
   exact ⟨o, e1, fun v z => by rw [d] at z; cases z⟩
 keep := fun i h h' st k => by
  obtain ⟨⟨old, se⟩, si⟩ := st
  exact ⟨⟨old, k e (by simp) _ se⟩, si.at fun o q => k it (by simp) o q⟩
 item := by
  intro X hP hw hK hc i pins s σ H E I hf st hg
  subst hP hw hK
  obtain ⟨⟨old, se⟩, si⟩ := st
  obtain ⟨xs, x, hq, hx⟩ := hg
  obtain ⟨its, rv, p, hz⟩ := I.list hq
  obtain ⟨u, hu, ru⟩ := rv.get hx
  refine wpAny_pyNext_enum_item se si p.isList (x := u) (by simpa using hu) ne fun h1 ho hi1 hT hsz hk => ?_
  refine ⟨_, rfl, wpAny_letOwnedTupleGo_enum ho fun h2 he2 hs2 => ?_⟩
  have le : e < s.heap.objs.size := Heap.lt_size se
  have hs3 : Heap.SameBut e h1 h2 := hs2
  have hT2 : h2.get? s.heap.objs.size = some { cls := .type "tuple", data := .seq #[.int i s.toks, u] } := (hs3.2 _ (Nat.ne_of_gt le)).trans hT
  have hi2 : h2.IsListIter it a (i + 1) := hi1.at fun o q => (hs3.2 it (Ne.symm ne)).trans q
  have he3 : IsEnum h2 e it ((i + 1 : Nat) : Int) u := by
   have := he2
   simpa using this
  have nT : H s.heap.objs.size = none := I.hok.fresh (Nat.le_refl _)
  have I2 := I.turnLay (t' := s.toks + 1) (h' := h2) (ts := [e, it]) (T := s.heap.objs.size) (o := .tup [.int i, x]) (fun b v hb q => ?_) (fun b hb => ?_) hf (Nat.le_refl _) ⟨by show 2 ≤ sizeLine; decide, [.int i s.toks, u], .cons ⟨_, rfl⟩ (.cons ru .nil), _, hT2, rfl, 0, rfl⟩
  ·refine ⟨.ref s.heap.objs.size, _, I2, rfl, ⟨_, x, rfl, nT, rfl, fun ys hy => by rw [I.list_inj hy hq]; exact hx⟩, ⟨⟨u, he3⟩, hi2⟩, fun b hb => ?_⟩
   have fb := (hf b hb).1
   have lb : b < s.heap.objs.size := by
    rcases List.mem_cons.mp hb with rfl | hb
    ·exact le
    ·have q : b = it := by simpa using hb
     subst q
     obtain ⟨o, e1, _⟩ := si
     exact Heap.lt_size e1
   rw [Zt (Nat.ne_of_lt lb)]
   exact fb
  ·have q1 : b ≠ e := fun z => hb (by simp [z])
   have q2 : b ≠ it := fun z => hb (by simp [z])
   exact (hs3.2 b q1).trans (hk b v q1 q2 q)
  ·rcases List.mem_cons.mp hb with rfl | hb
   ·exact ⟨_, he3⟩
   ·have q : b = it := by simpa using hb
    subst q
    obtain ⟨o, e1, _⟩ := hi2
    exact ⟨o, e1⟩
 done := by
  intro X hP hw hK hc i pins s σ H E I hf st hg
  subst hP hw hK
  obtain ⟨⟨old, se⟩, si⟩ := st
  obtain ⟨xs, hq, hx⟩ := hg
  obtain ⟨its, rv, p, hz⟩ := I.list hq
  have hl := rv.length
  exact wpAny_pyNext_enum_end (I.ok.hd hc) se si p.isList (by simp; omega) fun h1 eb => ⟨rfl, I.turnedL (t' := s.toks) (ts := [e, it]) (fun b o hb q => eb b o (fun z => hb (by simp [z])) q) hf⟩
 self := fun _ _ _ _ _ st h => by
  obtain ⟨⟨old, se⟩, si⟩ := st
  exact wpAny_pyIter_enum se h
theorem X4 {P : Program} {w : World} {K : PySem.W.Frag} {elts : List Expr} {x1} {pos : Pos} (a e it : Addr) (ne : e ≠ it) :
  Zar P w K (.Tuple elts x1 pos) (Zki K a) [e, it] e (fun i h => (∃ old, IsEnum h e it i old) ∧ h.IsTupleIter it a i) where
 mem := by simp
 obj := fun i h st b hb => by
  obtain ⟨⟨old, se⟩, ⟨o, e1, c, d⟩⟩ := st
  rcases List.mem_cons.mp hb with rfl | hb
  ·exact ⟨_, se, fun v z => by
    have z' : Data.fields _ = Data.cell v := z
    cases z'⟩
  ·have q : b = it := by simpa using hb
   subst q
   exact ⟨o, e1, fun v z => by rw [d] at z; cases z⟩
 keep := fun i h h' st k => by
  obtain ⟨⟨old, se⟩, si⟩ := st
  exact ⟨⟨old, k e (by simp) _ se⟩, si.at fun o q => k it (by simp) o q⟩
 item := by
  intro X hP hw hK hc i pins s σ H E I hf st hg
  subst hP hw hK
  obtain ⟨⟨old, se⟩, si⟩ := st
  obtain ⟨xs, x, hq, hx⟩ := hg
  obtain ⟨its, rv, p, hz⟩ := I.tuple hq
  obtain ⟨u, hu, ru⟩ := rv.get hx
  refine PyY.Zch se si (show s.heap.IsTuple a its.toArray from p) (y := u) (by simpa using hu) ne fun h1 ho hi1 hT hsz hk => ?_
  refine ⟨_, rfl, wpAny_letOwnedTupleGo_enum ho fun h2 he2 hs2 => ?_⟩
  have le : e < s.heap.objs.size := Heap.lt_size se
  have hs3 : Heap.SameBut e h1 h2 := hs2
  have hT2 : h2.get? s.heap.objs.size = some { cls := .type "tuple", data := .seq #[.int i s.toks, u] } := (hs3.2 _ (Nat.ne_of_gt le)).trans hT
  have hi2 : h2.IsTupleIter it a (i + 1) := hi1.at fun o q => (hs3.2 it (Ne.symm ne)).trans q
  have he3 : IsEnum h2 e it ((i + 1 : Nat) : Int) u := by
   have := he2
   simpa using this
  have nT : H s.heap.objs.size = none := I.hok.fresh (Nat.le_refl _)
  have I2 := I.turnLay (t' := s.toks + 1) (h' := h2) (ts := [e, it]) (T := s.heap.objs.size) (o := .tup [.int i, x]) (fun b v hb q => ?_) (fun b hb => ?_) hf (Nat.le_refl _) ⟨by show 2 ≤ sizeLine; decide, [.int i s.toks, u], .cons ⟨_, rfl⟩ (.cons ru .nil), _, hT2, rfl, 0, rfl⟩
  ·refine ⟨.ref s.heap.objs.size, _, I2, rfl, ⟨_, x, rfl, nT, rfl, fun ys hy => by rw [I.tuple_inj hy hq]; exact hx⟩, ⟨⟨u, he3⟩, hi2⟩, fun b hb => ?_⟩
   have fb := (hf b hb).1
   have lb : b < s.heap.objs.size := by
    rcases List.mem_cons.mp hb with rfl | hb
    ·exact le
    ·have q : b = it := by simpa using hb
     subst q
     obtain ⟨o, e1, _⟩ := si
     exact Heap.lt_size e1
   rw [Zt (Nat.ne_of_lt lb)]
   exact fb
  ·have q1 : b ≠ e := fun z => hb (by simp [z])
   have q2 : b ≠ it := fun z => hb (by simp [z])
   exact (hs3.2 b q1).trans (hk b v q1 q2 q)
  ·rcases List.mem_cons.mp hb with rfl | hb
   ·exact ⟨_, he3⟩
   ·have q : b = it := by simpa using hb
    subst q
    obtain ⟨o, e1, _⟩ := hi2
    exact ⟨o, e1⟩
 done := by
  intro X hP hw hK hc i pins s σ H E I hf st hg
  subst hP hw hK
  obtain ⟨⟨old, se⟩, si⟩ := st
  obtain ⟨xs, hq, hx⟩ := hg
  obtain ⟨its, rv, p, hz⟩ := I.tuple hq
  have hl := rv.length
  exact PyY.Zed (I.ok.hd hc) se si (show s.heap.IsTuple a its.toArray from p) (by simp; omega) fun h1 eb => ⟨rfl, I.turnedL (t' := s.toks) (ts := [e, it]) (fun b o hb q => eb b o (fun z => hb (by simp [z])) q) hf⟩
 self := fun _ _ _ _ _ st h => by
  obtain ⟨⟨old, se⟩, si⟩ := st
  exact wpAny_pyIter_enum se h
section
variable {X : Cx}
def ZiM (K : PySem.W.Frag) (ta : TA) : TI := fun σ H R => ta σ H fun vs H1 => ∃ a, vs = [.ref a] ∧ (((∃ xs, Wp K H1 a xs) ∧ R (Zkj K a) H1) ∨ ((∃ xs, YW K H1 a xs) ∧ R (Zki K a) H1))
theorem Zlw {elts : List Expr} {x1} {pt : Pos} {l : Expr} {ta : TA} {p pos : Pos} (hm : X.mg "enumerate" = none) (ha : PA X [l] ta) (hg : Yx X.env.scope "enumerate" = true := by kernel_rfl) (hs : starEach [l] X.env = [(false, eval l X.env)] := by rfl) :
  PI X (.Tuple elts x1 pt) (.Call (.Name "enumerate" p) [l] [] pos) (ZiM X.K ta) := by
 intro pins s σ H R I h
 refine Call_ (WV I (Jg hg) hm (show bootBuiltins "enumerate" = some (.type "enumerate") by kernel_rfl) (PyProof.Rows.callWith_type1 (ZT (ha pos pins s σ H _ I h) fun us s1 ⟨vs, H1, I1, r1, q1⟩ => ?_) hs rfl))
 obtain ⟨a, e, q⟩ := q1
 subst e
 cases r1 with
 | cons r rr =>
  cases rr
  cases (show _ = Value.ref a from r)
  have sz : ∀ b, b ∈ [s1.heap.objs.size + 1, s1.heap.objs.size] → s1.heap.objs.size ≤ b := fun b hb => by
   rcases List.mem_cons.mp hb with rfl | hb
   ·exact Nat.le_succ _
   ·have : b = s1.heap.objs.size := by simpa using hb
    rw [this]
    exact Nat.le_refl _
  rcases q with ⟨⟨xs, hq⟩, q⟩ | ⟨⟨xs, hq⟩, q⟩
  ·obtain ⟨its, rv, p, hz⟩ := I1.list hq
   refine call_enumerate_list p.isList fun g ge gi gs gk => ?_
   refine wpAny_pyIter_enum ge ?_
   exact ⟨_, [s1.heap.objs.size + 1, s1.heap.objs.size], _, _, H1, rfl, I1.kept (t' := s1.toks) gk, X5 a _ _ (Nat.ne_of_gt (Nat.lt_succ_self _)), ⟨⟨_, ge⟩, gi⟩, fun b hb => I1.fpOk (sz b hb) (I1.hok.fresh (sz b hb)), q⟩
  ·obtain ⟨its, rv, p, hz⟩ := I1.tuple hq
   refine PyY.VR (show s1.heap.IsTuple a its.toArray from p) fun g ge gi gs gk => ?_
   refine wpAny_pyIter_enum ge ?_
   exact ⟨_, [s1.heap.objs.size + 1, s1.heap.objs.size], _, _, H1, rfl, I1.kept (t' := s1.toks) gk, X4 a _ _ (Nat.ne_of_gt (Nat.lt_succ_self _)), ⟨⟨_, ge⟩, gi⟩, fun b hb => I1.fpOk (sz b hb) (I1.hok.fresh (sz b hb)), q⟩
theorem Zdi (K : PySem.W.Frag) {elts : List Expr} {x1} {pt : Pos} {l : Expr} {ta : TA} {p pos : Pos} (hm : X.mg "enumerate" = none) (ha : PA X [l] ta) (hK : X.K = K := by rfl) (hg : Yx X.env.scope "enumerate" = true := by kernel_rfl) (hs : starEach [l] X.env = [(false, eval l X.env)] := by rfl) :
  PI X (.Tuple elts x1 pt) (.Call (.Name "enumerate" p) [l] [] pos) (ZiM K ta) := hK ▸ Zlw hm ha hg hs
end
structure Zh9 (J : It) (At : Hp → Prop) (xs : List V) : Prop where
 go : ∀ i H, At H → i < xs.length → J.go i H
 yld : ∀ i H x H2, At H → J.yld i H x H2 → ∃ T y, x = .ref T ∧ H T = none ∧ H2 = upd H T (.tup [.int i, y]) ∧ xs[i]? = some y
 stop : ∀ i H, At H → xs.length ≤ i → J.stop i H
theorem Zag {K : PySem.W.Frag} {a : Addr} {xs : List V} : Zh9 (Zkj K a) (fun H => Wp K H a xs) xs :=
 ⟨fun i H h hi => ⟨xs, xs[i], h, by simp [hi]⟩, fun i H x H2 h hy => by
  obtain ⟨T, y, e, hT, e2, q⟩ := hy
  exact ⟨T, y, e, hT, e2, q xs h⟩, fun i H h hi => ⟨xs, h, hi⟩⟩
theorem Zgp {K : PySem.W.Frag} {a : Addr} {xs : List V} : Zh9 (Zki K a) (fun H => YW K H a xs) xs :=
 ⟨fun i H h hi => ⟨xs, xs[i], h, by simp [hi]⟩, fun i H x H2 h hy => by
  obtain ⟨T, y, e, hT, e2, q⟩ := hy
  exact ⟨T, y, e, hT, e2, q xs h⟩, fun i H h hi => ⟨xs, h, hi⟩⟩
theorem Wa {J : It} {g : TG} {tb : TS} {D : Xi} {σ : St} {H : Hp} {At : Hp → Prop} {xs : List V} (S : Zh9 J At xs) (Pv : Nat → St → Hp → Prop) (h0 : Pv 0 σ H) (hS : ∀ i σ H, Pv i σ H → At H)
  (hs : ∀ (i : Nat) y σ H T, xs[i]? = some y → Pv i σ H → H T = none → g (.ref T) σ (upd H T (.tup [.int i, y])) fun σ2 H2 => tb { D with nx := Pv (i + 1), ct := Pv (i + 1), bk := D.nx } σ2 H2) (hd : ∀ σ H, Pv xs.length σ H → D.nx σ H) :
  ∃ W : Nat → Nat → St → Hp → Prop, (∃ m, W 0 m σ H) ∧ ∀ i m σ H, W i m σ H →
   (J.stop i H ∧ D.nx σ H) ∨ (J.go i H ∧ ∃ N : St → Hp → Prop, (∀ σ' H', N σ' H' → ∃ m', m' < m ∧ W (i + 1) m' σ' H') ∧ ∀ x H', J.yld i H x H' → g x σ H' fun σ2 H2 => tb { D with nx := N, ct := N, bk := D.nx } σ2 H2) := by
 refine ⟨fun i m σ H => m = xs.length - i ∧ i ≤ xs.length ∧ Pv i σ H, ⟨_, rfl, Nat.zero_le _, h0⟩, ?_⟩
 rintro i m σ H ⟨rfl, hi, p⟩
 have s := hS i σ H p
 by_cases hlt : i < xs.length
 ·refine .inr ⟨S.go i H s hlt, Pv (i + 1), fun σ' H' p' => ⟨xs.length - (i + 1), by omega, rfl, hlt, p'⟩, fun x H' hy => ?_⟩
  obtain ⟨T, y, rfl, hT, rfl, hx⟩ := S.yld i H x H' s hy
  exact hs i y σ H T hx p hT
 ·have e : i = xs.length := by omega
  subst e
  exact .inl ⟨S.stop _ H s (Nat.le_refl _), hd σ H p⟩
def Itd (lo : Int) (n : Nat) : It := ⟨fun i _ => i < n, fun i H x H' => H' = H ∧ x = .int (lo - i), fun i _ => n ≤ i⟩
theorem ZdD {P : Program} {w : World} {K : PySem.W.Frag} {tg : Expr} (it : Addr) (lo : Int) (n : Nat) : Zar P w K tg (Itd lo n) [it] it (fun i h => IsRangeIter h it (lo + (i : Nat) * (-1)) ((n : Int) - (i : Nat)) (-1)) where
 mem := by simp
 obj := fun i h st b hb => by
  have e : b = it := by simpa using hb
  subst e
  exact ⟨_, st, fun v z => by
   have z' : Data.fields _ = Data.cell v := z
   cases z'⟩
 keep := fun i h h' st k => k it (by simp) _ st
 item := by
  intro X hP hw hK hc i pins s σ H E I hf st hg
  subst hP hw hK
  obtain ⟨f0, f1, f2, f3, f4, f5⟩ := hf it (by simp)
  have W := Walks.range (prog := X.prog) (w := X.w) (I.ok.hd hc) it lo (-1) n
  refine W.item i s _ _ hg st fun v h' tk hv st' kk => ?_
  obtain ⟨t, rfl⟩ := hv
  have I1 : Zv X pins σ H { s with heap := h', toks := tk } := I.turned (fun b o hb e => kk b o (by simpa using hb) e) f0 f1 f3 f4 f5
  refine ⟨_, rfl, Zdf (s := { s with heap := h', toks := tk }) (n := "range_iterator") st' rfl rfl (by decide) ⟨.int (lo - i), H, I1, ⟨t, ?_⟩, ⟨rfl, rfl⟩, st', fun b hb => (hf b hb).1⟩⟩
  rw [show lo - (i : Int) = lo + (i : Int) * (-1) by omega]
 done := by
  intro X hP hw hK hc i pins s σ H E I hf st hg
  subst hP hw hK
  obtain ⟨f0, f1, f2, f3, f4, f5⟩ := hf it (by simp)
  exact wpAny_pyNext_range_end (I.ok.hd hc) st (by have : n ≤ i := hg; omega) fun h' eb => ⟨rfl, I.turned (t' := s.toks) (fun b o hb e => eb b o hb e) f0 f1 f3 f4 f5⟩
 self := fun _ _ _ _ _ st h => wpAny_pyIter_rangeiter st h
theorem W8 (a b : Int) : Builtin.Range.rangeSize a b (-1) = if b < a then a - b else 0 := by
 unfold Builtin.Range.rangeSize
 rw [if_neg (by decide), Int.neg_neg, Int.ediv_one]
 by_cases h : b < a
 ·rw [if_pos h, if_pos h]
  omega
 ·rw [if_neg h, if_neg h]
theorem ZbU {a b : Int} (h1 : -(2 ^ 62) ≤ a) (h2 : a < 2 ^ 62) (h3 : -(2 ^ 62) ≤ b) (h4 : b < 2 ^ 62) : Builtin.Range.small a b (-1) = true := by
 unfold Builtin.Range.small
 rw [W8]
 simp only [Builtin.Range.rangeFitsLong, Bool.and_eq_true, Bool.or_eq_true, decide_eq_true_eq, beq_iff_eq, show ¬ ((-1 : Int) > 0) by decide, if_false]
 split <;> omega
def Zls (ta : TA) : TI := fun σ H R => ta σ H fun vs H1 => ∃ i j : Int, vs = [.int i, .int j, .int (-1)] ∧ (-(2 ^ 62) ≤ i ∧ i < 2 ^ 62 ∧ -(2 ^ 62) ≤ j ∧ j < 2 ^ 62) ∧ R (Itd i (i - j).toNat) H1
theorem ZkZ {X : Cx} {tg a b c : Expr} {ta : TA} {p pos : Pos} (hm : X.mg "range" = none) (ha : PA X [a, b, c] ta) (hg : Yx X.env.scope "range" = true := by kernel_rfl) (hs : starEach [a, b, c] X.env = (false, eval a X.env) :: starEach [b, c] X.env := by rfl) (hs2 : (backTo pos (starEach [b, c] X.env)).any (·.1) = false := by rfl) :
  PI X tg (.Call (.Name "range" p) [a, b, c] [] pos) (Zls ta) := by
 intro pins s σ H R I h
 refine Call_ (WV I (Jg hg) hm boot_range (PyProof.Rows.callWith_type1 (ZT (ha pos pins s σ H _ I h) fun us s1 ⟨vs, H1, I1, r1, q1⟩ => ?_) hs hs2))
 obtain ⟨i, j, e, ⟨q1, q2, q3, q4⟩, q⟩ := q1
 subst e
 cases r1 with
 | cons r rr =>
  cases rr with
  | cons r' rr =>
   cases rr with
   | cons r'' rr =>
    cases rr
    obtain ⟨t, rfl⟩ := r
    obtain ⟨t', rfl⟩ := r'
    obtain ⟨t'', rfl⟩ := r''
    refine call_range_3 (by decide) ?_ (Or.inl (PyProof.noPylong_small (by decide)))
    refine wpAny_pyIter_range (IsRange.new ..) (ZbU q1 q2 q3 q4) ?_
    have I2 : Zv X pins σ H1 { s1 with heap := s1.heap.push { cls := .type "range", data := .fields #[.int i t, .int j t', .int (-1) t''] }, toks := s1.toks } := I1.kept fun b o e => Heap.get?_push_of_some _ e
    refine ⟨(s1.heap.push { cls := .type "range", data := .fields #[.int i t, .int j t', .int (-1) t''] }).objs.size, [(s1.heap.push { cls := .type "range", data := .fields #[.int i t, .int j t', .int (-1) t''] }).objs.size], _, _, H1, rfl,
     I2.kept (t' := s1.toks) fun b o e => Heap.get?_push_of_some _ e, ZdD _ i (i - j).toNat, ?_, fun b hb => ?_, q⟩
    ·have e1 : i + ((0 : Nat) : Int) * (-1) = i := by simp
     have e2 : (((i - j).toNat : Nat) : Int) - ((0 : Nat) : Int) = Builtin.Range.rangeSize i j (-1) := by rw [W8]; split <;> omega
     show IsRangeIter _ _ (i + ((0 : Nat) : Int) * (-1)) ((((i - j).toNat : Nat) : Int) - ((0 : Nat) : Int)) (-1)
     rw [e1, e2]
     exact Heap.get?_push_size _ rfl
    ·have e : b = (s1.heap.push { cls := .type "range", data := .fields #[.int i t, .int j t', .int (-1) t''] }).objs.size := by simpa using hb
     subst e
     exact I2.fpOk (Nat.le_refl _) (I2.hok.fresh (Nat.le_refl _))
theorem Zbk {lo : Int} {n : Nat} {g : TG} {tb : TS} {D : Xi} {σ : St} {H : Hp} (Pv : Nat → St → Hp → Prop) (h0 : Pv 0 σ H)
  (hs : ∀ i σ H, i < n → Pv i σ H → g (.int (lo - i)) σ H fun σ2 H2 => tb { D with nx := Pv (i + 1), ct := Pv (i + 1), bk := D.nx } σ2 H2) (hd : ∀ σ H, Pv n σ H → D.nx σ H) :
  ∃ W : Nat → Nat → St → Hp → Prop, (∃ m, W 0 m σ H) ∧ ∀ i m σ H, W i m σ H →
   ((Itd lo n).stop i H ∧ D.nx σ H) ∨ ((Itd lo n).go i H ∧ ∃ N : St → Hp → Prop, (∀ σ' H', N σ' H' → ∃ m', m' < m ∧ W (i + 1) m' σ' H') ∧ ∀ x H', (Itd lo n).yld i H x H' → g x σ H' fun σ2 H2 => tb { D with nx := N, ct := N, bk := D.nx } σ2 H2) := by
 refine ⟨fun i m σ H => m = n - i ∧ i ≤ n ∧ Pv i σ H, ⟨n, by simp, Nat.zero_le _, h0⟩, ?_⟩
 rintro i m σ H ⟨rfl, hi, p⟩
 by_cases hlt : i < n
 ·refine .inr ⟨hlt, Pv (i + 1), fun σ' H' p' => ⟨n - (i + 1), by omega, rfl, hlt, p'⟩, fun x H' hy => ?_⟩
  obtain ⟨e, rfl⟩ := hy
  subst e
  exact hs i σ _ hlt p
 ·have e : i = n := by omega
  subst e
  exact .inl ⟨Nat.le_refl _, hd σ H p⟩
theorem g2 (K : PySem.W.Frag) (i j : Nat) {X : Cx} {x y : Str} {k} {px py pos : Pos} (hc : X.calm = true) (hx : PG X (.Name x px) (Yh i)) (hy : PG X (.Name y py) (Yh j)) (hK : X.K = K := by rfl)
  (hn : (assignEach [.Name x px, .Name y py] X.env).length = 2 := by rfl) (hst : (assignEach [.Name x px, .Name y py] X.env).findIdx? (·.1) = none := by rfl) :
  PG X (.Tuple [.Name x px, .Name y py] k pos) (Zgg K 2 (Xb (Yh i) (Xb (Yh j) Zgh))) := hK ▸ Zjj hc (ZaW hx (ZaW hy Zg6)) hn hst
end L2
namespace Tb
def Yt (t : List (List Nat)) (a b : Nat) : Nat := (t.getD a []).getD b 0
def it (t : List (List Nat)) (a : Nat) : Nat → Nat
 | 0 => 0
 | k + 1 => Yt t (it t a k) a
structure Rd (t : List (List Nat)) (a r : Nat) : Prop where
 r1 : 1 ≤ r
 rn : r ≤ t.length
 dv : t.length % r = 0
 z : it t a r = 0
 nz : ∀ k, 1 ≤ k → k < r → it t a k ≠ 0
 bk : Yt t a (it t a (r - 1)) = 0
 un : ∀ b, b < t.length → Yt t a b = 0 → b = it t a (r - 1)
structure PW (t : List (List Nat)) : Prop where
 n1 : 1 ≤ t.length
 n60 : t.length ≤ 60
 len : ∀ row ∈ t, row.length = t.length
 lt : ∀ a b, a < t.length → b < t.length → Yt t a b < t.length
 one : ∀ a, a < t.length → Yt t 0 a = a
 rd : ∀ a, a < t.length → ∃ r, Rd t a r
 oneR : ∀ a, a < t.length → Yt t a 0 = a
 ass : ∀ a b c, a < t.length → b < t.length → c < t.length → Yt t (Yt t a b) c = Yt t a (Yt t b c)
section
variable {t : List (List Nat)} {a r : Nat}
theorem XF (P : PW t) (ha : a < t.length) : ∀ k, it t a k < t.length
 | 0 => P.n1
 | k + 1 => P.lt _ _ (XF P ha k) ha
theorem Zf6 (P : PW t) (ha : a < t.length) : it t a 1 = a := P.one a ha
end
def rdB (t : List (List Nat)) (n a : Nat) : Nat → Nat → Nat → Bool
 | 0, _, _ => false
 | f + 1, k, prev =>
  let x := Yt t prev a
  match x with
  | 0 => decide (n % (k + 1) = 0) && decide (k + 1 ≤ n) && decide (Yt t a prev = 0) && ((List.range n).all fun b => decide (b = prev) || !decide (Yt t a b = 0))
  | y + 1 => rdB t n a f (k + 1) (y + 1)
def fq1 {β : Type} (m : Nat) (k : Nat → β) : β := match m with
 | 0 => k 0
 | m + 1 => k (m + 1)
theorem Zgi {β : Type} (m : Nat) (k : Nat → β) : fq1 m k = k m := by cases m <;> rfl
def fql {β : Type} : List Nat → (List Nat → β) → β
 | [], k => k []
 | x :: xs, k => fq1 x fun y => fql xs fun ys => k (y :: ys)
theorem Zae {β : Type} : ∀ (a : List Nat) (k : List Nat → β), fql a k = k a
 | [], k => rfl
 | x :: xs, k => by rw [fql, Zgi, Zae xs]
def Zkc (acc : List Nat) (y : Nat) : List Nat := if acc.contains y then acc else acc ++ [y]
def Zes (t : List (List Nat)) (gens : List Nat) : Nat → Nat → List Nat → List Nat
 | 0, _, acc => acc
 | f + 1, i, acc => match acc[i]? with
  | none => acc
  | some x => fql (gens.foldl (fun acc g => fq1 (Yt t x g) fun y => Zkc acc y) acc) fun acc => Zes t gens f (i + 1) acc
def Zdg (t : List (List Nat)) : Nat → Nat → List Nat → List Nat → List Nat
 | 0, _, gens, _ => gens
 | f + 1, a, gens, acc => if acc.contains a then Zdg t f (a + 1) gens acc else fql (Zes t (gens ++ [a]) t.length 0 [0]) fun acc => Zdg t f (a + 1) (gens ++ [a]) acc
def liB (t : List (List Nat)) (g : Nat) : Bool := decide (g < t.length) && t.all fun rx => (t.getD (rx.getD g 0) [] == (t.getD g []).map fun c => rx.getD c 0)
def asG (t : List (List Nat)) (gens : List Nat) : Bool := gens.all (liB t) && fql (Zes t gens t.length 0 [0]) fun acc => (List.range t.length).all fun a => acc.contains a
def asB (t : List (List Nat)) : Bool := fql (Zdg t t.length 0 [] [0]) (asG t)
def Zlc (t : List (List Nat)) : Bool := decide (1 ≤ t.length) && decide (t.length ≤ 60) && (t.all fun row => decide (row.length = t.length) && row.all fun x => decide (x < t.length)) && ((List.range t.length).all fun a => decide (Yt t 0 a = a) && rdB t t.length a t.length 0 0)
def pwB (t : List (List Nat)) : Bool := Zlc t && ((List.range t.length).all fun a => decide (Yt t a 0 = a)) && asB t
def Pr (t : List (List Nat)) (a : Nat) : Prop := a < t.length ∧ ∀ x y, x < t.length → y < t.length → Yt t (Yt t x a) y = Yt t x (Yt t a y)
theorem Zlo {t : List (List Nat)} (hl : ∀ row ∈ t, row.length = t.length) {g : Nat} (h : liB t g = true) : Pr t g := by
 unfold liB at h
 simp only [List.all_eq_true, Bool.and_eq_true, beq_iff_eq, decide_eq_true_eq] at h
 obtain ⟨hg, h⟩ := h
 refine ⟨hg, fun x y hx hy => ?_⟩
 have hm : t.getD x [] ∈ t := by
  rw [Zb, Zf hx]
  exact List.getElem_mem hx
 have hmg : t.getD g [] ∈ t := by
  rw [Zb, Zf hg]
  exact List.getElem_mem hg
 have h1 := h _ hm
 unfold Yt
 rw [h1]
 have hlb := hl _ hmg
 generalize t.getD g [] = rb at *
 have hc' : y < rb.length := by omega
 rw [Zb, Zc, Zf hc', Zb (l := rb), Zf hc']
 rfl
theorem Pr.times {t : List (List Nat)} (lt : ∀ a b, a < t.length → b < t.length → Yt t a b < t.length) {a g : Nat} (ha : Pr t a) (hg : Pr t g) : Pr t (Yt t a g) := by
 refine ⟨lt _ _ ha.1 hg.1, fun x y hx hy => ?_⟩
 rw [← ha.2 x g hx hg.1, hg.2 _ y (lt _ _ hx ha.1) hy, ha.2 x _ hx (lt _ _ hg.1 hy), hg.2 a y ha.1 hy]
theorem Zdr {t : List (List Nat)} (lt : ∀ a b, a < t.length → b < t.length → Yt t a b < t.length) {gens : List Nat} (hg : ∀ g ∈ gens, Pr t g) : ∀ (f i : Nat) (acc : List Nat), (∀ a ∈ acc, Pr t a) → ∀ a ∈ Zes t gens f i acc, Pr t a
 | 0, i, acc, h => by unfold Zes; exact h
 | f + 1, i, acc, h => by
  unfold Zes
  split
  ·exact h
  ·rename_i x hx
   rw [Zae]
   refine Zdr lt hg f (i + 1) _ ?_
   have hxp := h x (List.mem_of_getElem? hx)
   have key : ∀ (gs acc : List Nat), (∀ g ∈ gs, Pr t g) → (∀ a ∈ acc, Pr t a) → ∀ a ∈ gs.foldl (fun acc g => fq1 (Yt t x g) fun y => Zkc acc y) acc, Pr t a := fun gs => by
    induction gs with
    | nil => intro acc _ h; exact h
    | cons g gs ih =>
     intro acc hgs hacc
     rw [List.foldl_cons]
     refine ih _ (fun g' hg' => hgs g' (List.mem_cons_of_mem _ hg')) fun a ha => ?_
     rw [Zgi] at ha
     unfold Zkc at ha
     split at ha
     ·exact hacc a ha
     ·rcases List.mem_append.mp ha with ha | ha
      ·exact hacc a ha
      ·rw [List.mem_singleton.mp ha]
       exact hxp.times lt (hgs g List.mem_cons_self)
   exact key gens acc hg h
theorem Zka {t : List (List Nat)} (n1 : 1 ≤ t.length) (hl : ∀ row ∈ t, row.length = t.length) (lt : ∀ a b, a < t.length → b < t.length → Yt t a b < t.length) (one : ∀ a, a < t.length → Yt t 0 a = a) (oneR : ∀ a, a < t.length → Yt t a 0 = a) (h : asB t = true) : ∀ a b c, a < t.length → b < t.length → c < t.length → Yt t (Yt t a b) c = Yt t a (Yt t b c) := by
 intro a b c ha hb hc
 unfold asB at h
 rw [Zae] at h
 generalize Zdg t t.length 0 [] [0] = gens at h
 unfold asG at h
 rw [Zae, Bool.and_eq_true, List.all_eq_true, List.all_eq_true] at h
 have h0 : Pr t 0 := ⟨by omega, fun x y hx hy => by rw [oneR x hx, one y hy]⟩
 have hb' := Zdr lt (fun g hg => Zlo hl (h.1 g hg)) t.length 0 [0] (fun a ha => by rw [List.mem_singleton.mp ha]; exact h0) b (List.contains_iff_mem.mp (h.2 b (List.mem_range.mpr hb)))
 exact hb'.2 a c ha hc
theorem Zfk {t : List (List Nat)} {a : Nat} : ∀ (f k prev : Nat), prev = it t a k → (∀ j, 1 ≤ j → j ≤ k → it t a j ≠ 0) → rdB t t.length a f k prev = true → ∃ r, Rd t a r
 | 0, k, prev, _, _, h => by cases h
 | f + 1, k, prev, e, hz, h => by
  unfold rdB at h
  have ex : it t a (k + 1) = Yt t prev a := by rw [it, e]
  cases hx : Yt t prev a with
  | zero =>
   simp only [hx, Bool.and_eq_true, decide_eq_true_eq, List.all_eq_true, Bool.or_eq_true, Bool.not_eq_true', decide_eq_false_iff_not] at h
   obtain ⟨⟨⟨h1, h2⟩, h3⟩, h4⟩ := h
   refine ⟨k + 1, by omega, h2, h1, by rw [ex, hx], fun j j1 jk => hz j j1 (by omega), by rw [Nat.add_sub_cancel, ← e]; exact h3, fun b hb hm => ?_⟩
   rw [Nat.add_sub_cancel, ← e]
   exact (h4 b (List.mem_range.mpr hb)).resolve_right fun z => z hm
  | succ y =>
   simp only [hx] at h
   refine Zfk f (k + 1) (y + 1) (by rw [ex, hx]) (fun j j1 jk => ?_) h
   by_cases ej : j = k + 1
   ·rw [ej, ex, hx]
    exact Nat.succ_ne_zero _
   ·exact hz j j1 (by omega)
theorem Zjf {t : List (List Nat)} (h : pwB t = true) : PW t := by
 unfold pwB at h
 rw [Bool.and_eq_true, Bool.and_eq_true] at h
 obtain ⟨⟨h, hr1⟩, hr2⟩ := h
 unfold Zlc at h
 simp only [Bool.and_eq_true, decide_eq_true_eq, List.all_eq_true] at h
 obtain ⟨⟨⟨h1, h2⟩, h3⟩, h4⟩ := h
 have lt : ∀ a b, a < t.length → b < t.length → Yt t a b < t.length := fun a b ha hb => by
  unfold Yt
  have hm : t.getD a [] ∈ t := by
   rw [Zb, Zf ha]
   exact List.getElem_mem ha
  obtain ⟨hl, hx⟩ := h3 _ hm
  generalize t.getD a [] = row at *
  have hb' : b < row.length := by omega
  refine hx _ ?_
  rw [Zb, Zf hb']
  exact List.getElem_mem hb'
 have oneR : ∀ a, a < t.length → Yt t a 0 = a := fun a ha => of_decide_eq_true (List.all_eq_true.mp hr1 a (List.mem_range.mpr ha))
 have one : ∀ a, a < t.length → Yt t 0 a = a := fun a ha => (h4 a (List.mem_range.mpr ha)).1
 refine ⟨h1, h2, fun row hr => (h3 row hr).1, lt, one, fun a ha => ?_, oneR, Zka h1 (fun row hr => (h3 row hr).1) lt one oneR hr2⟩
 ·exact Zfk _ 0 0 rfl (fun j j1 j0 => by omega) (h4 a (List.mem_range.mpr ha)).2
def pos (o : List Nat) (v : Nat) : Nat := o.findIdx (· == v)
def U2 (t : List (List Nat)) (o : List Nat) : List (List Nat) := o.map fun a => o.map fun b => pos o (Yt t a b)
structure Ord (n : Nat) (o : List Nat) : Prop where
 len : o.length = n
 nd : o.Nodup
 all : ∀ v, v < n → v ∈ o
 lt : ∀ v ∈ o, v < n
 z : o.getD 0 0 = 0
section
variable {t : List (List Nat)} {o : List Nat}
theorem Jw {o : List Nat} {i : Nat} (h : i < o.length) : o[i]? = some (o.getD i 0) := by
 rw [Zb, Zf h]
 rfl
theorem U7 {n v : Nat} (O : Ord n o) (hv : v < n) : pos o v < n ∧ o.getD (pos o v) 0 = v := by
 have hm := O.all v hv
 have h1 : o.findIdx (· == v) < o.length := List.findIdx_lt_length_of_exists ⟨v, hm, by simp⟩
 refine ⟨by rw [← O.len]; exact h1, ?_⟩
 have h2 := List.findIdx_getElem (w := h1)
 have h3 : o[o.findIdx (· == v)] = v := by simpa using h2
 unfold pos
 rw [Zb, Zf h1]
 exact h3
theorem inj {n i j : Nat} (O : Ord n o) (hi : i < n) (hj : j < n) (e : o.getD i 0 = o.getD j 0) : i = j := by
 have h1 := Jw (o := o) (i := i) (by rw [O.len]; exact hi)
 have h2 := Jw (o := o) (i := j) (by rw [O.len]; exact hj)
 rw [e] at h1
 exact (List.getElem?_inj (by rw [O.len]; exact hi) O.nd).mp (h1.trans h2.symm)
theorem JA {n i : Nat} (O : Ord n o) (hi : i < n) : o.getD i 0 < n := O.lt _ (List.mem_of_getElem? (Jw (by rw [O.len]; exact hi)))
theorem U1 : (U2 t o).length = o.length := by unfold U2; rw [Za]
theorem Zc5 {n i j : Nat} (O : Ord n o) (hi : i < n) (hj : j < n) : Yt (U2 t o) i j = pos o (Yt t (o.getD i 0) (o.getD j 0)) := by
 unfold Yt U2
 have h1 := Jw (o := o) (i := i) (by rw [O.len]; exact hi)
 have h2 := Jw (o := o) (i := j) (by rw [O.len]; exact hj)
 rw [Zb (l := o.map _), Zc, h1]
 show (o.map fun b => pos o ((t.getD (o.getD i 0) []).getD b 0)).getD j 0 = _
 rw [Zb, Zc, h2]
 rfl
theorem Zjd (P : PW t) (O : Ord t.length o) : PW (U2 t o) := by
 have L : (U2 t o).length = t.length := by rw [U1, O.len]
 have back : ∀ i j, i < t.length → j < t.length → o.getD (Yt (U2 t o) i j) 0 = Yt t (o.getD i 0) (o.getD j 0) := fun i j hi hj => by
  rw [Zc5 O hi hj]
  exact (U7 O (P.lt _ _ (JA O hi) (JA O hj))).2
 have lt : ∀ i j, i < t.length → j < t.length → Yt (U2 t o) i j < t.length := fun i j hi hj => by
  rw [Zc5 O hi hj]
  exact (U7 O (P.lt _ _ (JA O hi) (JA O hj))).1
 have n1 := P.n1
 have itb : ∀ a, a < t.length → ∀ k, it (U2 t o) a k < t.length ∧ o.getD (it (U2 t o) a k) 0 = it t (o.getD a 0) k := fun a ha k => by
  induction k with
  | zero => exact ⟨n1, O.z⟩
  | succ k ih =>
   rw [it, it]
   exact ⟨lt _ _ ih.1 ha, by rw [back _ _ ih.1 ha, ih.2]⟩
 have zz : ∀ i, i < t.length → (i = 0 ↔ o.getD i 0 = 0) := fun i hi => by
  constructor
  ·intro e; rw [e, O.z]
  ·intro e; exact inj O hi n1 (by rw [e, O.z])
 refine ⟨by omega, by have := P.n60; omega, fun row hr => ?_, fun a b ha hb => by rw [L]; exact lt a b (by omega) (by omega), fun a ha => ?_, fun a ha => ?_, fun a ha => ?_, fun a b c ha hb hc => ?_⟩
 ·unfold U2 at hr
  obtain ⟨a, _, rfl⟩ := List.mem_map.mp hr
  rw [Za, U1]
 ·refine inj O (lt 0 a n1 (by omega)) (by omega) ?_
  rw [back 0 a n1 (by omega), O.z, P.one _ (JA O (by omega))]
 ·have ha' : a < t.length := by omega
  obtain ⟨r, R⟩ := P.rd _ (JA O ha')
  have key : ∀ k, it (U2 t o) a k = 0 ↔ it t (o.getD a 0) k = 0 := fun k => by
   rw [zz _ (itb a ha' k).1, (itb a ha' k).2]
  refine ⟨r, R.r1, by rw [L]; exact R.rn, by rw [L]; exact R.dv, (key r).mpr R.z, fun k k1 kr z => R.nz k k1 kr ((key k).mp z), ?_, fun b hb hm => ?_⟩
  ·refine (zz _ (lt _ _ ha' (itb a ha' _).1)).mpr ?_
   rw [back _ _ ha' (itb a ha' _).1, (itb a ha' _).2]
   exact R.bk
  ·have hb' : b < t.length := by omega
   refine inj O hb' (itb a ha' _).1 ?_
   rw [(itb a ha' _).2]
   refine R.un _ (JA O hb') ?_
   rw [← back a b ha' hb', hm, O.z]
 ·refine inj O (lt a 0 (by omega) n1) (by omega) ?_
  rw [back a 0 (by omega) n1, O.z, P.oneR _ (JA O (by omega))]
 ·have ha' : a < t.length := by omega
  have hb' : b < t.length := by omega
  have hc' : c < t.length := by omega
  refine inj O (lt _ _ (lt _ _ ha' hb') hc') (lt _ _ ha' (lt _ _ hb' hc')) ?_
  rw [back _ _ (lt _ _ ha' hb') hc', back _ _ ha' hb', back _ _ ha' (lt _ _ hb' hc'), back _ _ hb' hc']
  exact P.ass _ _ _ (JA O ha') (JA O hb') (JA O hc')
end
def W6 (r st : Nat) : Nat → Nat → Nat
 | 0, f => f
 | k + 1, f => if f % r = 0 then f else W6 r st k (f + st)
theorem V7 {r st B : Nat} (st1 : 1 ≤ st) (hB : B % r = 0) (hB2 : B % st = 0) : ∀ (k f : Nat), f % st = 0 → f ≤ B → B - f < k * st → (∀ x, x % st = 0 → x % r = 0 → 1 ≤ x → x < f → False) → W6 r st k f % r = 0 ∧ W6 r st k f % st = 0 ∧ f ≤ W6 r st k f ∧ W6 r st k f ≤ B ∧ (∀ x, x % st = 0 → x % r = 0 → 1 ≤ x → x < W6 r st k f → False)
 | 0, f, h1, h2, h3, _ => by rw [Nat.zero_mul] at h3; omega
 | k + 1, f, h1, h2, h3, h4 => by
  unfold W6
  by_cases h : f % r = 0
  ·rw [if_pos h]
   exact ⟨h, h1, Nat.le_refl _, h2, h4⟩
  ·rw [if_neg h]
   have fB : f ≠ B := fun z => h (z ▸ hB)
   obtain ⟨u, rfl⟩ := Nat.dvd_of_mod_eq_zero h1
   obtain ⟨v, rfl⟩ := Nat.dvd_of_mod_eq_zero hB2
   have uv : u < v := Nat.lt_of_mul_lt_mul_left (Nat.lt_of_le_of_ne h2 fB)
   have h5 : st * u + st ≤ st * v := by
    have := Nat.mul_le_mul_left st (show u + 1 ≤ v by omega)
    rw [Nat.mul_add, Nat.mul_one] at this
    exact this
   have := V7 st1 hB hB2 k (st * u + st) (by rw [Nat.add_mod_right, Nat.mul_mod_right]) h5 (by rw [Nat.succ_mul] at h3; omega) fun x x1 x2 x3 x4 => ?_
   ·exact ⟨this.1, this.2.1, by omega, this.2.2.2.1, this.2.2.2.2⟩
   ·by_cases hx : x < st * u
    ·exact h4 x x1 x2 x3 hx
    ·obtain ⟨y, rfl⟩ := Nat.dvd_of_mod_eq_zero x1
     have y1 : u ≤ y := Nat.le_of_mul_le_mul_left (by omega) st1
     have y2 : y < u + 1 := Nat.lt_of_mul_lt_mul_left (a := st) (by rw [Nat.mul_add, Nat.mul_one]; exact x4)
     have : y = u := by omega
     rw [this] at x2
     exact h x2
theorem Zc6 {x d r : Nat} (hx : x % r = 0) (hd : d % r = 0) : x % d % r = 0 := by
 have h1 := Nat.mod_add_div x d
 have h2 : (d * (x / d)) % r = 0 := by rw [Nat.mul_mod, hd, Nat.zero_mul, Nat.zero_mod]
 have h3 : (x % d + d * (x / d)) % r = 0 := by rw [h1]; exact hx
 rw [Nat.add_mod, h2, Nat.add_zero, Nat.mod_mod] at h3
 exact h3
structure Lc (rs : Nat → Nat) (i f : Nat) : Prop where
 f1 : 1 ≤ f
 dv : ∀ a, a < i → f % rs a = 0
 mn : ∀ x, (∀ a, a < i → x % rs a = 0) → x % f = 0
theorem Lc.step {rs : Nat → Nat} {i f B : Nat} (L : Lc rs i f) (hB : 1 ≤ B) (hB' : ∀ a, a < i + 1 → B % rs a = 0) {k : Nat} (hk : B < k) : Lc rs (i + 1) (W6 (rs i) f k f) := by
 have Bf : B % f = 0 := L.mn B fun a ha => hB' a (by omega)
 have f1 := L.f1
 have fB : f ≤ B := Nat.le_of_dvd (by omega) (Nat.dvd_of_mod_eq_zero Bf)
 obtain ⟨h1, h2, h3, h4, h5⟩ := V7 (r := rs i) f1 (hB' i (by omega)) Bf k f (Nat.mod_self f) fB (by
  have : k * 1 ≤ k * f := Nat.mul_le_mul_left k f1
  omega) fun x x1 x2 x3 x4 => by
   have := Nat.le_of_dvd (by omega) (Nat.dvd_of_mod_eq_zero x1)
   omega
 refine ⟨by omega, fun a ha => ?_, fun x hx => ?_⟩
 ·by_cases e : a = i
  ·rw [e]; exact h1
  ·have := L.dv a (by omega)
   obtain ⟨u, hu⟩ := Nat.dvd_of_mod_eq_zero h2
   rw [hu, Nat.mul_mod, this, Nat.zero_mul, Nat.zero_mod]
 ·have xf : x % f = 0 := L.mn x fun a ha => hx a (by omega)
  apply Classical.byContradiction
  intro z
  exact h5 (x % W6 (rs i) f k f) (Zc6 xf h2) (Zc6 (hx i (by omega)) h1) (by omega) (Nat.mod_lt _ (by omega))
end Tb
namespace L2
open PySem PySem.Spec PyProof.Rows
structure Sml (k b : Nat) (d : PyData) : Prop where
 sh : d.showable = true
 nd : d.hasDict = false
 dp : d.depth ≤ k
 lv : d.leavesShort 300 = true
 bl : d.bulk ≤ b
theorem Sml.all {k b : Nat} : ∀ {ds : List PyData}, (∀ d ∈ ds, Sml k b d) → PyData.showableAll ds = true ∧ PyData.hasDictAll ds = false ∧ PyData.depthAll ds ≤ k ∧ PyData.leavesShortAll 300 ds = true ∧ PyData.bulkAll ds ≤ ds.length * (b + 1)
 | [], _ => ⟨rfl, rfl, Nat.zero_le _, rfl, Nat.zero_le _⟩
 | d :: ds, h => by
  obtain ⟨h1, h2, h3, h4, h5⟩ := Sml.all (ds := ds) fun e he => h e (List.mem_cons_of_mem _ he)
  have hd := h d List.mem_cons_self
  refine ⟨?_, ?_, ?_, ?_, ?_⟩
  ·simp only [PyData.showableAll, hd.sh, h1, Bool.and_self]
  ·simp only [PyData.hasDictAll, hd.nd, h2, Bool.or_self]
  ·simp only [PyData.depthAll]
   exact Nat.max_le.mpr ⟨hd.dp, h3⟩
  ·simp only [PyData.leavesShortAll, hd.lv, h4, Bool.and_self]
  ·simp only [PyData.bulkAll, Zi]
   have := hd.bl
   rw [Nat.succ_mul]
   omega
theorem Sml.fit {k b : Nat} {d : PyData} (h : Sml k b d) (hk : k ≤ 60) (hb : b ≤ 50000) : Zh7 d := by
 refine ⟨h.sh, h.nd, Nat.le_trans h.dp hk, ?_⟩
 have := PyData.shown_le_bulk 300 (by decide) d h.lv
 have h5 := h.bl
 have e : (16777216 : Nat) = sizeLine := by decide
 omega
theorem Sml.tup {k b n : Nat} {ds : List PyData} (hn : ds.length ≤ n) (h : ∀ d ∈ ds, Sml k b d) : Sml (k + 1) (n * (b + 1)) (.tuple ds) := by
 obtain ⟨h1, h2, h3, h4, h5⟩ := Sml.all h
 refine ⟨by simp only [PyData.showable]; exact h1, by simp only [PyData.hasDict]; exact h2, by simp only [PyData.depth]; omega, by simp only [PyData.leavesShort]; exact h4, ?_⟩
 simp only [PyData.bulk]
 exact Nat.le_trans h5 (Nat.mul_le_mul_right _ hn)
end L2
namespace Pm
open PySem L2 PySem.Spec PyProof.Rows
open Tb
def nV (k : Nat) : V := .int (k : Int)
def GT (H : Hp) (g : Addr) (t : List (List Nat)) : Prop := ∃ rs : List Addr, H g = some (.tup (rs.map V.ref)) ∧ rs.length = t.length ∧ ∀ (i : Nat) r, rs[i]? = some r → Tz H r ((t.getD i []).map nV)
theorem GT.mono {H H' : Hp} {g : Addr} {t : List (List Nat)} (s : Same H H') (G : GT H g t) : GT H' g t := by
 obtain ⟨rs, h1, h2, h3⟩ := G
 exact ⟨rs, s _ _ h1, h2, fun i r hr => (h3 i r hr).mono s⟩
theorem UW {t : List (List Nat)} (P : PW t) {a : Nat} (ha : a < t.length) : (t.getD a []).length = t.length := by
 refine P.len _ ?_
 rw [Zb, Zf ha]
 exact List.getElem_mem ha
theorem Vi {t : List (List Nat)} (P : PW t) {a b : Nat} (ha : a < t.length) (hb : b < t.length) : ((t.getD a []).map nV)[b]? = some (.int (Yt t a b : Nat)) := by
 have hl := UW P ha
 unfold Yt
 generalize t.getD a [] = row at *
 rw [Zc, Zf (show b < row.length by omega), Zb, Zf (show b < row.length by omega)]
 rfl
theorem GT.at {H : Hp} {g : Addr} {t : List (List Nat)} (G : GT H g t) (P : PW t) {a : Nat} (ha : a < t.length) : ∃ (rs : List Addr) (r : Addr), H g = some (.tup (rs.map V.ref)) ∧ rs.length = t.length ∧ VU (rs.map V.ref) (a : Int) = some (.ref r) ∧ Tz H r ((t.getD a []).map nV) ∧ ∀ b, b < t.length → VU ((t.getD a []).map nV) (b : Int) = some (.int (Yt t a b : Nat)) := by
 obtain ⟨rs, h1, h2, h3⟩ := G
 have hr : rs[a]? = some (rs[a]'(by omega)) := Zf (by omega)
 exact ⟨rs, _, h1, h2, YG (by rw [Zc, hr]; rfl), h3 a _ hr, fun b hb => YG (Vi P ha hb)⟩
def ZmK (H : Hp) (L : Addr) (rs : List Addr) (f : Nat → List Nat) : Prop := H L = some (.lst (rs.map V.ref)) ∧ ∀ (i : Nat) r, rs[i]? = some r → Tz H r ((f i).map nV)
theorem Zf4 {n i : Nat} (h : i < n) : ixN n (i : Int) = some i := by
 unfold ixN
 rw [if_pos (Int.natCast_nonneg _), if_pos (by omega), Zj]
theorem Zbo {α : Type} : ∀ (l : List α) (i : Nat) (h : i < l.length), (l[i] :: l.eraseIdx i).Perm l
 | x :: l, 0, h => List.Perm.refl _
 | x :: l, i + 1, h => by
  show ((l[i]'(Nat.lt_of_succ_lt_succ h)) :: x :: l.eraseIdx i).Perm (x :: l)
  exact (List.Perm.swap x _ _).trans (List.Perm.cons x (Zbo l i (Nat.lt_of_succ_lt_succ h)))
theorem Zjp {n : Nat} {os : List Nat} (n1 : 1 ≤ n) (p : os.Perm (List.range n)) (h0 : os[0]? = some 0) : Ord n os := by
 refine ⟨by rw [p.length_eq, Zg], p.nodup_iff.mpr List.nodup_range, fun v hv => p.mem_iff.mpr (List.mem_range.mpr hv), fun v hv => List.mem_range.mp (p.mem_iff.mp hv), ?_⟩
 rw [Zb, h0]
 rfl
theorem ZfV {xs : List Nat} {i : Nat} {y : V} (h : (xs.map nV)[i]? = some y) : ∃ k, xs[i]? = some k ∧ y = .int (k : Nat) := by
 rw [Zc] at h
 cases e : xs[i]? with
 | none => rw [e] at h; cases h
 | some k => rw [e] at h; exact ⟨k, rfl, (Option.some.inj h).symm⟩
def JE (f g : List Nat) : List Nat := g.map fun i => f.getD i 0
def nI (xs : List Nat) : List Int := xs.map fun k : Nat => ((k : Nat) : Int)
theorem Zlm (xs : List Nat) : (nI xs).map V.int = xs.map nV := by unfold nI; rw [List.map_map]; rfl
def TupsAt (H : Hp) (L : Addr) (bs : List Addr) (yss : List (List Nat)) : Prop := H L = some (.lst (bs.map V.ref)) ∧ bs.length = yss.length ∧ ∀ (i : Nat) b, bs[i]? = some b → H b = some (.tup ((yss.getD i []).map nV))
theorem TupsAt.mono {H H' : Hp} {L : Addr} {bs : List Addr} {yss : List (List Nat)} (s : Same H H') (R : TupsAt H L bs yss) : TupsAt H' L bs yss := ⟨s _ _ R.1, R.2.1, fun i b hb => s _ _ (R.2.2 i b hb)⟩
theorem TupsAt.push {H : Hp} {L : Addr} {bs : List Addr} {yss : List (List Nat)} {b : Addr} {ys : List Nat} (R : TupsAt H L bs yss) (h : H b = some (.tup (ys.map nV))) : TupsAt (upd H L (.lst (bs.map V.ref ++ [.ref b]))) L (bs ++ [b]) (yss ++ [ys]) := by
 have ne : ∀ {b ys}, H b = some (.tup ys) → upd H L (.lst (bs.map V.ref ++ [.ref b])) b = some (.tup ys) := fun {b ys} hb => by
  rw [Zt (fun z => by rw [z, R.1] at hb; cases hb)]
  exact hb
 refine ⟨by rw [Zm, List.map_append]; rfl, by rw [Zd, Zd, R.2.1]; rfl, fun i c hc => ?_⟩
 have nb : c ≠ L → upd H L (.lst (bs.map V.ref ++ [.ref b])) c = H c := fun z => Zt z
 by_cases hi : i < bs.length
 ·rw [List.getElem?_append_left hi] at hc
  have := R.2.2 i c hc
  rw [nb (fun z => by rw [z, R.1] at this; cases this), Zb, List.getElem?_append_left (by rw [← R.2.1]; exact hi), ← Zb]
  exact this
 ·rw [List.getElem?_append_right (by omega)] at hc
  have e0 : i - bs.length = 0 := by
   apply Classical.byContradiction
   intro z
   rw [List.getElem?_eq_none (by rw [Zk]; omega)] at hc
   cases hc
  rw [e0] at hc
  cases hc
  have : i = yss.length := by rw [← R.2.1]; omega
  rw [nb (fun z => by rw [z, R.1] at h; cases h), this, Zb, List.getElem?_append_right (Nat.le_refl _), Nat.sub_self]
  exact h
theorem U3 {K : PySem.W.Frag} {H : Hp} : ∀ (bs : List Addr) (yss : List (List Nat)), bs.length = yss.length → (∀ (j : Nat) b, bs[j]? = some b → H b = some (.tup ((yss.getD j []).map nV))) → RdDs K H (bs.map V.ref) (yss.map fun ns => PyData.tuple ((nI ns).map PyData.int))
 | [], [], _, _ => .nil
 | [], _ :: _, h, _ => by cases h
 | _ :: _, [], h, _ => by cases h
 | b :: bs, y :: yss, h, g => by
  have hb := g 0 b rfl
  have hb' : H b = some (.tup ((nI y).map V.int)) := by rw [Zlm]; exact hb
  exact .cons (.tup (.of hb') (RdDs.ints _)) (U3 bs yss (Nat.succ.inj h) fun j b' hj => g (j + 1) b' hj)
theorem ZjA {a b : List Nat} : nI a = nI b ↔ a = b := by
 constructor
 ·intro h
  unfold nI at h
  exact (List.map_inj_right (fun x y e => by exact Int.ofNat.inj e)).mp h
 ·intro h; rw [h]
theorem Zlv (a b : List Nat) : PyData.eqv (.tuple ((nI a).map PyData.int)) (.tuple ((nI b).map PyData.int)) = decide (a = b) := by
 have : PyData.eqv (.tuple ((nI a).map PyData.int)) (.tuple ((nI b).map PyData.int)) = decide (nI a = nI b) := by
  show PyData.eqvAll _ _ = _
  exact PySem.W.ked_eqvAll _ _
 rw [this, decide_eq_decide]
 exact ZjA
theorem Zaq (yss : List (List Nat)) (o : List Nat) : ((yss.map fun ns => PyData.tuple ((nI ns).map PyData.int)).any fun y => y.eqv (.tuple ((nI o).map PyData.int))) = yss.contains o := by
 rw [List.any_map, List.contains_eq_any_beq]
 congr 1
 funext y
 show PyData.eqv _ _ = (o == y)
 rw [Zlv]
 by_cases h : y = o
 ·rw [decide_eq_true h, h, beq_self_eq_true]
 ·rw [decide_eq_false h]
  exact (beq_eq_false_iff_ne.mpr (fun z => h z.symm)).symm
def ZjX (cur : List Nat) : V → V
 | .int z => nV (cur.getD z.toNat 0)
 | y => y
theorem Zgn (cur g : List Nat) : (g.map nV).map (ZjX cur) = (JE cur g).map nV := by
 unfold JE
 rw [List.map_map, List.map_map]
 refine List.map_congr_left fun b _ => ?_
 show nV (cur.getD (b : Int).toNat 0) = nV (cur.getD b 0)
 rw [Zj]
def Wr (srt : List (List Nat)) : List (List Nat) := srt.map fun a => srt.map fun b => srt.findIdx (· == JE a b)
def Gk (k : Nat) (y : List Nat) : Prop := y.length = k ∧ ∀ x ∈ y, x < k
theorem ZgC {k : Nat} {a g : List Nat} (ha : Gk k a) (hg : Gk k g) : Gk k (JE a g) := by
 unfold JE
 refine ⟨by rw [Za]; exact hg.1, fun x hx => ?_⟩
 obtain ⟨i, hi, rfl⟩ := List.mem_map.mp hx
 have h1 := hg.2 i hi
 have h2 := ha.1
 rw [Zb, Zf (show i < a.length by omega)]
 exact ha.2 _ (List.getElem_mem _)
theorem TupsAt.get {H : Hp} {L : Addr} {bs : List Addr} {yss : List (List Nat)} (R : TupsAt H L bs yss) {i : Nat} (hi : i < yss.length) : ∃ b, bs[i]? = some b ∧ VU (bs.map V.ref) (i : Int) = some (.ref b) ∧ H b = some (.tup ((yss.getD i []).map nV)) := by
 have hb : i < bs.length := by rw [R.2.1]; exact hi
 have e : bs[i]? = some bs[i] := Zf hb
 exact ⟨_, e, YG (by rw [Zc, e]; rfl), R.2.2 i _ e⟩
theorem TupsAt.ref {H : Hp} {L : Addr} {bs : List Addr} {yss : List (List Nat)} (R : TupsAt H L bs yss) {i : Nat} {y : V} (h : (bs.map V.ref)[i]? = some y) : ∃ b, y = .ref b ∧ i < yss.length ∧ H b = some (.tup ((yss.getD i []).map nV)) := by
 rw [Zc] at h
 cases e : bs[i]? with
 | none => rw [e] at h; cases h
 | some b =>
  rw [e] at h
  refine ⟨b, (Option.some.inj h).symm, ?_, R.2.2 i b e⟩
  rw [← R.2.1]
  exact (List.getElem?_eq_some_iff.mp e).1
theorem Zd8 {yss : List (List Nat)} {i : Nat} (h : i < yss.length) : yss[i]? = some (yss.getD i []) := by
 rw [Zb, Zf h]
 rfl
theorem Zb7 {yss : List (List Nat)} {i : Nat} (h : i < yss.length) : yss.getD i [] ∈ yss := List.mem_of_getElem? (Zd8 h)
theorem Zli {xs : List Nat} {i : Nat} (h : i < xs.length) : VU (xs.map nV) (i : Int) = some (nV (xs.getD i 0)) := YG (by rw [Zc, Zf h, Zb, Zf h]; rfl)
def Za7 : List (List Nat) → Hp → (List V → Hp → Prop) → Prop
 | [], H, Q => Q [] H
 | x :: r, H, Q => (x.map nV).length ≤ sizeLine ∧ ∀ p, H p = none → Za7 r (upd H p (.tup (x.map nV))) fun vs H2 => Q (.ref p :: vs) H2
theorem Jb : ∀ (xss : List (List Nat)) (H : Hp) (Q : List V → Hp → Prop), (∀ x ∈ xss, x.length ≤ 1000) →
  (∀ (bs : List Addr) (H' : Hp), Same H H' → bs.length = xss.length → (∀ (i : Nat) b, bs[i]? = some b → H' b = some (.tup ((xss.getD i []).map nV))) → Q (bs.map V.ref) H') → Za7 xss H Q
 | [], H, Q, _, q => q [] H (Same.refl _) rfl fun i b hb => by cases hb
 | x :: r, H, Q, hl, q => by
  have sz : (16777216 : Nat) = sizeLine := by decide
  refine ⟨?_, fun p hp => Jb r _ _ (fun y hy => hl y (List.mem_cons_of_mem _ hy)) fun bs H' s' hb hi => ?_⟩
  ·have := hl x List.mem_cons_self
   rw [Za]
   omega
  ·refine q (p :: bs) H' ((Same.upd hp).trans s') (by rw [Zi, Zi, hb]) fun i b hib => ?_
   cases i with
   | zero =>
    cases hib
    exact s' _ _ Zm
   | succ i => exact hi i b hib
def ZfU : List (List (List Nat)) → Hp → (List V → Hp → Prop) → Prop
 | [], H, Q => Q [] H
 | xss :: r, H, Q => Za7 xss H fun vs H1 => vs.length ≤ sizeLine ∧ ∀ p, H1 p = none → ZfU r (upd H1 p (.lst vs)) fun us H2 => Q (.ref p :: us) H2
theorem XE : ∀ (xsss : List (List (List Nat))) (H : Hp) (Q : List V → Hp → Prop), (∀ xss ∈ xsss, xss.length ≤ 1000 ∧ ∀ x ∈ xss, x.length ≤ 1000) →
  (∀ (ls : List Addr) (H' : Hp), Same H H' → ls.length = xsss.length → (∀ (i : Nat) l, ls[i]? = some l → H l = none ∧ ∃ bs, TupsAt H' l bs (xsss.getD i [])) → Q (ls.map V.ref) H') → ZfU xsss H Q
 | [], H, Q, _, q => q [] H (Same.refl _) rfl fun i b hb => by cases hb
 | xss :: r, H, Q, hl, q => by
  have sz : (16777216 : Nat) = sizeLine := by decide
  obtain ⟨h1, h2⟩ := hl xss List.mem_cons_self
  refine Jb xss H _ h2 fun bs H1 s1 hb hi => ⟨by rw [Za]; omega, fun p hp => XE r _ _ (fun y hy => hl y (List.mem_cons_of_mem _ hy)) fun ls H' s' hls hi' => ?_⟩
  have s2 := s1.trans (Same.upd (o := .lst (bs.map V.ref)) hp)
  refine q (p :: ls) H' (s2.trans s') (by rw [Zi, Zi, hls]) fun i l hil => ?_
  cases i with
  | zero =>
   cases hil
   refine ⟨s1.free hp, bs, TupsAt.mono s' ⟨Zm, hb, fun i b hib => ?_⟩⟩
   exact Same.upd (o := .lst (bs.map V.ref)) hp _ _ (hi i b hib)
  | succ i =>
   obtain ⟨h3, h4⟩ := hi' i l hil
   exact ⟨s2.free h3, h4⟩
section
variable {X : Cx}
def teT (x : List Nat) : TE := fun _ H Q => (x.map nV).length ≤ sizeLine ∧ ∀ p, H p = none → Q (.ref p) (upd H p (.tup (x.map nV)))
theorem Zg7 (x : List Nat) {es : List Expr} {t : TA} {x1} {pos : Pos} (h : PA X es t) (e : t = fun _ H Q => Q (x.map nV) H) : PE X (.Tuple es x1 pos) (teT x) := by
 subst e
 exact Ja h
def taN (xss : List (List Nat)) : TA := fun _ H Q => Za7 xss H Q
theorem Zhf : PA X [] (taN []) := Zl
theorem pan {e : Expr} {es : List Expr} {x : List Nat} {xss : List (List Nat)} (h : PE X e (teT x)) (r : PA X es (taN xss)) (hs : Wd e = true := by rfl) : PA X (e :: es) (taN (x :: xss)) := pc h r hs
def teL (xss : List (List Nat)) : TE := fun _ H Q => Za7 xss H fun vs H1 => vs.length ≤ sizeLine ∧ ∀ p, H1 p = none → Q (.ref p) (upd H1 p (.lst vs))
theorem Zg8 {es : List Expr} {xss : List (List Nat)} {pos : Pos} (h : PA X es (taN xss)) : PE X (.List es pos) (teL xss) := ZD h
def taL (xsss : List (List (List Nat))) : TA := fun _ H Q => ZfU xsss H Q
theorem Zhg : PA X [] (taL []) := Zl
theorem pal {e : Expr} {es : List Expr} {xss : List (List Nat)} {xsss : List (List (List Nat))} (h : PE X e (teL xss)) (r : PA X es (taL xsss)) (hs : Wd e = true := by rfl) : PA X (e :: es) (taL (xss :: xsss)) := pc h r hs
structure QE (X : Cx) (e : Expr) (t : TE) : Prop where
 h : PE X e t
structure QA (X : Cx) (es : List Expr) (t : TA) : Prop where
 h : PA X es t
structure QS (X : Cx) (st : Stmt) (t : TS) : Prop where
 h : PS X st t
structure QSs (X : Cx) (sts : List Stmt) (t : TS) : Prop where
 h : PSs X sts t
theorem qi {i : Int} {j} {pos : Pos} : QE X (.Constant (.int i) j pos) (tC (.int i)) := ⟨Zp⟩
theorem Yk : QA X [] ZgM := ⟨Zl⟩
theorem qa {e : Expr} {es : List Expr} {te : TE} {t : TA} (h : QE X e te) (r : QA X es t) (hs : Wd e = true := by rfl) : QA X (e :: es) (Zaz te t) := ⟨pc h.h r.h hs⟩
theorem YZ (x : List Nat) {es : List Expr} {t : TA} {x1} {pos : Pos} (h : QA X es t) (e : t = fun _ H Q => Q (x.map nV) H) : QE X (.Tuple es x1 pos) (teT x) := ⟨Zg7 x h.h e⟩
theorem Wi : QA X [] (taN []) := ⟨Zhf⟩
theorem qan {e : Expr} {es : List Expr} {x : List Nat} {xss : List (List Nat)} (h : QE X e (teT x)) (r : QA X es (taN xss)) (hs : Wd e = true := by rfl) : QA X (e :: es) (taN (x :: xss)) := ⟨pan h.h r.h hs⟩
theorem J0 {es : List Expr} {xss : List (List Nat)} {pos : Pos} (h : QA X es (taN xss)) : QE X (.List es pos) (teL xss) := ⟨Zg8 h.h⟩
theorem ZcZ : QA X [] (taL []) := ⟨Zhg⟩
theorem qal {e : Expr} {es : List Expr} {xss : List (List Nat)} {xsss : List (List (List Nat))} (h : QE X e (teL xss)) (r : QA X es (taL xsss)) (hs : Wd e = true := by rfl) : QA X (e :: es) (taL (xss :: xsss)) := ⟨pal h.h r.h hs⟩
theorem Zk8 {es : List Expr} {t : TA} {pos : Pos} (h : QA X es t) : QE X (.List es pos) (Zi0 t) := ⟨ZD h.h⟩
theorem ZiB (i : Nat) {x : Str} {e : Expr} {te : TE} {pos pos' : Pos} (hf : X.fn x = true) (he : QE X e te) (hi : X.N[i]? = some x := by rfl) (hN : WC X.N = true := by kernel_rfl) (hx : Uu X.env.scope x = true := by kernel_rfl)
  (hs : swapsWith e (some (.Name x pos')) pos.line X.env = pure false := by rfl) : QS X (.Assign [.Name x pos'] e pos) (ZbP te (Yh i)) := ⟨Zy i hf he.h hi hN hx hs⟩
theorem Ys {st : Stmt} {rest : List Stmt} {t u : TS} (h1 : QS X st t) (h2 : QSs X rest u) : QSs X (st :: rest) (ZiZ t u) := ⟨Zn h1.h h2.h⟩
theorem QSs.out {sts : List Stmt} {t : TS} (h : QSs X sts t) : PSs X sts t := h.h
theorem ZgV {te : TE} {g : TG} {u : TS} {D : Xi} {σ : L2.St} {H : Hp} (h : te σ H fun x H1 => g x σ H1 (u D)) : ZiZ (ZbP te g) u D σ H := h
theorem Zay (xsss : List (List (List Nat))) {σ : L2.St} {H : Hp} {Q : VK} (hl : ∀ xss ∈ xsss, xss.length ≤ 1000 ∧ ∀ x ∈ xss, x.length ≤ 1000) (hk : xsss.length ≤ 1000)
  (q : ∀ (ls : List Addr) (H' : Hp), Same H H' → ls.length = xsss.length → (∀ (i : Nat) l, ls[i]? = some l → H l = none ∧ ∃ bs, TupsAt H' l bs (xsss.getD i [])) → ∀ S, H' S = none → Q (.ref S) (upd H' S (.lst (ls.map V.ref)))) : Zi0 (taL xsss) σ H Q := by
 have sz : (16777216 : Nat) = sizeLine := by decide
 exact XE xsss H _ hl fun ls H' s' h1 h2 => ⟨by rw [Za]; omega, q ls H' s' h1 h2⟩
theorem ZeI (xss : List (List Nat)) {σ : L2.St} {H : Hp} {Q : VK} (hl : ∀ x ∈ xss, x.length ≤ 1000) (hk : xss.length ≤ 1000)
  (q : ∀ (bs : List Addr) (H' : Hp), Same H H' → bs.length = xss.length → (∀ (i : Nat) b, bs[i]? = some b → H' b = some (.tup ((xss.getD i []).map nV))) → ∀ S, H' S = none → Q (.ref S) (upd H' S (.lst (bs.map V.ref)))) : teL xss σ H Q := by
 have sz : (16777216 : Nat) = sizeLine := by decide
 exact Jb xss H _ hl fun bs H' s' h1 h2 => ⟨by rw [Za]; omega, q bs H' s' h1 h2⟩
end
theorem ZgZ {bs : List Addr} {i : Nat} (h : i < bs.length) : ∃ b, bs[i]? = some b ∧ VU (bs.map V.ref) (i : Int) = some (.ref b) := ⟨_, Zf h, YG (by rw [Zc, Zf h]; rfl)⟩
def CT (H : Hp) (c : Addr) (css : List (List Nat)) : Prop := ∃ rs : List Addr, H c = some (.tup (rs.map V.ref)) ∧ rs.length = css.length ∧ ∀ (i : Nat) r, rs[i]? = some r → H r = some (.tup ((css.getD i []).map nV))
theorem CT.row {H : Hp} {c : Addr} {css : List (List Nat)} (h : CT H c css) : ∃ rs : List Addr, H c = some (.tup (rs.map V.ref)) ∧ rs.length = css.length ∧ ∀ (i : Nat) y, (rs.map V.ref)[i]? = some y → ∃ r, y = .ref r ∧ i < css.length ∧ H r = some (.tup ((css.getD i []).map nV)) := by
 obtain ⟨rs, h1, h2, h3⟩ := h
 refine ⟨rs, h1, h2, fun i y hy => ?_⟩
 rw [Zc] at hy
 cases hr : rs[i]? with
 | none => rw [hr] at hy; cases hy
 | some r =>
  rw [hr] at hy
  cases hy
  exact ⟨r, rfl, by rw [← h2]; exact (List.getElem?_eq_some_iff.mp hr).1, h3 i r hr⟩
theorem ZgY (m : Nat) : (Ya 0 m).map V.int = (List.range m).map nV := by
 unfold Ya
 rw [List.map_map]
 refine List.map_congr_left fun i _ => ?_
 show V.int (0 + (i : Int)) = nV i
 rw [Int.zero_add]
 rfl
theorem ZcW {m i : Nat} {y : V} (h : ((Ya 0 m).map V.int)[i]? = some y) : i < m ∧ y = .int (i : Nat) := by
 rw [ZgY] at h
 have hi : i < m := by
  have := (List.getElem?_eq_some_iff.mp h).1
  rw [Za, Zg] at this
  exact this
 rw [Zc, List.getElem?_range hi] at h
 exact ⟨hi, (Option.some.inj h).symm⟩
def cyc (m : Nat) : List Nat := (List.range m).map fun i => (i + 1) % m
def neg (m : Nat) : List Nat := (List.range m).map fun i => (m - i) % m
def mn1 : List (List (List Nat)) := [[[1, 0, 2, 3], [0, 1, 3, 2]], [[1, 0, 2, 3, 4, 5], [0, 1, 3, 4, 5, 2]]]
def ma1 : List (List Nat) := [[1, 2, 0, 3], [1, 0, 3, 2]]
def ma2 : List (List Nat) := [[1, 2, 3, 0, 5, 6, 7, 4], [4, 7, 6, 5, 2, 1, 0, 3]]
def ma3 : List (List Nat) := [[1, 2, 0, 3, 4, 5, 6], [0, 2, 1, 4, 5, 6, 3]]
def ma4 : List (List Nat) := [[1, 2, 0, 3, 4, 5], [0, 1, 2, 4, 5, 3]]
def mn2 : List (List (List Nat)) := [[[1, 2, 3, 4, 0], [0, 2, 4, 1, 3]], [[1, 2, 3, 0], [1, 0, 2, 3]]]
def ma5 : List (List Nat) := [[1, 2, 3, 4, 5, 6, 0], [0, 2, 4, 6, 1, 3, 5]]
def mnS : List (List (List Nat)) := mn1 ++ [ma1] ++ [ma2] ++ [ma3] ++ [ma4]
def mnG : List (List (List Nat)) := mnS ++ mn2 ++ [ma5]
def Z3 (cur : List Nat) (ps : List (List Nat)) (s : List (List Nat) × List (List Nat)) : List (List Nat) × List (List Nat) := ps.foldl (fun s p => if s.1.contains (JE cur p) then s else (s.1 ++ [JE cur p], s.2 ++ [JE cur p])) s
def dfs (ps : List (List Nat)) : Nat → List (List Nat) → List (List Nat) → Option (List (List Nat))
 | f, fd, [] => some fd
 | 0, fd, _ :: _ => none
 | f + 1, fd, x :: ln => match Z3 ((x :: ln).getLast?.getD []) ps (fd, (x :: ln).dropLast) with
  | (fd', ln') => dfs ps f fd' ln'
structure ZlO (ps : List (List Nat)) (k : Nat) (fd : List (List Nat)) : Prop where
 k1 : 1 ≤ k
 k10 : k ≤ 10
 p1 : 1 ≤ ps.length
 p9 : ps.length ≤ 9
 pl : ∀ g ∈ ps, Gk k g
 run : dfs ps 61 [List.range k] [List.range k] = some fd
 n60 : fd.length ≤ 60
 hd : fd[0]? = some (List.range k)
 nd : fd.Nodup
 fg : ∀ g ∈ fd, Gk k g
 pw : PW (Wr fd)
 cl : ∀ a ∈ fd, ∀ b ∈ fd, JE a b ∈ fd
def gkB (k : Nat) (y : List Nat) : Bool := decide (y.length = k) && y.all fun x => decide (x < k)
theorem ZiN {k : Nat} {y : List Nat} (h : gkB k y = true) : Gk k y := by
 unfold gkB at h
 rw [Bool.and_eq_true, decide_eq_true_eq, List.all_eq_true] at h
 exact ⟨h.1, fun x hx => of_decide_eq_true (h.2 x hx)⟩
def ndB : List (List Nat) → Bool
 | [] => true
 | x :: r => !r.contains x && ndB r
theorem ZiC : ∀ {xs : List (List Nat)}, ndB xs = true → xs.Nodup
 | [], _ => List.nodup_nil
 | x :: r, h => by
  unfold ndB at h
  rw [Bool.and_eq_true, Bool.not_eq_true'] at h
  refine List.nodup_cons.mpr ⟨fun hx => ?_, ZiC h.2⟩
  rw [List.contains_iff_mem.mpr hx] at h
  cases h.1
def psB (ps : List (List Nat)) : Bool :=
 let k := (ps.getD 0 []).length
 decide (1 ≤ k) && decide (k ≤ 10) && decide (1 ≤ ps.length) && decide (ps.length ≤ 9) && ps.all (gkB k) && match dfs ps 61 [List.range k] [List.range k] with
  | none => false
  | some fd => decide (fd.length ≤ 60) && decide (fd[0]? = some (List.range k)) && ndB fd && fd.all (gkB k) && pwB (Wr fd)
theorem ZjO {srt : List (List Nat)} (Pt : PW (Wr srt)) : ∀ a ∈ srt, ∀ b ∈ srt, JE a b ∈ srt := by
 intro a ha b hb
 obtain ⟨i, hi⟩ := List.getElem?_of_mem ha
 obtain ⟨j, hj⟩ := List.getElem?_of_mem hb
 have hl : (Wr srt).length = srt.length := by unfold Wr; rw [Za]
 have il := (List.getElem?_eq_some_iff.mp hi).1
 have jl := (List.getElem?_eq_some_iff.mp hj).1
 have h := Pt.lt i j (by rw [hl]; exact il) (by rw [hl]; exact jl)
 have e : Yt (Wr srt) i j = srt.findIdx (· == JE a b) := by
  unfold Yt Wr
  rw [Zb, Zb, Zc, hi]
  show (Option.getD (srt.map _)[j]? 0) = _
  rw [Zc, hj]
  rfl
 rw [e, hl] at h
 obtain ⟨x, hx, hx2⟩ := List.findIdx_lt_length.mp h
 rw [← eq_of_beq hx2]
 exact hx
theorem Zld {ps : List (List Nat)} (h : psB ps = true) : ∃ fd, ZlO ps (ps.getD 0 []).length fd := by
 unfold psB at h
 simp only [Bool.and_eq_true, decide_eq_true_eq, List.all_eq_true] at h
 obtain ⟨⟨⟨⟨⟨h1, h2⟩, h3⟩, h4⟩, h5⟩, h6⟩ := h
 cases hd : dfs ps 61 [List.range (ps.getD 0 []).length] [List.range (ps.getD 0 []).length] with
 | none => rw [hd] at h6; cases h6
 | some fd =>
  rw [hd] at h6
  simp only [Bool.and_eq_true, decide_eq_true_eq, List.all_eq_true] at h6
  obtain ⟨⟨⟨⟨g1, g2⟩, g3⟩, g4⟩, g5⟩ := h6
  have Pt := Zjf g5
  exact ⟨fd, h1, h2, h3, h4, fun g hg => ZiN (h5 g hg), hd, g1, g2, ZiC g3, fun g hg => ZiN (g4 g hg), Pt, ZjO Pt⟩
theorem Zj2 : ((List.range 10).all fun j => psB [cyc (j + 1)]) = true := by decide +kernel
theorem Zjz : ((List.range 4).all fun j => psB [cyc (j + 3), neg (j + 3)]) = true := by decide +kernel
theorem ZjC : (mnG.all psB) = true := by decide +kernel
def Zh6 (ps : List (List Nat)) : Prop := psB ps = true
theorem ZjM {j : Nat} (h : j < 10) : Zh6 [cyc (j + 1)] := List.all_eq_true.mp Zj2 j (List.mem_range.mpr h)
theorem ZjL {j : Nat} (h : j < 4) : Zh6 [cyc (j + 3), neg (j + 3)] := List.all_eq_true.mp Zjz j (List.mem_range.mpr h)
theorem Zlp {ps : List (List Nat)} (h : ps ∈ mnG) : Zh6 ps := List.all_eq_true.mp ZjC ps h
end Pm
namespace C24
open PySem L2 PySem.Spec PyProof.Rows
def top (i : Nat) : Stmt := PySem.Challenge.pw_classtab_k24_spreads.main.body.getD i (.Pass ⟨0, 0, 0, 0⟩)
abbrev Zio : Stmt := top 35
abbrev Ze9 : Stmt := top 36
structure BlB (mg : Str → Option Value) : Prop where
 list : mg "list" = none
 len : mg "len" = none
 range : mg "range" = none
 tuple : mg "tuple" = none
 max : mg "max" = none
 sorted : mg "sorted" = none
def tpK (c l n : Int) : List (Z9 × V) := [(.inr "cell", .int c), (.inr "left", .int l), (.inr "turn", .int n)]
def Yb (H : Hp) (p : Addr) (b : Nat) : Prop := ∃ c l n : Int, H p = some (.dK (tpK c l n)) ∧ 0 ≤ l ∧ 0 ≤ n ∧ n ≤ b
theorem Yb.mono {H H' : Hp} {p : Addr} {b : Nat} (s : Same H H') (h : Yb H p b) : Yb H' p b := by
 obtain ⟨c, l, n, h1, h2⟩ := h
 exact ⟨c, l, n, s _ _ h1, h2⟩
theorem Yb.le {H : Hp} {p : Addr} {b b' : Nat} (h : Yb H p b) (hb : b ≤ b') : Yb H p b' := by
 obtain ⟨c, l, n, h1, h2, h3, h4⟩ := h
 exact ⟨c, l, n, h1, h2, h3, by omega⟩
theorem ZjQ {H : Hp} {p : Addr} {c l n : Int} (h : H p = some (.dK (tpK c l n))) : W3 H p (.str "cell") (some (.int c)) := W3.k (k := .inr "cell") h
theorem Zce {H : Hp} {p : Addr} {c l n : Int} (h : H p = some (.dK (tpK c l n))) : W3 H p (.str "left") (some (.int l)) := W3.k (k := .inr "left") h
theorem ZjP {H : Hp} {p : Addr} {c l n : Int} (h : H p = some (.dK (tpK c l n))) : W3 H p (.str "turn") (some (.int n)) := W3.k (k := .inr "turn") h
theorem Zjo {H : Hp} {p : Addr} {c l n l' : Int} (h : H p = some (.dK (tpK c l n))) : XA H p (.str "left") (.int l') (upd H p (.dK (tpK c l' n))) := XA.k (k := .inr "left") h (by rw [sizeLine_eq]; show 3 < _; omega)
theorem Zjn {H : Hp} {p : Addr} {c l n n' : Int} (h : H p = some (.dK (tpK c l n))) : XA H p (.str "turn") (.int n') (upd H p (.dK (tpK c l n'))) := XA.k (k := .inr "turn") h (by rw [sizeLine_eq]; show 3 < _; omega)
theorem _root_.L2.Same.upd2 {H : Hp} {p : Addr} {o o' : HO} (h : H p = none) : Same H (upd (upd H p o) p o') := fun b u e => by
 have hb : b ≠ p := fun z => by rw [z, h] at e; cases e
 rw [Zt hb, Zt hb]
 exact e
def Tk (p : Addr) (H H' : Hp) : Prop := ∀ b o, H b = some o → b ≠ p → H' b = some o
theorem Tk.of {p : Addr} {H H' : Hp} (s : Same H H') : Tk p H H' := fun b o e _ => s b o e
theorem Tk.trans {p : Addr} {H H1 H2 : Hp} (a : Tk p H H1) (b : Tk p H1 H2) : Tk p H H2 := fun c o e n => b c o (a c o e n) n
theorem Yb.ne {H : Hp} {p a : Addr} {b : Nat} {o : HO} (h : Yb H p b) (e : H a = some o) (hd : ∀ kvs, o ≠ .dK kvs) : a ≠ p := fun z => by
 obtain ⟨c, l, n, h1, _⟩ := h
 rw [z, h1] at e
 exact hd _ (Option.some.inj e).symm
theorem Yb.neN {H : Hp} {p a : Addr} {b : Nat} (h : Yb H p b) (e : H a = none) : a ≠ p := fun z => by
 obtain ⟨c, l, n, h1, _⟩ := h
 rw [z, h1] at e
 cases e
theorem Tk.tup {p a : Addr} {H H' : Hp} {b : Nat} {xs : List V} (d : Tk p H H') (T : Yb H p b) (h : H a = some (.tup xs)) : H' a = some (.tup xs) := d a _ h (T.ne h fun _ z => by cases z)
theorem Tk.lst {p a : Addr} {H H' : Hp} {b : Nat} {xs : List V} (d : Tk p H H') (T : Yb H p b) (h : H a = some (.lst xs)) : H' a = some (.lst xs) := d a _ h (T.ne h fun _ z => by cases z)
def ZeM (K : PySem.W.Frag) : Sp := fun vs H Q _ => ∃ (a : Addr) (ns : List Int) (i : Nat), vs = [.ref a, .int i] ∧ Wp K H a (ns.map V.int) ∧ ns.length ≤ 63 ∧ ∀ p H', Same H H' → H p = none → Yb H' p 0 → Q (.ref p) H'
def Xl : Sp := fun vs H Q _ => ∃ (p : Addr) (m : Int) (b : Nat), vs = [.ref p, .int m] ∧ Yb H p b ∧ b < 2 ^ 60 ∧ 0 < m ∧ m < 1073741824 ∧ ∀ r H', 0 ≤ r → r < m → Tk p H H' → Yb H' p (b + 1) → Q (.int r) H'
section
variable {P : Program} {w : World} {K : PySem.W.Frag} {mg : Str → Option Value} {base : Heap}
theorem Zhr {f : Addr} {fd : FuncData} (F : YL K "_law_pick" "_law_pick" Ze9 f fd) : ZH P w K mg base ZL 1 f fd ["_law_tape_here", "_law_many"] Xl := by
 refine F.ok (FS (N := ["_law_tape_here", "_law_many", "_law_turn", "_law_found", "_law_stirred"])) (fun vs H Q E h => ?_) (fun cdv A outer s H vs Q E hr h => ?_)
 ·obtain ⟨p, m, b, rfl, _⟩ := h; rfl
 ·obtain ⟨p, m, b, rfl, ⟨c, l, n, h1, l0, n0, nb⟩, hb, m0, m1, q⟩ := h
  have hu : (A.deeper (envOfC "_law_pick" (ZQ Ze9) s.heap.objs.size f cdv)).units + 1 < cLine := by have := hr.un; omega
  refine ⟨_, Zn (Zy 2 rfl (Zq ZO (Ju hu (vn 0) Wx (fun _ _ => rfl)) Zp))
   (Zn (J1 hu (vn 0) Wx (vn 2) (by rfl))
   (Zn (Z4 (Zx ZaY (Ju hu (vn 0) Wx (fun _ _ => rfl)) Zp (ZB _))
    (Zn (Zy 3 rfl (Zq Z5 (Ju hu (vn 0) Wx (fun _ _ => rfl)) (vn 1)))
    (Zn (J1 hu (vn 0) Wx (Zq YD (Ju hu (vn 0) Wx (fun _ _ => rfl)) (vn 1)) (by rfl))
    (Zo (Zs (vn 3))))) ZC)
   (Zn (Zy 4 rfl (Zq Z0 (Zq ZO (Zq ZO (Zq Z5 (Ju hu (vn 0) Wx (fun _ _ => rfl)) Zp) (Zq Z0 (Zq Z0 Zp (vn 2)) (vn 2))) Zp) Zp))
   (Zn (Zy 4 rfl (Zq Z0 (Zq ZO (Zq Z5 (vn 4) Zp) (Zq Z0 Zp (vn 2))) Zp))
   (Zo (Zs (Zq Z5 (Zq YD (Zq Z5 (vn 4) Zp) Zp) (vn 1)))))))), ?_⟩
  refine ⟨_, rfl, p, _, rfl, ZjP h1, _, _, rfl, rfl, ?_⟩
  refine ⟨_, rfl, _, rfl, p, _, rfl, Zjn h1, ?_⟩
  have h2 : upd H p (.dK (tpK c l (n + 1))) p = some (.dK (tpK c l (n + 1))) := Zm
  have k2 : Tk p H (upd H p (.dK (tpK c l (n + 1)))) := fun b o e hb => by rw [Zt hb]; exact e
  generalize upd H p (.dK (tpK c l (n + 1))) = H2 at h2 k2 ⊢
  refine ⟨_, rfl, p, _, rfl, Zce h2, _, _, rfl, rfl, _, rfl, ?_⟩
  refine YS (fun h => ?_) (fun h => ?_)
  ·refine ⟨_, rfl, p, _, rfl, Zce h2, _, rfl, _, _, rfl, rfl, m0, ?_⟩
   refine ⟨_, rfl, p, _, rfl, Zce h2, _, rfl, _, _, rfl, rfl, ⟨m0, m1⟩, _, rfl, p, _, rfl, Zjo h2, ?_⟩
   refine ⟨_, rfl, q _ _ (Int.emod_nonneg _ (by omega)) (Int.emod_lt_of_pos _ m0) (k2.trans fun b o e hb => by rw [Zt hb]; exact e) ⟨c, l / m, n + 1, Zm, Int.ediv_nonneg l0 (by omega), by omega, by omega⟩⟩
  ·refine ⟨_, rfl, p, _, rfl, ZjQ h2, _, _, rfl, rfl, (by show (0 : Int) < _; decide), _, rfl, _, _, rfl, rfl, .inl ⟨by decide, by decide⟩, _, rfl, _, _, rfl, rfl, .inr ⟨by omega, by omega⟩, _, _, rfl, rfl, _, _, rfl, rfl, _, _, rfl, rfl, .inr ⟨by decide, by decide⟩, ?_⟩
   refine ⟨_, rfl, _, _, rfl, rfl, (by show (0 : Int) < _; decide), _, rfl, _, _, rfl, rfl, .inl ⟨by decide, by decide⟩, _, _, rfl, rfl, _, _, rfl, rfl, .inr ⟨by decide, by decide⟩, ?_⟩
   refine ⟨_, rfl, _, _, rfl, rfl, (by show (0 : Int) < _; decide), _, _, rfl, rfl, ⟨by decide, by decide⟩, _, rfl, _, _, rfl, rfl, m0, ?_⟩
   exact q _ _ (Int.emod_nonneg _ (by omega)) (Int.emod_lt_of_pos _ m0) k2 ⟨c, l, n + 1, h2, l0, by omega, by omega⟩
theorem Zhm {f : Addr} {fd : FuncData} (F : YL K "_law_tape" "_law_tape" Zio f fd) (T : BlB mg) : ZH P w K mg base ZL 1 f fd ["_law_script", "_law_at"] (ZeM K) := by
 refine F.ok (FS (N := ["_law_script", "_law_at", "_law_cell"])) (fun vs H Q E h => ?_) (fun cdv A outer s H vs Q E hr h => ?_)
 ·obtain ⟨a, ns, i, rfl, _⟩ := h; rfl
 ·obtain ⟨a, ns, i, rfl, hS, hn, q⟩ := h
  refine ⟨_, Zn (Zy 2 rfl (vn 1))
   (Zn (Z4 (Zx ZaY (cb (Z7 K) T.len (pc (vn 0) Zl)) Zp (ZB _))
    (Zo (Zy 2 rfl (Zq ZO (ZN (ixL K) (vn 0) (Zq Z5 (vn 1) (cb (Z7 K) T.len (pc (vn 0) Zl))) (fun _ _ => rfl)) (Zq YD (vn 1) (cb (Z7 K) T.len (pc (vn 0) Zl)))))) ZC)
   (Zo (Zs (Zhb (Vl Wx (vn 2) (Vl Wx (cb (Zer rfl) T.max (pc Zp (pc (Zq Yl (vn 2) (Zq Zfu Zp Zp)) Zl))) (Vl Wx Zp Zg4))) rfl rfl (by simp) (by decide))))), ?_⟩
  have len : (ns.map V.int).length = ns.length := List.length_map ..
  refine ⟨_, rfl, _, rfl, a, _, rfl, .inl hS, _, _, rfl, rfl, _, rfl, ?_⟩
  refine YS (fun h => ?_) (fun h => ?_)
  ·have h : (0 : Int) < (ns.map V.int).length := of_decide_eq_true h
   rw [len] at h
   have m0 := Int.emod_nonneg (i : Int) (show (ns.length : Int) ≠ 0 by omega)
   have m1 := Int.emod_lt_of_pos (i : Int) h
   obtain ⟨j, ej⟩ := Int.eq_ofNat_of_zero_le m0
   have hj : j < ns.length := by omega
   have at1 : VU (ns.map V.int) (j : Int) = some (.int (ns[j])) := YG (by rw [Zc, Zf hj]; rfl)
   refine ⟨_, rfl, _, rfl, _, rfl, a, _, rfl, .inl hS, ?_⟩
   rw [len]
   refine ⟨_, _, rfl, rfl, h, ?_⟩
   dsimp only
   rw [ej]
   refine ⟨a, _, _, _, rfl, rfl, hS, at1, _, rfl, _, rfl, a, _, rfl, .inl hS, ?_⟩
   rw [len]
   refine ⟨_, _, rfl, rfl, ⟨h, by omega⟩, _, _, rfl, rfl, ?_⟩
   intro p np
   refine ⟨_, rfl, _, rfl, _, _, rfl, rfl, ⟨by decide, by decide, by decide⟩, _, _, rfl, rfl, _, _, rfl, Zm, tpK (ns[j] + (i : Int) / (ns.length : Int)) (if (ns[j] + (i : Int) / (ns.length : Int)) - 10 ^ (18 : Int).toNat > 0 then (ns[j] + (i : Int) / (ns.length : Int)) - 10 ^ (18 : Int).toNat else 0) 0, rfl, (show 3 ≤ 15 by decide), ?_⟩
   refine q p _ (Same.upd2 np) np ⟨_, _, 0, Zm, ?_, by decide, by decide⟩
   split <;> omega
  ·generalize (i : Int) = c
   intro p np
   refine ⟨_, rfl, _, rfl, _, _, rfl, rfl, ⟨by decide, by decide, by decide⟩, _, _, rfl, rfl, _, _, rfl, Zm, tpK c (if c - 10 ^ (18 : Int).toNat > 0 then c - 10 ^ (18 : Int).toNat else 0) 0, rfl, (show 3 ≤ 15 by decide), ?_⟩
   refine q p _ (Same.upd2 np) np ⟨_, _, 0, Zm, ?_, by decide, by decide⟩
   split <;> omega
end
end C24
namespace Pm
open PySem L2 PySem.Spec PyProof.Rows
section
variable {X : Cx}
theorem ZaV {o e : Expr} {to te : TE} {apos cpos spos : Pos} (ho : PE X o to) (he : QE X e te) (hns : Wd e = true := by rfl)
  (hbase : attributeBase o "append" X.env (eval o X.env) = eval o X.env := by rfl)
  (hfew : ((backTo cpos (starEach [e] X.env)).all (fun x => !x.1) && (backToKw cpos (keywordEach [] X.env)).all (fun x => x.1.isSome)
   && decide (([e] : List Expr).length + ([] : List Keyword).length + (if ([] : List Keyword).isEmpty then 0 else 1) < 30)) = true := by rfl)
  (hline : (apos.endLine == cpos.line) = true := by rfl) (hs : starEach [e] X.env = (false, eval e X.env) :: starEach [] X.env := by rfl) (hplain : (backTo cpos (starEach [] X.env)).any (·.1) = false := by rfl)
  (hsw : swapsWith (.Call (.Attribute o "append" apos) [e] [] cpos) none spos.line X.env = pure false := by rfl) :
  QS X (.Expr (.Call (.Attribute o "append" apos) [e] [] cpos) spos) (ZeJ (tBM X.K "list" U4 to (Zaz te ZgM))) := ⟨YC (WZ PySem.F.plainAttrs_list PySem.F.slot_list_append PySem.F.type_list_append ZV ho (pc he.h Zl hns) hbase hfew hline hs hplain) hsw⟩
theorem Zlb {c : Expr} {a b : List Stmt} {tc : TT} {t u : TS} {pos : Pos} (hc : PT X c tc) (ha : QSs X a t) (hb : PSs X b u) : QS X (.If c a b pos) (ZkI tc t u) := ⟨Z4 hc ha.h hb⟩
theorem Zla {st : Stmt} {t : TS} (h1 : QS X st t) : QSs X [st] t := ⟨Zo h1.h⟩
theorem Zk9 {op : Operator} {r : R2} {a b : Expr} {ta tb : TE} {pos : Pos} (ho : JP X (binaryOp op) r) (ha : PE X a ta) (hb : QE X b tb) : QE X (.BinOp a op b pos) (tOp r ta tb) := ⟨Zq ho ha hb.h⟩
end
def We (H : Hp) (M : Addr) (ls : List Addr) (mn : List (List (List Nat))) : Prop := H M = some (.lst (ls.map V.ref)) ∧ ls.length = mn.length ∧ ∀ (i : Nat) l, ls[i]? = some l → l ≠ M ∧ ∃ bs, TupsAt H l bs (mn.getD i [])
theorem We.mono {H H' : Hp} {M : Addr} {ls : List Addr} {mn : List (List (List Nat))} (s : Same H H') (h : We H M ls mn) : We H' M ls mn :=
 ⟨s _ _ h.1, h.2.1, fun i l hl => let ⟨a, bs, b⟩ := h.2.2 i l hl; ⟨a, bs, b.mono s⟩⟩
theorem TupsAt.updM {H : Hp} {L M : Addr} {bs : List Addr} {yss : List (List Nat)} {vs : List V} {o : HO} (R : TupsAt H L bs yss) (hM : H M = some (.lst vs)) (hn : L ≠ M) : TupsAt (upd H M o) L bs yss :=
 ⟨by rw [Zt hn]; exact R.1, R.2.1, fun i b hb => by
  have := R.2.2 i b hb
  rw [Zt (fun z => by rw [z, hM] at this; cases this)]
  exact this⟩
theorem We.push {H : Hp} {M S : Addr} {ls bs : List Addr} {mn : List (List (List Nat))} {xss : List (List Nat)} (h : We H M ls mn) (hS : TupsAt H S bs xss) (hn : S ≠ M) : We (upd H M (.lst (ls.map V.ref ++ [.ref S]))) M (ls ++ [S]) (mn ++ [xss]) := by
 refine ⟨by rw [Zm, List.map_append]; rfl, by rw [Zd, Zd, h.2.1]; rfl, fun i l hl => ?_⟩
 by_cases hi : i < ls.length
 ·rw [List.getElem?_append_left hi] at hl
  obtain ⟨a, cs, b⟩ := h.2.2 i l hl
  refine ⟨a, cs, ?_⟩
  rw [Zb, List.getElem?_append_left (by rw [← h.2.1]; exact hi), ← Zb]
  exact b.updM h.1 a
 ·rw [List.getElem?_append_right (by omega)] at hl
  have e0 : i - ls.length = 0 := by
   apply Classical.byContradiction
   intro z
   rw [List.getElem?_eq_none (by rw [Zk]; omega)] at hl
   cases hl
  rw [e0] at hl
  cases hl
  have : i = mn.length := by rw [← h.2.1]; omega
  refine ⟨hn, bs, ?_⟩
  rw [this, Zb, List.getElem?_append_right (Nat.le_refl _), Nat.sub_self]
  exact hS.updM h.1 hn
end Pm
namespace C24
open PySem L2 PySem.Spec PyProof.Rows
open Tb Pm
abbrev ZkV : Stmt := top 37
abbrev Zfa : Stmt := top 38
abbrev Zfi : Stmt := top 39
def Zil : Sp := fun vs H Q _ => ∃ (m : Nat), vs = [.int m] ∧ 1 ≤ m ∧ m ≤ 60 ∧ ∀ r H', H r = none → Same H H' → H' r = some (.tup ((cyc m).map nV)) → Q (.ref r) H'
def ZcD : Sp := fun vs H Q _ => ∃ (p : Addr) (b : Nat) (gr : Bool), vs = [.ref p, .bl gr] ∧ Yb H p b ∧ b + 2 < 2 ^ 60 ∧ ∀ L bs ps H', Tk p H H' → Yb H' p (b + 2) → Zh6 ps → TupsAt H' L bs ps → Q (.ref L) H'
def UR : Sp := fun vs H Q _ => ∃ (f g : Addr) (k : Nat) (x y : List Nat), vs = [.ref f, .ref g] ∧ H f = some (.tup (x.map nV)) ∧ H g = some (.tup (y.map nV)) ∧ Gk k x ∧ Gk k y ∧ k ≤ 1000 ∧ ∀ r H', H r = none → Same H H' → H' r = some (.tup ((JE x y).map nV)) → Q (.ref r) H'
def ZjW (m : Nat) : V → V
 | .int z => nV ((z.toNat + 1) % m)
 | y => y
def ZjU (m : Nat) : V → V
 | .int z => nV ((m - z.toNat) % m)
 | y => y
theorem TupsAt.tk {H H' : Hp} {p L : Addr} {b : Nat} {bs : List Addr} {yss : List (List Nat)} (T : Yb H p b) (d : Tk p H H') (R : TupsAt H L bs yss) : TupsAt H' L bs yss := ⟨d.lst T R.1, R.2.1, fun i b hb => d.tup T (R.2.2 i b hb)⟩
section
variable {P : Program} {w : World} {K : PySem.W.Frag} {mg : Str → Option Value} {base : Heap}
theorem Zjw {f : Addr} {fd : FuncData} (F : YL K "_law_cycle" "_law_cycle" ZkV f fd) (T : BlB mg) : ZH P w K mg base ZL 1 f fd ["_law_many"] Zil := by
 refine F.ok (FS (N := ["_law_many"])) (fun vs H Q E h => ?_) (fun cdv A outer s H vs Q E hr h => ?_)
 ·obtain ⟨m, rfl, _⟩ := h; rfl
 ·obtain ⟨m, rfl, m1, m60, q⟩ := h
  refine ⟨_, Zo (Zs (ct Zw T.tuple (pc (Xw ["_law_place"] [0] ["_law_place", "_law_many"] rfl (WI T.range (pc (vn 0) Zl)) (fun _ _ _ _ _ => gn 0) (fun _ _ _ _ _ => ZK)
   (fun _ _ _ _ _ => Zq Z5 (Zq ZO (vn 0) Zp) (vn 1))) Zl))), ?_⟩
  refine ⟨_, rfl, _, rfl, by omega, by omega, ?_⟩
  rw [Zj]
  refine YA (Wh 0 m) [some (.int (m : Nat))] rfl (ZjW m) (by rw [Za, Yf]; omega) (fun i x H' hx s' R gg => ?_) (fun D H' nD s' hD => ?_)
  ·obtain ⟨hi, rfl⟩ := ZcW hx
   have fin := gg H' (Same.refl _)
   have e : ZjW m (.int (i : Nat)) = V.int (((i : Int) + 1) % (m : Int)) := by
    show V.int ((((i : Int).toNat + 1) % m : Nat) : Int) = _
    rw [Zj, Int.natCast_emod]
    rfl
   rw [e] at fin
   exact ⟨_, rfl, _, _, rfl, rfl, _, rfl, _, _, rfl, rfl, (by show (0 : Int) < (m : Int); omega), fin⟩
  ·have e : ((Ya 0 m).map V.int).map (ZjW m) = (cyc m).map nV := by
    rw [ZgY]
    unfold cyc
    rw [List.map_map, List.map_map]
    refine List.map_congr_left fun i _ => ?_
    show nV (((i : Int).toNat + 1) % m) = nV ((i + 1) % m)
    rw [Zj]
   rw [e] at hD
   exact ⟨D, _, rfl, .inl ⟨.of hD, fun r nr => q r _ (s'.free nr) (s'.trans (Same.upd nr)) Zm⟩⟩
theorem ZfM {f : Addr} {fd : FuncData} (F : YL K "_law_after" "_law_after" Zfi f fd) (T : BlB mg) : ZH P w K mg base ZL 1 f fd ["_law_one", "_law_other"] UR := by
 refine F.ok (FS (N := ["_law_one", "_law_other"])) (fun vs H Q E h => ?_) (fun cdv A outer s H vs Q E hr h => ?_)
 ·obtain ⟨f, g, k, x, y, rfl, _⟩ := h; rfl
 ·obtain ⟨f, g, k, x, y, rfl, hf, hg, gx, gy, k10, q⟩ := h
  refine ⟨_, Zo (Zs (ct Zw T.tuple (pc (Xw ["_law_place"] [0] ["_law_place", "_law_one"] rfl (itT K (vn 1)) (fun _ _ _ _ _ => gn 0) (fun _ _ _ _ _ => ZK)
   (fun _ _ _ _ _ => ZN (Us K) (vn 1) (vn 0) (fun _ _ => rfl))) Zl))), ?_⟩
  refine ⟨_, rfl, g, rfl, ⟨_, .of hg⟩, ?_⟩
  refine YA (Yn (K := K) (.of hg)) [some (.ref f)] rfl (ZjX x) (by rw [Za, gy.1]; omega) (fun i v H' hx s' R gg => ?_) (fun D H' nD s' hD => ?_)
  ·obtain ⟨j, hj, rfl⟩ := ZfV hx
   have hjk := gy.2 j (List.mem_of_getElem? hj)
   have fin := gg H' (Same.refl _)
   have e : ZjX x (.int (j : Nat)) = nV (x.getD j 0) := by
    show nV (x.getD (j : Int).toNat 0) = _
    rw [Zj]
   rw [e] at fin
   exact ⟨_, rfl, _, rfl, f, _, _, _, rfl, rfl, .of (s' _ _ hf), Zli (by rw [gx.1]; exact hjk), fin⟩
  ·rw [Zgn] at hD
   exact ⟨D, _, rfl, .inl ⟨.of hD, fun r nr => q r _ (s'.free nr) (s'.trans (Same.upd nr)) Zm⟩⟩
end
section
variable {P : Program} {w : World} {K : PySem.W.Frag} {mg : Str → Option Value} {base : Heap}
theorem X6 {H : Hp} {L c : Addr} {x : List Nat} (h : H L = some (.lst [.ref c])) (hc : H c = some (.tup (x.map nV))) : TupsAt H L [c] [x] := ⟨h, rfl, fun i b hb => by
 cases i with
 | zero => cases hb; exact hc
 | succ i => cases hb⟩
theorem ZeD {H : Hp} {L c d : Addr} {x y : List Nat} (h : H L = some (.lst [.ref c, .ref d])) (hc : H c = some (.tup (x.map nV))) (hd : H d = some (.tup (y.map nV))) : TupsAt H L [c, d] [x, y] := ⟨h, rfl, fun i b hb => by
 cases i with
 | zero => cases hb; exact hc
 | succ i =>
  cases i with
  | zero => cases hb; exact hd
  | succ i => cases hb⟩
theorem ZhD {m i : Nat} (h : i < m) : (-(i : Int)) % (m : Int) = (((m - i) % m : Nat) : Int) := by
 rw [Int.natCast_emod, Int.ofNat_sub (by omega), show (m : Int) - (i : Int) = -(i : Int) + (m : Int) * 1 by omega, Int.add_mul_emod_self_left]
theorem Jn {K : PySem.W.Frag} {i : Nat} {M : Addr} {σ : L2.St} {Hb H : Hp} {ls : List Addr} {mn : List (List (List Nat))} {xss : List (List Nat)} {D : Xi} (hσ : σ[i]? = some (some (.ref M))) (m : We H M ls mn) (s : Same Hb H) (nM : Hb M = none) (hx : ∀ x ∈ xss, x.length ≤ 1000) (hk : xss.length ≤ 1000) (hl : mn.length ≤ 1000)
  (q : ∀ S H', Same Hb H' → We H' M (ls ++ [S]) (mn ++ [xss]) → D.nx σ H') : ZeJ (tBM K "list" U4 (ZiY i) (Zaz (teL xss) ZgM)) D σ H := by
 have sz : (16777216 : Nat) = sizeLine := by decide
 refine ⟨_, hσ, .inl ⟨rfl, _, .of m.1⟩, ZeI xss hx hk fun bs H1 s1 hb hi S hS => ?_⟩
 have s2 := s1.trans (Same.upd (o := .lst (bs.map V.ref)) hS)
 have m2 := m.mono s2
 have nS : S ≠ M := fun z => by
  have := s1 _ _ m.1
  rw [← z, hS] at this
  cases this
 have R : TupsAt (upd H1 S (.lst (bs.map V.ref))) S bs xss := ⟨Zm, hb, fun i b hib => Same.upd (o := .lst (bs.map V.ref)) hS _ _ (hi i b hib)⟩
 refine ⟨M, _, _, rfl, rfl, m2.1, by rw [Za, m.2.1]; omega, q S _ ((s.trans s2).updr nM) (m2.push R nS)⟩
theorem ZfE {f : Addr} {fd : FuncData} (F : YL K "_law_perms" "_law_perms" Zfa f fd) (T : BlB mg) (GP : Fn P w K mg base ZL 1 "_law_pick" ["_law_tape_here", "_law_many"] Xl) (GC : Fn P w K mg base ZL 1 "_law_cycle" ["_law_many"] Zil) : ZH P w K mg base ZL 2 f fd ["_law_tape_here", "_law_great"] ZcD := by
 refine F.ok (FS (N := ["_law_tape_here", "_law_great", "_law_way", "_law_many", "_law_menu"])) (fun vs H Q E h => ?_) (fun cdv A outer s H vs Q E hr h => ?_)
 ·obtain ⟨p, b, gr, rfl, _⟩ := h; rfl
 ·obtain ⟨p, b, gr, rfl, T0, hb, q⟩ := h
  refine ⟨_, QSs.out (Ys ⟨Zy 2 rfl (Yc GP hr Zu (pc (vn 0) (pc Zp Zl)))⟩
   (Ys ⟨Z4 (Zx Zc2 (vn 2) Zp (ZB _)) (Zo (Zs (ZD (pc (Yc GC hr Zu (pc (Zq ZO Zp (Yc GP hr Zu (pc (vn 0) (pc Zp Zl)))) Zl)) Zl)))) ZC⟩
   (Ys ⟨Z4 (Zx Zc2 (vn 2) Zp (ZB _))
    (Zn (Zy 3 rfl (Zq ZO Zp (Yc GP hr Zu (pc (vn 0) (pc Zp Zl)))))
    (Zo (Zs (ZD (pc (Yc GC hr Zu (pc (vn 3) Zl)) (pc (ct Zw T.tuple (pc (Xw ["_law_place"] [3] ["_law_place", "_law_many"] rfl (WI T.range (pc (vn 3) Zl)) (fun _ _ _ _ _ => gn 0) (fun _ _ _ _ _ => ZK)
     (fun _ _ _ _ _ => Zq Z5 (W9 Wq (vn 0)) (vn 1))) Zl)) Zl)))))) ZC⟩
   (Ys (ZiB 4 rfl (Zk8 (qal (J0 (qan (YZ [1, 0, 2, 3] (qa qi (qa qi (qa qi (qa qi Yk)))) (by rfl)) (qan (YZ [0, 1, 3, 2] (qa qi (qa qi (qa qi (qa qi Yk)))) (by rfl)) Wi))) (qal (J0 (qan (YZ [1, 0, 2, 3, 4, 5] (qa qi (qa qi (qa qi (qa qi (qa qi (qa qi Yk)))))) (by rfl)) (qan (YZ [0, 1, 3, 4, 5, 2] (qa qi (qa qi (qa qi (qa qi (qa qi (qa qi Yk)))))) (by rfl)) Wi))) ZcZ))))
   (Ys (ZaV (vn 4) (J0 (qan (YZ [1, 2, 0, 3] (qa qi (qa qi (qa qi (qa qi Yk)))) (by rfl)) (qan (YZ [1, 0, 3, 2] (qa qi (qa qi (qa qi (qa qi Yk)))) (by rfl)) Wi)))) (Ys (ZaV (vn 4) (J0 (qan (YZ [1, 2, 3, 0, 5, 6, 7, 4] (qa qi (qa qi (qa qi (qa qi (qa qi (qa qi (qa qi (qa qi Yk)))))))) (by rfl)) (qan (YZ [4, 7, 6, 5, 2, 1, 0, 3] (qa qi (qa qi (qa qi (qa qi (qa qi (qa qi (qa qi (qa qi Yk)))))))) (by rfl)) Wi)))) (Ys (ZaV (vn 4) (J0 (qan (YZ [1, 2, 0, 3, 4, 5, 6] (qa qi (qa qi (qa qi (qa qi (qa qi (qa qi (qa qi Yk))))))) (by rfl)) (qan (YZ [0, 2, 1, 4, 5, 6, 3] (qa qi (qa qi (qa qi (qa qi (qa qi (qa qi (qa qi Yk))))))) (by rfl)) Wi)))) (Ys (ZaV (vn 4) (J0 (qan (YZ [1, 2, 0, 3, 4, 5] (qa qi (qa qi (qa qi (qa qi (qa qi (qa qi Yk)))))) (by rfl)) (qan (YZ [0, 1, 2, 4, 5, 3] (qa qi (qa qi (qa qi (qa qi (qa qi (qa qi Yk)))))) (by rfl)) Wi))))
   (Ys (Zlb (Yw (vn 1)) (Ys (ZiB 4 rfl (Zk9 Xp (vn 4) (Zk8 (qal (J0 (qan (YZ [1, 2, 3, 4, 0] (qa qi (qa qi (qa qi (qa qi (qa qi Yk))))) (by rfl)) (qan (YZ [0, 2, 4, 1, 3] (qa qi (qa qi (qa qi (qa qi (qa qi Yk))))) (by rfl)) Wi))) (qal (J0 (qan (YZ [1, 2, 3, 0] (qa qi (qa qi (qa qi (qa qi Yk)))) (by rfl)) (qan (YZ [1, 0, 2, 3] (qa qi (qa qi (qa qi (qa qi Yk)))) (by rfl)) Wi))) ZcZ))))) (Zla (ZaV (vn 4) (J0 (qan (YZ [1, 2, 3, 4, 5, 6, 0] (qa qi (qa qi (qa qi (qa qi (qa qi (qa qi (qa qi Yk))))))) (by rfl)) (qan (YZ [0, 2, 4, 6, 1, 3, 5] (qa qi (qa qi (qa qi (qa qi (qa qi (qa qi (qa qi Yk))))))) (by rfl)) Wi)))))) ZC)
   ⟨Zo (Zs (ZN (ixL K) (vn 4) (Yc GP hr Zu (pc (vn 0) (pc (cb (Z7 K) T.len (pc (vn 4) Zl)) Zl))) (fun _ _ => rfl)))⟩))))))))), ?_⟩
  have sz : (16777216 : Nat) = sizeLine := by decide
  refine ⟨_, rfl, p, 8, b, rfl, T0, by omega, by decide, by decide, fun r H1 a0 a1 k1 T1 => ?_⟩
  refine ⟨_, rfl, _, _, rfl, rfl, _, rfl, YS (fun _ => ?_) (fun _ => ?_)⟩
  ·refine ⟨_, rfl, p, 10, b + 1, rfl, T1, by omega, by decide, by decide, fun r2 H2 c0 c1 k2 T2 => ?_⟩
   obtain ⟨j, rfl⟩ := Int.eq_ofNat_of_zero_le c0
   have hj : j < 10 := by omega
   refine ⟨_, _, rfl, rfl, j + 1, ?_, by omega, by omega, fun c H3 nc s3 hc => ⟨(by show 1 ≤ sizeLine; decide), fun L nL => ?_⟩⟩
   ·show [V.int (1 + (j : Int))] = [V.int ((j + 1 : Nat) : Int)]
    rw [show (1 : Int) + (j : Int) = ((j + 1 : Nat) : Int) by omega]
   ·have s4 := s3.trans (Same.upd (o := .lst [.ref c]) nL)
    exact q L [c] [cyc (j + 1)] _ ((k1.trans k2).trans (Tk.of s4)) (T2.mono s4) (ZjM hj) (X6 Zm (Same.upd nL _ _ hc))
  refine ⟨_, rfl, _, _, rfl, rfl, _, rfl, YS (fun _ => ?_) (fun _ => ?_)⟩
  ·refine ⟨_, rfl, p, 4, b + 1, rfl, T1, by omega, by decide, by decide, fun r2 H2 c0 c1 k2 T2 => ⟨_, _, rfl, rfl, ?_⟩⟩
   obtain ⟨j, rfl⟩ := Int.eq_ofNat_of_zero_le c0
   have hj : j < 4 := by omega
   have e3 : (3 : Int) + (j : Int) = ((j + 3 : Nat) : Int) := by omega
   dsimp only
   rw [e3]
   refine ⟨_, rfl, j + 3, rfl, by omega, by omega, fun c H3 nc s3 hc => ?_⟩
   refine ⟨_, rfl, _, rfl, by omega, by omega, ?_⟩
   rw [Zj]
   refine YA (Wh 0 (j + 3)) [some (.int ((j + 3 : Nat) : Int))] rfl (ZjU (j + 3)) (by rw [Za, Yf]; omega) (fun i x H' hx s' R gg => ?_) (fun D H4 nD s4 hD => ?_)
   ·obtain ⟨hi, rfl⟩ := ZcW hx
    have fin := gg H' (Same.refl _)
    have e : ZjU (j + 3) (.int (i : Nat)) = V.int ((-(i : Int)) % ((j + 3 : Nat) : Int)) := by
     show V.int ((((j + 3) - (i : Int).toNat) % (j + 3) : Nat) : Int) = _
     rw [Zj, ZhD hi]
    rw [e] at fin
    exact ⟨_, rfl, _, rfl, _, rfl, _, _, rfl, rfl, (by show (0 : Int) < ((j + 3 : Nat) : Int); omega), fin⟩
   ·have e : ((Ya 0 (j + 3)).map V.int).map (ZjU (j + 3)) = (neg (j + 3)).map nV := by
     rw [ZgY]
     unfold neg
     rw [List.map_map, List.map_map]
     refine List.map_congr_left fun i _ => ?_
     show nV ((j + 3 - (i : Int).toNat) % (j + 3)) = nV ((j + 3 - i) % (j + 3))
     rw [Zj]
    rw [e] at hD
    refine ⟨D, _, rfl, .inl ⟨.of hD, fun d nd => ⟨(by show 2 ≤ sizeLine; decide), fun L nL => ?_⟩⟩⟩
    have s5 := Same.upd (o := .lst [.ref c, .ref d]) nL
    have s6 := (s3.trans s4).trans ((Same.upd (o := .tup ((neg (j + 3)).map nV)) nd).trans s5)
    exact q L [c, d] [cyc (j + 3), neg (j + 3)] _ ((k1.trans k2).trans (Tk.of s6)) (T2.mono s6) (ZjL hj) (ZeD Zm (s5 _ _ (Same.upd nd _ _ (s4 _ _ hc))) (s5 _ _ Zm))
  have out : ∀ (M : Addr) (ls : List Addr) (mn : List (List (List Nat))) (H9 H2 : Hp) {j : Nat} {Gl : Prop}, Same H1 H9 → We H9 M ls mn → (∀ ps ∈ mn, ps ∈ mnG) → Tk p H9 H2 → Yb H2 p (b + 1 + 1) → (j : Int) < (mn.length : Nat) → (∀ {l : Addr}, H2 M = some (.lst (ls.map V.ref)) → VU (ls.map V.ref) (j : Int) = some (.ref l) → Q (.ref l) H2 → Gl) → Gl := fun M ls mn H9 H2 {j Gl} s9 m hin k2 T2 hj fin => by
   have hjl : j < ls.length := by rw [m.2.1]; omega
   obtain ⟨l, hl, hat⟩ := ZgZ hjl
   obtain ⟨_, bs, R⟩ := m.2.2 j l hl
   have T9 := T1.mono s9
   have hm : mn.getD j [] ∈ mn := by
    rw [Zb, Zf (show j < mn.length by omega)]
    exact List.getElem_mem _
   exact fin (k2.lst T9 m.1) hat (q l bs _ H2 ((k1.trans (Tk.of s9)).trans k2) T2 (Zlp (hin _ hm)) (TupsAt.tk T9 k2 R))
  refine ZgV (Zay mn1 (by decide) (by decide) fun ls H2 s2 hl2 hi2 M hM => ?_)
  have s3 := s2.trans (Same.upd (H := H2) (o := .lst (ls.map V.ref)) hM)
  have nM : H1 M = none := s2.free hM
  have m0 : We (upd H2 M (.lst (ls.map V.ref))) M ls mn1 := ⟨Zm, hl2, fun i l hl => by
   obtain ⟨u1, bs, u2⟩ := hi2 i l hl
   refine ⟨fun z => ?_, bs, u2.mono (Same.upd hM)⟩
   have := u2.1
   rw [z, hM] at this
   cases this⟩
  generalize upd H2 M (.lst (ls.map V.ref)) = H3 at s3 m0 ⊢
  refine Jn (xss := ma1) rfl m0 s3 nM (by decide) (by decide) (by decide) fun S1 H4 s4 m4 => ?_
  refine Jn (xss := ma2) rfl m4 s4 nM (by decide) (by decide) (by decide) fun S2 H5 s5 m5 => ?_
  refine Jn (xss := ma3) rfl m5 s5 nM (by decide) (by decide) (by decide) fun S3 H6 s6 m6 => ?_
  refine Jn (xss := ma4) rfl m6 s6 nM (by decide) (by decide) (by decide) fun S4 H7 s7 m7 => ?_
  replace m7 : We H7 M (ls ++ [S1] ++ [S2] ++ [S3] ++ [S4]) mnS := m7
  generalize ls ++ [S1] ++ [S2] ++ [S3] ++ [S4] = L5 at m7
  refine ⟨_, rfl, gr, rfl, YS (fun _ => ?_) (fun _ => ?_)⟩
  ·refine ⟨_, rfl, Zay mn2 (by decide) (by decide) fun ls' H8 s8 hl8 hi8 M' hM' => ?_⟩
   have s9 := Same.upd (H := H8) (o := .lst (ls'.map V.ref)) hM'
   have hA := m7.mono (s8.trans s9)
   refine ⟨M, M', _, _, rfl, rfl, hA.1, Zm, by rw [Za, Za, hA.2.1, hl8]; decide, fun N nN => ?_⟩
   have sX := Same.upd (o := .lst (L5.map V.ref ++ ls'.map V.ref)) nN
   have s10 := ((s7.trans s8).trans s9).trans sX
   have nN1 : H1 N = none := ((s7.trans s8).trans s9).free nN
   have mN : We (upd (upd H8 M' (.lst (ls'.map V.ref))) N (.lst (L5.map V.ref ++ ls'.map V.ref))) N (L5 ++ ls') (mnS ++ mn2) := by
    have lm : L5.length = mnS.length := hA.2.1
    refine ⟨by rw [Zm, List.map_append], by rw [Zd, Zd, lm, hl8], fun i l hl => ?_⟩
    have go : ∀ {H' : Hp} {l : Addr} {bs : List Addr} {xss : List (List Nat)}, TupsAt H' l bs xss → Same H' (upd H8 M' (.lst (ls'.map V.ref))) → l ≠ N := fun {H' l bs xss} R s z => by
     have := s _ _ R.1
     rw [z, nN] at this
     cases this
    by_cases hi : i < L5.length
    ·rw [List.getElem?_append_left hi] at hl
     obtain ⟨_, bs, u2⟩ := hA.2.2 i l hl
     refine ⟨go u2 (Same.refl _), bs, ?_⟩
     rw [Zb, List.getElem?_append_left (by rw [← lm]; exact hi), ← Zb]
     exact u2.mono sX
    ·rw [List.getElem?_append_right (by omega)] at hl
     obtain ⟨_, bs, u2⟩ := hi8 _ l hl
     refine ⟨go u2 s9, bs, ?_⟩
     rw [Zb, List.getElem?_append_right (by rw [← lm]; omega), ← lm, ← Zb]
     exact u2.mono (s9.trans sX)
   generalize upd (upd H8 M' (.lst (ls'.map V.ref))) N (.lst (L5.map V.ref ++ ls'.map V.ref)) = HN at s10 mN ⊢
   refine Jn (xss := ma5) rfl mN s10 nN1 (by decide) (by decide) (by decide) fun S5 H9 s11 m11 => ?_
   refine ⟨_, rfl, _, rfl, _, rfl, N, _, rfl, .inl (.of m11.1), ?_⟩
   rw [Za, m11.2.1]
   refine ⟨p, _, b + 1, rfl, T1.mono s11, by omega, by decide, by decide, fun r2 H2 c0 c1 k2 T2 => ?_⟩
   obtain ⟨j, rfl⟩ := Int.eq_ofNat_of_zero_le c0
   exact out _ _ _ _ _ s11 m11 (by decide) k2 T2 c1 fun hM hat R => ⟨N, _, _, _, rfl, rfl, .of hM, hat, R⟩
  ·refine ⟨_, rfl, _, rfl, _, rfl, M, _, rfl, .inl (.of m7.1), ?_⟩
   rw [Za, m7.2.1]
   refine ⟨p, _, b + 1, rfl, T1.mono s7, by omega, by decide, by decide, fun r2 H2 c0 c1 k2 T2 => ?_⟩
   obtain ⟨j, rfl⟩ := Int.eq_ofNat_of_zero_le c0
   exact out _ _ _ _ _ s7 m7 (by decide) k2 T2 c1 fun hM hat R => ⟨M, _, _, _, rfl, rfl, .of hM, hat, R⟩
end
end C24
namespace Pm
open PySem L2 PySem.Spec PyProof.Rows
open Tb
theorem neC {X : Cx} (K : PySem.W.Frag) (hu : X.A.units + 64 < cLine) (hK : X.K = K := by rfl) : JP X (compareOp .NotEq) (fun x y H Q => ∃ dx dy, Xj K H x dx ∧ Xj K H y dy ∧ SeqAt.shaped dx = true ∧ SeqAt.shaped dy = true ∧ Q (.bl (!PyData.eqv dx dy)) H) := hK ▸ Zfv hu
theorem VC (ds : List PyData) : PyData.eqv (.list ds) (.list []) = ds.isEmpty := by
 cases ds with
 | nil => rfl
 | cons d r => rfl
def dT (x : List Nat) : PyData := PyData.tuple ((nI x).map PyData.int)
theorem Zai : ∀ yss : List (List Nat), PyData.canLayAll0 (yss.map dT) = true
 | [] => rfl
 | y :: yss => by
  show (PyData.canLay0 (.tuple ((nI y).map PyData.int)) && PyData.canLayAll0 (yss.map dT)) = true
  rw [Zai yss, VO]
  rfl
theorem Uw : ∀ yss : List (List Nat), PyData.depthAll (yss.map dT) ≤ 60
 | [] => Nat.zero_le _
 | y :: yss => by
  show max (PyData.depth (.tuple ((nI y).map PyData.int))) (PyData.depthAll (yss.map dT)) ≤ 60
  exact Nat.max_le.mpr ⟨Uz _, Uw yss⟩
theorem ZaJ (yss : List (List Nat)) : SeqAt.shaped (.list (yss.map dT)) = true := by
 unfold SeqAt.shaped
 have h1 : PyData.canLay0 (.list (yss.map dT)) = true := Zai yss
 have h2 : PyData.depth (.list (yss.map dT)) ≤ 64 := by
  have := Uw yss
  show PyData.depthAll (yss.map dT) + 1 ≤ 64
  omega
 simp only [h1, Bool.true_and, Bool.and_true, decide_eq_true_eq]
 exact h2
theorem TupsAt.rds {K : PySem.W.Frag} {H : Hp} {L : Addr} {bs : List Addr} {yss : List (List Nat)} (R : TupsAt H L bs yss) : RdDs K H (bs.map V.ref) (yss.map dT) := U3 bs yss R.2.1 R.2.2
theorem TupsAt.rd {K : PySem.W.Frag} {H : Hp} {L : Addr} {bs : List Addr} {yss : List (List Nat)} (R : TupsAt H L bs yss) : Xj K H (.ref L) (.list (yss.map dT)) := .lst (.of R.1) R.rds
theorem TupsAt.pop {H : Hp} {L : Addr} {bs : List Addr} {yss : List (List Nat)} (R : TupsAt H L bs yss) : TupsAt (upd H L (.lst (bs.map V.ref).dropLast)) L bs.dropLast yss.dropLast := by
 refine ⟨by rw [Zm, List.map_dropLast], by rw [List.length_dropLast, List.length_dropLast, R.2.1], fun i b hb => ?_⟩
 have hi : i < bs.length - 1 := by
  have := (List.getElem?_eq_some_iff.mp hb).1
  rw [List.length_dropLast] at this
  exact this
 rw [List.getElem?_dropLast, if_pos hi] at hb
 have h := R.2.2 i b hb
 rw [Zt (fun z => by rw [z, R.1] at h; cases h), h, Zb, Zb, List.getElem?_dropLast, if_pos (by rw [← R.2.1]; exact hi)]
theorem ZbQ (cur : List Nat) {ps : List (List Nat)} {s : List (List Nat) × List (List Nat)} {i : Nat} {g : List Nat} (h : ps[i]? = some g) : Z3 cur (ps.take (i + 1)) s = if (Z3 cur (ps.take i) s).1.contains (JE cur g) then Z3 cur (ps.take i) s else ((Z3 cur (ps.take i) s).1 ++ [JE cur g], (Z3 cur (ps.take i) s).2 ++ [JE cur g]) := by
 unfold Z3
 rw [List.take_add_one, h, List.foldl_append]
 rfl
theorem Xk (cur : List Nat) : ∀ (ps : List (List Nat)) (s : List (List Nat) × List (List Nat)), s.1.length ≤ (Z3 cur ps s).1.length
 | [], s => Nat.le_refl _
 | p :: ps, s => by
  show s.1.length ≤ (Z3 cur ps (if s.1.contains (JE cur p) then s else (s.1 ++ [JE cur p], s.2 ++ [JE cur p]))).1.length
  refine Nat.le_trans ?_ (Xk cur ps _)
  split
  ·exact Nat.le_refl _
  ·show s.1.length ≤ (s.1 ++ [JE cur p]).length
   rw [Zd]; omega
theorem ZbR (cur : List Nat) (ps : List (List Nat)) (s : List (List Nat) × List (List Nat)) (i : Nat) : (Z3 cur (ps.take i) s).1.length ≤ (Z3 cur ps s).1.length := by
 have : Z3 cur ps s = Z3 cur (ps.drop i) (Z3 cur (ps.take i) s) := by
  unfold Z3
  rw [← List.foldl_append, List.take_append_drop]
 rw [this]
 exact Xk _ _ _
theorem Zdk (ps : List (List Nat)) : ∀ (f : Nat) (fd ln r : List (List Nat)), dfs ps f fd ln = some r → fd.length ≤ r.length
 | f, fd, [], r, h => by
  have : fd = r := by cases f <;> exact Option.some.inj h
  rw [this]
  exact Nat.le_refl _
 | 0, fd, _ :: _, r, h => by cases h
 | f + 1, fd, x :: ln, r, h => by
  exact Nat.le_trans (Xk ((x :: ln).getLast?.getD []) ps (fd, (x :: ln).dropLast)) (Zdk ps f (Z3 ((x :: ln).getLast?.getD []) ps (fd, (x :: ln).dropLast)).1 (Z3 ((x :: ln).getLast?.getD []) ps (fd, (x :: ln).dropLast)).2 r h)
theorem Zbe (x : List Nat) (r : List (List Nat)) : (x :: r).getD ((x :: r).length - 1) [] = (x :: r).getLast?.getD [] := by
 rw [List.getLast?_eq_getElem?, Zb]
end Pm
namespace C24
open PySem L2 PySem.Spec PyProof.Rows
open Tb Pm
abbrev ZcM : Stmt := top 40
def ZaD : Sp := fun vs H Q _ => ∃ (L : Addr) (bs : List Addr) (ps : List (List Nat)) (k : Nat) (fd : List (List Nat)), vs = [.ref L] ∧ TupsAt H L bs ps ∧ ZlO ps k fd ∧ ∀ D cs H', H D = none → Same H H' → TupsAt H' D cs fd → Q (.ref D) H'
section
variable {P : Program} {w : World} {K : PySem.W.Frag} {mg : Str → Option Value} {base : Heap}
theorem ZdO {f : Addr} {fd : FuncData} (F : YL K "_law_things" "_law_things" ZcM f fd) (T : BlB mg) (GA : Fn P w K mg base ZL 1 "_law_after" ["_law_one", "_law_other"] UR) : ZH P w K mg base ZL 2 f fd ["_law_perms_here"] ZaD := by
 refine F.ok (FS (N := ["_law_perms_here", "_law_found", "_law_line", "_law_here", "_law_perm", "_law_later"])) (fun vs H Q E h => ?_) (fun cdv A outer s H vs Q E hr h => ?_)
 ·obtain ⟨L, bs, ps, k, fd, rfl, _⟩ := h; rfl
 ·obtain ⟨L, bs, ps, k, fd0, rfl, R0, B, q⟩ := h
  refine ⟨_, Zn (Zy 1 rfl (ZD (pc (ct (VP rfl) T.tuple (pc (ct ZbC T.range (pc (cb (Z7 K) T.len (pc (ZN (ixL K) (vn 0) Zp (fun _ _ => rfl)) Zl)) Zl)) Zl)) Zl)))
   (Zn (Zy 2 rfl (ct ZZ T.list (pc (vn 1) Zl)))
   (Zn (Y8 PassesOwn.never (Zx (neC K hr.units) (vn 2) (ZD Zl) (ZB _))
    (Zn (Zy 3 rfl (Zjm PySem.F.plainAttrs_list PySem.F.slot_list_pop PySem.F.type_list_pop ZjB (vn 2)))
    (Zo (ZI PassesOwn.never rfl (itL K (vn 0)) (gn 4)
     (Zn (Zy 5 rfl (Yc GA hr Zu (pc (vn 3) (pc (vn 4) Zl))))
     (Zo (Z4 (Zx (Zlj K hr.units) (vn 5) (vn 1) (by rfl))
      (Zn (YC (WZ PySem.F.plainAttrs_list PySem.F.slot_list_append PySem.F.type_list_append ZV (vn 1) (pc (vn 5) Zl)))
      (Zo (YC (WZ PySem.F.plainAttrs_list PySem.F.slot_list_append PySem.F.type_list_append ZV (vn 2) (pc (vn 5) Zl))))) ZC)))))))
   (Zo (Zs (vn 1))))), ?_⟩
  have sz : (16777216 : Nat) = sizeLine := by decide
  have k1 := B.k1
  have k10 := B.k10
  have p1 := B.p1
  have p9 := B.p9
  have n60 := B.n60
  obtain ⟨b0, _, hat0, hb0⟩ := R0.get (i := 0) (by omega)
  have e0 : ((ps.getD 0 []).map nV).length = k := by rw [Za]; exact (B.pl _ (Zb7 (by omega))).1
  refine ⟨_, rfl, L, _, _, _, rfl, rfl, .of R0.1, hat0, b0, _, rfl, .inr (.of hb0), _, rfl, fun r0 hr0 => ⟨r0, 0, _, rfl, Zm, ⟨by omega, by omega, by rw [e0]; omega, by rw [e0]; omega⟩, by rw [e0]; omega, fun l hl => ?_⟩⟩
  rw [e0] at hl ⊢
  have ek : ((k : Int) - 0).toNat = k := by omega
  rw [ek] at *
  refine ⟨(by show 1 ≤ sizeLine; decide), fun D nD' => ?_⟩
  have s1 : Same H (upd H r0 (.rng 0 (k : Int))) := Same.upd hr0
  have s2 := s1.trans (Same.upd (o := .tup ((Ya 0 k).map V.int)) hl)
  have s3 := s2.trans (Same.upd (o := .lst [.ref l]) nD')
  have nD : H D = none := s2.free nD'
  have R1 : TupsAt (upd (upd (upd H r0 (.rng 0 (k : Int))) l (.tup ((Ya 0 k).map V.int))) D (.lst [.ref l])) D [l] [List.range k] := X6 Zm (by
   rw [Zt (fun z => by rw [← z, Zm] at nD'; cases nD'), Zm, ZgY])
  generalize upd (upd (upd H r0 (.rng 0 (k : Int))) l (.tup ((Ya 0 k).map V.int))) D (.lst [.ref l]) = H3 at s3 R1 ⊢
  refine ⟨_, rfl, D, [.ref l], rfl, .inl (.of R1.1), fun Ln nL' => ?_⟩
  have s4 := Same.upd (H := H3) (o := .lst [.ref l]) nL'
  have nL : H Ln = none := s3.free nL'
  have nDL : D ≠ Ln := fun z => by
   have := R1.1
   rw [z, nL'] at this
   cases this
  have R2 : TupsAt (upd H3 Ln (.lst [.ref l])) Ln [l] [List.range k] := X6 Zm (s4 _ _ (R1.2.2 0 l rfl))
  have R1' := R1.mono s4
  have s34 := s3.trans s4
  generalize upd H3 Ln (.lst [.ref l]) = H4 at s34 R1' R2 ⊢
  have g0 : ∀ y ∈ [List.range k], Gk k y := fun y hy => by
   rw [List.mem_singleton.mp hy]
   exact ⟨Zg, fun x hx => List.mem_range.mp hx⟩
  refine YM (fun m σ' H' => ∃ (cs es : List Addr) (yss ln : List (List Nat)) (v3 v4 v5 : Option V), σ' = [some (.ref L), some (.ref D), some (.ref Ln), v3, v4, v5] ∧ Same H H' ∧ TupsAt H' D cs yss ∧ TupsAt H' Ln es ln ∧ (∀ y ∈ yss, Gk k y) ∧ (∀ y ∈ ln, Gk k y) ∧ ln.length ≤ yss.length ∧ dfs ps m yss ln = some fd0)
   (fun σ' H' => ∃ (cs : List Addr) (v3 v4 v5 : Option V), σ' = [some (.ref L), some (.ref D), some (.ref Ln), v3, v4, v5] ∧ Same H H' ∧ TupsAt H' D cs fd0) ?hend ⟨61, _, _, _, _, _, _, _, rfl, s34, R1', R2, g0, g0, Nat.le_refl _, B.run⟩ ?turn
  case hend =>
   rintro σ' H' ⟨cs, v3, v4, v5, rfl, sm, R⟩
   exact ⟨_, rfl, q D cs H' nD sm R⟩
  case turn =>
   rintro hend m σ' H' ⟨cs, es, yss, ln, v3, v4, v5, rfl, sm, R, S, gd, gl, ll, run⟩
   refine ⟨_, rfl, (by show 0 ≤ sizeLine; decide), fun e0 ne0 => ?_⟩
   have sE := Same.upd (H := H') (o := .lst []) ne0
   have RE := R.mono sE
   have SE := S.mono sE
   have smE := sm.trans sE
   refine ⟨_, _, SE.rd, .lst (.of Zm) .nil, ZaJ ln, rfl, _, rfl, ?_⟩
   generalize upd H' e0 (.lst []) = HE at RE SE smE ⊢
   rw [VC]
   cases ln with
   | nil =>
    refine YR (by decide) (hend _ _ ⟨cs, v3, v4, v5, rfl, smE, ?_⟩)
    have : yss = fd0 := by cases m <;> exact Option.some.inj run
    rw [← this]
    exact RE
   | cons x r =>
    refine V0 rfl ?_
    cases m with
    | zero => cases run
    | succ m =>
     have run : dfs ps m (Z3 ((x :: r).getLast?.getD []) ps (yss, (x :: r).dropLast)).1 (Z3 ((x :: r).getLast?.getD []) ps (yss, (x :: r).dropLast)).2 = some fd0 := run
     have esl : es.length = (x :: r).length := SE.2.1
     have hel : es.length - 1 < es.length := by rw [esl, Zi]; omega
     have hlast := SE.2.2 (es.length - 1) _ (Zf hel)
     have hcg : Gk k ((x :: r).getLast?.getD []) := by
      rw [← Zbe]
      exact gl _ (Zb7 (by rw [Zi]; omega))
     have el : (x :: r).getD (es.length - 1) [] = (x :: r).getLast?.getD [] := by rw [esl]; exact Zbe x r
     rw [el] at hlast
     have hlen := Zdk ps m _ _ _ run
     have gl0 : ∀ y ∈ (x :: r).dropLast, Gk k y := fun y hy => gl y (List.dropLast_subset _ hy)
     have ll0 : (x :: r).dropLast.length ≤ yss.length := by rw [List.length_dropLast]; omega
     have hxs : (es.map V.ref)[(es.map V.ref).length - 1]? = some (.ref es[es.length - 1]) := by rw [Za, Zc, Zf hel]; rfl
     have SP := SE.pop
     have RP := RE.updM (o := .lst (es.map V.ref).dropLast) SE.1 nDL
     have smP := smE.updr (o := .lst (es.map V.ref).dropLast) nL
     have hcP : upd HE Ln (.lst (es.map V.ref).dropLast) es[es.length - 1] = some (.tup (((x :: r).getLast?.getD []).map nV)) := by
      rw [Zt (fun z => by rw [z, SE.1] at hlast; cases hlast)]
      exact hlast
     refine ⟨_, fun _ _ z => z, _, rfl, .inl ⟨rfl, _, .of SE.1⟩, Ln, _, _, rfl, rfl, SE.1, hxs, ?_⟩
     generalize upd HE Ln (.lst (es.map V.ref).dropLast) = HP at SP RP smP hcP ⊢
     generalize es[es.length - 1] = ea at hcP ⊢
     generalize (x :: r).getLast?.getD [] = cur at hcP hcg run hlen ⊢
     generalize (x :: r).dropLast = ln0 at SP run hlen gl0 ll0
     have pll : (bs.map V.ref).length = ps.length := by rw [Za, R0.2.1]
     refine ⟨_, rfl, L, rfl, ⟨_, .of (smP _ _ R0.1)⟩, ?_⟩
     refine Xc (H0 := H) (WQ (K := K) (.of R0.1)) (fun i τ HH => ∃ (cs' es' : List Addr) (w4 w5 : Option V), τ = [some (.ref L), some (.ref D), some (.ref Ln), some (.ref ea), w4, w5] ∧ Same H HH ∧ TupsAt HH D cs' (Z3 cur (ps.take i) (yss, ln0)).1 ∧ TupsAt HH Ln es' (Z3 cur (ps.take i) (yss, ln0)).2 ∧ (∀ y ∈ (Z3 cur (ps.take i) (yss, ln0)).1, Gk k y) ∧ (∀ y ∈ (Z3 cur (ps.take i) (yss, ln0)).2, Gk k y) ∧ (Z3 cur (ps.take i) (yss, ln0)).2.length ≤ (Z3 cur (ps.take i) (yss, ln0)).1.length ∧ HH ea = some (.tup (cur.map nV)))
      ⟨_, _, _, _, rfl, smP, RP, SP, gd, gl0, ll0, hcP⟩ (fun i τ HH h => h.choose_spec.choose_spec.choose_spec.choose_spec.2.1) ?_ ?_
     ·rintro i y τ HH hy ⟨cs', es', w4, w5, rfl, sH, R', S', gd', gl', ll', hc'⟩
      obtain ⟨b, rfl, hi, hb0'⟩ := R0.ref hy
      have hbH := sH _ _ hb0'
      have gg : Gk k (ps.getD i []) := B.pl _ (Zb7 hi)
      have pi : ps[i]? = some (ps.getD i []) := Zd8 hi
      generalize ps.getD i [] = gp at *
      have hcl : (Z3 cur (ps.take i) (yss, ln0)).1.length ≤ 60 := Nat.le_trans (ZbR cur ps (yss, ln0) i) (by omega)
      have est := ZbQ cur (s := (yss, ln0)) pi
      rw [est]
      generalize Z3 cur (ps.take i) (yss, ln0) = zs at *
      refine ⟨_, rfl, _, rfl, ea, b, k, cur, gp, rfl, hc', hbH, hcg, gg, by omega, fun tp HF ntp sF hF => ?_⟩
      have RF := R'.mono sF
      have SF := S'.mono sF
      have go : Gk k (JE cur gp) := ZgC hcg gg
      refine ⟨_, rfl, _, rfl, D, _, (zs.1.map fun ns => PyData.tuple ((nI ns).map PyData.int)), .tuple ((nI (JE cur gp)).map PyData.int), rfl, .inl (.of RF.1), U3 _ _ RF.2.1 RF.2.2, .tup (.of (by rw [Zlm]; exact hF)) (RdDs.ints _), Zai zs.1, VO _, Uz _, _, rfl, ?_⟩
      rw [if_pos rfl, Zaq]
      have zl := RF.2.1
      have wl := SF.2.1
      refine YS (fun h2 => ?_) (fun h2 => ?_)
      ·have h2 : zs.1.contains (JE cur gp) = false := by simpa using h2
       rw [if_neg (by rw [h2]; decide)]
       refine ⟨_, rfl, .inl ⟨rfl, _, .of RF.1⟩, _, rfl, D, _, _, rfl, rfl, RF.1, by rw [Za]; omega, ?_⟩
       have R2' := RF.push hF
       have S2' := SF.updM (o := .lst (cs'.map V.ref ++ [.ref tp])) RF.1 nDL.symm
       have s2' := (sH.trans sF).updr (o := .lst (cs'.map V.ref ++ [.ref tp])) nD
       have hF2 : upd HF D (.lst (cs'.map V.ref ++ [.ref tp])) tp = some (.tup ((JE cur gp).map nV)) := by
        rw [Zt (fun z => by rw [z, RF.1] at hF; cases hF)]
        exact hF
       have hc2 : upd HF D (.lst (cs'.map V.ref ++ [.ref tp])) ea = some (.tup (cur.map nV)) := by
        have := sF _ _ hc'
        rw [Zt (fun z => by rw [z, RF.1] at this; cases this)]
        exact this
       generalize upd HF D (.lst (cs'.map V.ref ++ [.ref tp])) = HG at R2' S2' s2' hF2 hc2 ⊢
       refine ⟨_, rfl, .inl ⟨rfl, _, .of S2'.1⟩, _, rfl, Ln, _, _, rfl, rfl, S2'.1, by rw [Za]; omega, ?_⟩
       refine ⟨cs' ++ [tp], es' ++ [tp], _, _, rfl, s2'.updr nL, R2'.updM S2'.1 nDL, S2'.push hF2, fun y hy => ?_, fun y hy => ?_, ?_, ?_⟩
       ·rcases List.mem_append.mp hy with z | z
        ·exact gd' y z
        ·rw [List.mem_singleton.mp z]; exact go
       ·rcases List.mem_append.mp hy with z | z
        ·exact gl' y z
        ·rw [List.mem_singleton.mp z]; exact go
       ·show (zs.2 ++ [JE cur gp]).length ≤ (zs.1 ++ [JE cur gp]).length
        rw [Zd, Zd]; omega
       ·rw [Zt (fun z => by rw [z, S2'.1] at hc2; cases hc2)]
        exact hc2
      ·have h2 : zs.1.contains (JE cur gp) = true := by simpa using h2
       rw [if_pos h2]
       exact ⟨cs', es', _, _, rfl, sH.trans sF, RF, SF, gd', gl', ll', sF _ _ hc'⟩
     ·rintro τ HH ⟨cs', es', w4, w5, rfl, sH, R', S', gd', gl', ll', hc'⟩
      rw [pll, List.take_length] at R' S' gd' gl' ll'
      exact ⟨m, by omega, cs', es', _, _, _, _, _, rfl, sH, R', S', gd', gl', ll', run⟩
end
end C24
namespace Pm
open PySem L2 PySem.Spec PyProof.Rows
open Tb
theorem Xd {W : Type} (adr : W → Addr) (Pr : Nat → W → Hp → Prop) (Nw : W → Hp → Prop) {J : It} {own : List Str} {caps : List Nat} {te : TE} {σ : L2.St} {H : Hp} {Q : VK} {xs : List V} (S : WN J H xs) (cs : L2.St) (hcs : JO own caps σ = none :: cs) (hn : xs.length ≤ 1000)
  (mono : ∀ i w H H', Same H H' → Pr i w H → Pr i w H') (anti : ∀ w H H', Same H H' → Nw w H' → Nw w H) (hu : ∀ i w H0 H1 D o ys ys', Pr i w H1 → Nw w H0 → H0 D = some (.lst o) → H1 D = some (.lst ys) → Pr i w (upd H1 D (.lst ys')))
  (hs : ∀ (i : Nat) y, xs[i]? = some y → ∀ H', Same H H' → ∀ R : VK, (∀ w H5, Same H' H5 → Pr i w H5 → Nw w H' → R (.ref (adr w)) H5) → te (some y :: cs) H' R)
  (hd : ∀ D (ws : List W) H', H D = none → Same H H' → H' D = some (.lst (ws.map fun w => V.ref (adr w))) → ws.length = xs.length → (∀ (i : Nat) w, ws[i]? = some w → Pr i w H' ∧ Nw w H) → (∀ (i j : Nat) w w', i < j → ws[i]? = some w → ws[j]? = some w' → ∃ Hm, Pr i w Hm ∧ Nw w' Hm) → Q (.ref D) H') : W0 own caps (Yh 0) tTrue te σ Q J H := by
 refine Xe (xs := xs) (fun D i ys H' => Same H H' ∧ ∃ ws : List W, ys = ws.map (fun w => V.ref (adr w)) ∧ ws.length = i ∧ (∀ (i : Nat) w, ws[i]? = some w → Pr i w H' ∧ Nw w H ∧ ∃ H0 o, H0 D = some (.lst o) ∧ Nw w H0) ∧ (∀ (i j : Nat) w w', i < j → ws[i]? = some w → ws[j]? = some w' → ∃ Hm, Pr i w Hm ∧ Nw w' Hm)) cs hcs (by omega) ?_ ?_ ?_ ?_
 ·intro D i ys H' hD hD' p
  have S' := S.mono p.1
  exact ⟨fun hi => ⟨S'.go i H' (Same.refl _) hi, fun x H3 y => S'.yld i H' x H3 (Same.refl _) hi y⟩, fun e => e ▸ S'.stop H' (Same.refl _)⟩
 ·intro D hD
  exact ⟨Same.upd hD, [], rfl, rfl, (fun i w hw => by cases hw), (fun i j w w' _ h => by cases h)⟩
 ·rintro D i y ys H' hD hD' hy ⟨sm, ws, rfl, wl, hw, hp⟩ R k
  refine hs i y hy H' sm R fun w H5 s5 p5 n5 => ?_
  have hD5 := s5 _ _ hD'
  have lst : ∀ (b : Nat) v, (ws ++ [w])[b]? = some v → (b < ws.length ∧ ws[b]? = some v) ∨ (b = ws.length ∧ v = w) := fun b v hb => by
   by_cases hbl : b < ws.length
   ·rw [List.getElem?_append_left hbl] at hb
    exact .inl ⟨hbl, hb⟩
   ·rw [List.getElem?_append_right (by omega)] at hb
    have hb0 : b - ws.length = 0 := by
     apply Classical.byContradiction
     intro z
     rw [List.getElem?_eq_none (by rw [Zk]; omega)] at hb
     cases hb
    rw [hb0] at hb
    cases hb
    exact .inr ⟨by omega, rfl⟩
  refine k _ H5 hD5 ⟨(sm.trans s5).updr hD, ws ++ [w], by rw [List.map_append]; rfl, by rw [Zd, wl]; rfl, fun b v hv => ?_, fun a b v v' hab ha hb => ?_⟩
  ·rcases lst b v hv with ⟨_, hv⟩ | ⟨hb, hv⟩
   ·obtain ⟨h1, h2, H0, o, h3, h4⟩ := hw b v hv
    exact ⟨hu b v H0 H5 D o _ _ (mono b v _ _ s5 h1) h4 h3 hD5, h2, H0, o, h3, h4⟩
   ·subst hv
    subst hb
    rw [← wl] at p5
    exact ⟨hu _ v H' H5 D _ _ _ p5 n5 hD' hD5, anti v _ _ sm n5, H', _, hD', n5⟩
  ·rcases lst b v' hb with ⟨hbl, hb⟩ | ⟨hbl, hb⟩
   ·rw [List.getElem?_append_left (by omega)] at ha
    exact hp a b v v' hab ha hb
   ·subst hb
    rw [List.getElem?_append_left (by omega)] at ha
    exact ⟨H', (hw a v ha).1, n5⟩
 ·rintro D ys H5 hD hD' hyl ⟨sm, ws, rfl, wl, hw, hp⟩
  exact hd D ws H5 hD sm hD' wl (fun i w h => ⟨(hw i w h).1, (hw i w h).2.1⟩) hp
theorem Zbx {J : It} {own : List Str} {caps : List Nat} {te : TE} {σ : L2.St} {H : Hp} {Q : VK} {xs : List V} (S : WN J H xs) (cs : L2.St) (hcs : JO own caps σ = none :: cs) (F : Nat → V) (hz : xs.length ≤ 1000)
  (hs : ∀ (i : Nat) y, xs[i]? = some y → ∀ H', Same H H' → ∀ R : VK, (∀ H5, Same H' H5 → R (F i) H5) → te (some y :: cs) H' R)
  (hd : ∀ D H', H D = none → Same H H' → H' D = some (.lst ((List.range xs.length).map F)) → Q (.ref D) H') : W0 own caps (Yh 0) tTrue te σ Q J H := by
 refine Xe (xs := xs) (fun D i ys H' => Same H H' ∧ ys = (List.range i).map F) cs hcs (by omega) ?_ ?_ ?_ ?_
 ·intro D i ys H' hD hD' p
  have S' := S.mono p.1
  exact ⟨fun hi => ⟨S'.go i H' (Same.refl _) hi, fun x H3 y => S'.yld i H' x H3 (Same.refl _) hi y⟩, fun e => e ▸ S'.stop H' (Same.refl _)⟩
 ·intro D hD
  exact ⟨Same.upd hD, rfl⟩
 ·rintro D i y ys H' hD hD' hy ⟨sm, rfl⟩ R k
  refine hs i y hy H' sm R fun H5 s5 => k _ H5 (s5 _ _ hD') ⟨(sm.trans s5).updr hD, ?_⟩
  rw [List.range_succ, List.map_append]
  rfl
 ·rintro D ys H5 hD hD' hyl ⟨sm, rfl⟩
  exact hd D H5 hD sm hD'
theorem Zkz {X : Cx} (K : PySem.W.Frag) (hK : X.K = K := by rfl) : Yi X (.type "tuple") (fun xs H Q => ∃ p ys, xs = [.ref p] ∧ Wp K H p ys ∧ ∀ l H', H l = none → Same H H' → Tz H' l ys → Q (.ref l) H') := hK ▸ ZbB
theorem Tz.updL {H : Hp} {a D : Addr} {ys zs : List V} {o : HO} (h : Tz H a ys) (hD : H D = some (.lst zs)) : Tz (upd H D o) a ys := by
 obtain ⟨u, h1, h2⟩ := h
 exact ⟨u, by rw [Zt (fun z => by rw [z, hD] at h1; cases h1)]; exact h1, h2⟩
def JK (y : List Nat) : List Z9 := y.map fun x : Nat => Sum.inl (x : Int)
theorem Zf2 (y : List Nat) : (JK y).map kV = y.map nV := by
 unfold JK
 rw [List.map_map]
 rfl
theorem Zbf {a b : List Nat} (h : JK a = JK b) : a = b := by
 unfold JK at h
 refine (List.map_inj_right (fun x y e => ?_)).mp h
 injection e with e
 omega
def kvN (fd : List (List Nat)) (os : List Nat) (m : Nat) : List (List Z9 × V) := (List.range m).map fun i => (JK (fd.getD (os.getD i 0) []), .int (i : Nat))
section
variable {fd : List (List Nat)} {os : List Nat}
theorem Zgl (nd : fd.Nodup) {a b : Nat} (ha : a < fd.length) (hb : b < fd.length) (h : fd.getD a [] = fd.getD b []) : a = b := by
 have h1 := Zd8 ha
 have h2 := Zd8 hb
 rw [h, ← h2] at h1
 exact (List.getElem?_inj ha nd).mp h1
theorem Zf1 (nd : fd.Nodup) {n : Nat} (hn : fd.length = n) (O : Ord n os) {i c : Nat} (hi : i < n) (hc : c < n) : JK (fd.getD (os.getD i 0) []) = JK (fd.getD c []) ↔ i = pos os c := by
 have ho := JA O hi
 obtain ⟨p1, p2⟩ := U7 O hc
 constructor
 ·intro h
  have := Zgl nd (by omega) (by omega) (Zbf h)
  exact inj O hi p1 (by rw [this, p2])
 ·rintro rfl
  rw [p2]
theorem ZhK (nd : fd.Nodup) {n : Nat} (hn : fd.length = n) (O : Ord n os) {m : Nat} (hm : m < n) : Wv (kvN fd os m) (JK (fd.getD (os.getD m 0) [])) (.int (m : Nat)) = kvN fd os (m + 1) := by
 have : (kvN fd os m).any (fun kv => decide (kv.1 = JK (fd.getD (os.getD m 0) []))) = false := by
  rw [Bool.eq_false_iff]
  intro h
  rw [List.any_eq_true] at h
  obtain ⟨kv, hkv, e⟩ := h
  obtain ⟨i, hi, rfl⟩ := List.mem_map.mp hkv
  have hi := List.mem_range.mp hi
  have e := of_decide_eq_true e
  have := Zgl nd (by have := JA O (show i < n by omega); omega) (by have := JA O hm; omega) (Zbf e)
  have := inj O (by omega) hm this
  omega
 unfold Wv
 rw [this]
 unfold kvN
 rw [List.range_succ, List.map_append]
 rfl
theorem ZhJ (nd : fd.Nodup) {n : Nat} (hn : fd.length = n) (O : Ord n os) {c : Nat} (hc : c < n) : WF (kvN fd os n) (JK (fd.getD c [])) = some (.int (pos os c : Nat)) := by
 obtain ⟨p1, p2⟩ := U7 O hc
 unfold WF kvN
 rw [List.find?_map]
 have : (List.range n).find? ((fun kv : List Z9 × V => decide (kv.1 = JK (fd.getD c []))) ∘ fun i : Nat => ((JK (fd.getD (os.getD i 0) []), V.int (i : Nat)) : List Z9 × V)) = some (pos os c) := by
  rw [List.find?_range_eq_some]
  refine ⟨decide_eq_true ((Zf1 nd hn O p1 hc).mpr rfl), List.mem_range.mpr p1, fun j hj => ?_⟩
  rw [Bool.not_eq_true']
  refine decide_eq_false fun h => ?_
  have := (Zf1 nd hn O (by omega) hc).mp h
  omega
 rw [this]
 rfl
theorem Zkb (cl : ∀ a ∈ fd, ∀ b ∈ fd, JE a b ∈ fd) {a b : Nat} (ha : a < fd.length) (hb : b < fd.length) : Yt (Wr fd) a b < fd.length ∧ fd.getD (Yt (Wr fd) a b) [] = JE (fd.getD a []) (fd.getD b []) := by
 have e : Yt (Wr fd) a b = fd.findIdx (· == JE (fd.getD a []) (fd.getD b [])) := by
  unfold Yt Wr
  rw [Zb (l := fd.map _), Zc, Zd8 ha]
  show (fd.map fun b => fd.findIdx (· == JE (fd.getD a []) b)).getD b 0 = _
  rw [Zb, Zc, Zd8 hb]
  rfl
 have hm := cl _ (Zb7 ha) _ (Zb7 hb)
 have hl : fd.findIdx (· == JE (fd.getD a []) (fd.getD b [])) < fd.length := List.findIdx_lt_length.mpr ⟨_, hm, by exact beq_self_eq_true _⟩
 rw [e]
 refine ⟨hl, ?_⟩
 have := List.findIdx_getElem (w := hl)
 rw [Zb, Zf hl]
 exact eq_of_beq this
theorem ZeG (fd : List (List Nat)) : (Wr fd).length = fd.length := by unfold Wr; rw [Za]
end
theorem XW {α β : Type} (f : α → β) : ∀ (xs : List α) (j : Nat), (xs.map f).eraseIdx j = (xs.eraseIdx j).map f
 | [], j => rfl
 | x :: xs, 0 => rfl
 | x :: xs, j + 1 => by
  show f x :: (xs.map f).eraseIdx j = f x :: (xs.eraseIdx j).map f
  rw [XW f xs j]
theorem TupsAt.erase {H : Hp} {L : Addr} {bs : List Addr} {yss : List (List Nat)} (R : TupsAt H L bs yss) (j : Nat) : TupsAt (upd H L (.lst ((bs.map V.ref).eraseIdx j))) L (bs.eraseIdx j) (yss.eraseIdx j) := by
 refine ⟨by rw [Zm, XW], by rw [List.length_eraseIdx, List.length_eraseIdx, R.2.1], fun i b hb => ?_⟩
 rw [List.getElem?_eraseIdx] at hb
 rw [Zb, List.getElem?_eraseIdx]
 have key : ∀ i', bs[i']? = some b → upd H L (.lst ((bs.map V.ref).eraseIdx j)) b = some (.tup ((yss[i']?.getD []).map nV)) := fun i' h' => by
  have h := R.2.2 i' b h'
  rw [Zt (fun z => by rw [z, R.1] at h; cases h), h, Zb]
 by_cases hi : i < j
 ·rw [if_pos hi] at hb ⊢
  exact key _ hb
 ·rw [if_neg hi] at hb ⊢
  exact key _ hb
theorem TupsAt.sub {H : Hp} {L A : Addr} {cs : List Addr} {fd : List (List Nat)} (R : TupsAt H L cs fd) (os : List Nat) (ho : ∀ i ∈ os, i < fd.length) (hA : H A = some (.lst ((os.map fun i => cs.getD i 0).map V.ref))) : TupsAt H A (os.map fun i => cs.getD i 0) (os.map fun i => fd.getD i []) := by
 refine ⟨hA, by rw [Za, Za], fun i b hb => ?_⟩
 rw [Zc] at hb
 cases e : os[i]? with
 | none => rw [e] at hb; cases hb
 | some j =>
  rw [e] at hb
  have hj := ho j (List.mem_of_getElem? e)
  have hjc : j < cs.length := by rw [R.2.1]; exact hj
  have hb' : cs[j]? = some b := by
   rw [← Option.some.inj hb]
   show cs[j]? = some (cs.getD j 0)
   rw [Zb, Zf hjc]
   rfl
  rw [R.2.2 j b hb', Zb (l := os.map _), Zc, e]
  rfl
end Pm
namespace C24
open PySem L2 PySem.Spec PyProof.Rows
open Tb Pm
abbrev ZbW : Stmt := top 41
def ZcG : Sp := fun vs H Q _ => ∃ (p : Addr) (b : Nat) (gr : Bool), vs = [.ref p, .bl gr] ∧ Yb H p b ∧ b + 100 < 2 ^ 60 ∧ ∀ g t H', Tk p H H' → Yb H' p (b + 70) → GT H' g t → PW t → Q (.ref g) H'
theorem Zgw {xs : List V} (h : 1 ≤ xs.length) : W1 xs (some 1) none = xs.drop 1 := by
 unfold W1
 have e1 : HT.Yv xs.length 0 (some 1) = 1 := by
  have := HT.UV xs.length 0 1
  rw [show ((1 : Nat) : Int) = 1 from rfl] at this
  rw [this]
  omega
 rw [e1, HT.ZaM]
 rw [List.take_of_length_le (by rw [List.length_drop]; omega)]
theorem Zgu {xs : List V} (h : 1 ≤ xs.length) : W1 xs none (some 1) = xs.take 1 := by
 unfold W1
 have e1 : HT.Yv xs.length xs.length (some 1) = 1 := by
  have := HT.UV xs.length xs.length 1
  rw [show ((1 : Nat) : Int) = 1 from rfl] at this
  rw [this]
  omega
 rw [e1, HT.ZaM]
 rfl
theorem Zeg {cs : List Addr} {n : Nat} (h : cs.length = n) : (cs.map V.ref).drop 1 = (((List.range (n - 1)).map (· + 1)).map fun i => cs.getD i 0).map V.ref := by
 refine List.ext_getElem? fun i => ?_
 rw [List.getElem?_drop, Zc, Zc, Zc, Zc]
 by_cases hi : i < n - 1
 ·rw [List.getElem?_range hi, Zf (show 1 + i < cs.length by omega)]
  show some (V.ref cs[1 + i]) = some (V.ref (cs.getD (i + 1) 0))
  rw [Zb, Zf (show i + 1 < cs.length by omega)]
  congr 3
  omega
 ·rw [List.getElem?_eq_none (by omega), List.getElem?_eq_none (by rw [Zg]; omega)]
  rfl
theorem ZdE {cs : List Addr} (h : 1 ≤ cs.length) : (cs.map V.ref).take 1 = (([0] : List Nat).map fun i => cs.getD i 0).map V.ref := by
 cases cs with
 | nil => cases h
 | cons c r => rfl
theorem Tk.updN {p l : Addr} {H H1 : Hp} {o : HO} (a : Tk p H H1) (h : H l = none) : Tk p H (upd H1 l o) := fun c u e n => by
 rw [Zt (ZP e h)]
 exact a c u e n
theorem Tk.same {p : Addr} {H H1 H2 : Hp} (a : Tk p H H1) (s : Same H1 H2) : Tk p H H2 := a.trans (Tk.of s)
theorem Yb.updN {p l : Addr} {H : Hp} {b : Nat} {o : HO} (h : Yb H p b) (hl : l ≠ p) : Yb (upd H l o) p b := by
 obtain ⟨c, l', n, h1, h2⟩ := h
 exact ⟨c, l', n, by rw [Zt hl.symm]; exact h1, h2⟩
theorem ZjD (os : List Nat) (g : Nat → Nat) : (List.range os.length).map (fun j => g (os.getD j 0)) = os.map g := by
 refine List.ext_getElem? fun i => ?_
 rw [Zc, Zc]
 by_cases hi : i < os.length
 ·rw [List.getElem?_range hi, Zf hi]
  show some (g (os.getD i 0)) = some (g os[i])
  rw [Zb, Zf hi]
  rfl
 ·rw [List.getElem?_eq_none (by rw [Zg]; omega), List.getElem?_eq_none (by omega)]
  rfl
theorem U8 {os : List Nat} {fd : List (List Nat)} {i : Nat} (hi : i < os.length) : (os.map fun i => fd.getD i []).getD i [] = fd.getD (os.getD i 0) [] := by
 rw [Zb, Zc, Zf hi, Zb (l := os), Zf hi]
 rfl
section
variable {P : Program} {w : World} {K : PySem.W.Frag} {mg : Str → Option Value} {base : Heap}
theorem ZfK {f : Addr} {fd : FuncData} (F : YL K "_law_group" "_law_group" ZbW f fd) (T : BlB mg) (GT' : Fn P w K mg base ZL 2 "_law_things" ["_law_perms_here"] ZaD) (GP : Fn P w K mg base ZL 2 "_law_perms" ["_law_tape_here", "_law_great"] ZcD) (GK : Fn P w K mg base ZL 1 "_law_pick" ["_law_tape_here", "_law_many"] Xl) (GA : Fn P w K mg base ZL 1 "_law_after" ["_law_one", "_law_other"] UR) :
  ZH P w K mg base ZL 3 f fd ["_law_tape_here", "_law_great"] ZcG := by
 refine F.ok (FS (N := ["_law_tape_here", "_law_great", "_law_things_here", "_law_left", "_law_order", "_law_numbers", "_law_k"])) (fun vs H Q E h => ?_) (fun cdv A outer s H vs Q E hr h => ?_)
 ·obtain ⟨p, b, gr, rfl, _⟩ := h; rfl
 ·obtain ⟨p, b, gr, rfl, T0, hb, q⟩ := h
  have hu : (A.deeper (envOfC "_law_group" (ZQ ZbW) s.heap.objs.size f cdv)).units + 1 < cLine := by have := hr.un; omega
  refine ⟨_, Zn (Zy 2 rfl (Yc GT' hr Zu (pc (Yc GP hr Zu (pc (vn 0) (pc (vn 1) Zl))) Zl)))
   (Zn (Zy 3 rfl (ZW JW (vn 2) (Yo Zp) Yp))
   (Zn (Zy 4 rfl (ZW JW (vn 2) Yp (Yo Zp)))
   (Zn (Y8 PassesOwn.never (Zx (neC K hr.units) (vn 3) (ZD Zl) (ZB _))
    (Zo (YC (WZ PySem.F.plainAttrs_list PySem.F.slot_list_append PySem.F.type_list_append ZV (vn 4)
     (pc (WZ PySem.F.plainAttrs_list PySem.F.slot_list_pop PySem.F.type_list_pop ZfW (vn 3) (pc (Yc GK hr Zu (pc (vn 0) (pc (cb (Z7 K) T.len (pc (vn 3) Zl)) Zl))) Zl)) Zl)))))
   (Zn (Zy 5 rfl Zfr)
   (Zn (ZI PassesOwn.never rfl (WI T.range (pc (cb (Z7 K) T.len (pc (vn 4) Zl)) Zl)) (gn 6)
    (Zo (J1 hu (vn 5) (ZN (ixL K) (vn 4) (vn 6) (fun _ _ => rfl)) (vn 6) (by rfl))))
   (Zo (Zs (ct Zw T.tuple (pc (Xw ["_law_one"] [5, 4] ["_law_one", "_law_numbers", "_law_order"] rfl (itL K (vn 4)) (fun _ _ _ _ _ => gnf 0 rfl) (fun _ _ _ _ _ => ZK)
    (fun _ _ _ _ _ => ct (Zkz K) (by exact T.tuple) (pc (Xw ["_law_other"] [1, 0] ["_law_other", "_law_numbers", "_law_one"] rfl (itL K (vn 2)) (fun _ _ _ _ _ => gn 0) (fun _ _ _ _ _ => ZK)
     (fun _ _ _ _ _ => Ju hu (vn 1) (Yc GA hr Zu (pc (vn 2) (pc (vn 0) Zl))) (fun _ _ => rfl))) Zl))) Zl))))))))), ?_⟩
  have sz : (16777216 : Nat) = sizeLine := by decide
  refine ⟨_, rfl, _, rfl, p, b, gr, rfl, T0, by omega, fun L bs ps H1 k1 T1 hps R1 => ?_⟩
  obtain ⟨fd0, B⟩ := Zld hps
  generalize (ps.getD 0 []).length = k at B
  have n60 := B.n60
  have k10 := B.k10
  have n1 : 1 ≤ fd0.length := (List.getElem?_eq_some_iff.mp B.hd).1
  refine ⟨L, bs, ps, k, fd0, rfl, R1, B, fun D cs H2 nD s2 R2 => ?_⟩
  have csl : cs.length = fd0.length := R2.2.1
  have cml : (cs.map V.ref).length = fd0.length := by rw [Za, csl]
  refine ⟨_, rfl, _, rfl, D, _, rfl, .of R2.1, fun Lf nLf => ?_⟩
  rw [Zgw (by omega), Zeg csl]
  have s3 := Same.upd (H := H2) (o := .lst ((((List.range (fd0.length - 1)).map (· + 1)).map fun i => cs.getD i 0).map V.ref)) nLf
  have hLf : upd H2 Lf (.lst ((((List.range (fd0.length - 1)).map (· + 1)).map fun i => cs.getD i 0).map V.ref)) Lf = some (.lst ((((List.range (fd0.length - 1)).map (· + 1)).map fun i => cs.getD i 0).map V.ref)) := Zm
  generalize upd H2 Lf (.lst ((((List.range (fd0.length - 1)).map (· + 1)).map fun i => cs.getD i 0).map V.ref)) = H3 at s3 hLf ⊢
  refine ⟨_, rfl, _, rfl, D, _, rfl, .of (s3 _ _ R2.1), fun Od nOd => ?_⟩
  rw [Zgu (by omega), ZdE (by omega)]
  have s4 := Same.upd (H := H3) (o := .lst ((([0] : List Nat).map fun i => cs.getD i 0).map V.ref)) nOd
  have hOd : upd H3 Od (.lst ((([0] : List Nat).map fun i => cs.getD i 0).map V.ref)) Od = some (.lst ((([0] : List Nat).map fun i => cs.getD i 0).map V.ref)) := Zm
  generalize upd H3 Od (.lst ((([0] : List Nat).map fun i => cs.getD i 0).map V.ref)) = H4 at s4 hOd ⊢
  have s24 := s3.trans s4
  have R4 := R2.mono s24
  have nOd2 : H2 Od = none := s3.free nOd
  have nLO : Lf ≠ Od := fun z => by rw [z, nOd] at hLf; cases hLf
  have T2 := T1.mono s2
  have T4 := T2.mono s24
  have nLp : Lf ≠ p := T2.neN nLf
  have nOp : Od ≠ p := T2.neN nOd2
  have RL4 := R4.sub ((List.range (fd0.length - 1)).map (· + 1)) (fun i hi => by
   obtain ⟨j, hj, rfl⟩ := List.mem_map.mp hi
   have := List.mem_range.mp hj
   omega) (s4 _ _ hLf)
  have RO4 := R4.sub [0] (fun i hi => by rw [List.mem_singleton.mp hi]; omega) hOd
  have p0 : ([0] ++ (List.range (fd0.length - 1)).map (· + 1)).Perm (List.range fd0.length) := by
   have : List.range fd0.length = [0] ++ (List.range (fd0.length - 1)).map (· + 1) := by
    obtain ⟨k, hk⟩ : ∃ k, fd0.length = k + 1 := ⟨fd0.length - 1, by omega⟩
    rw [hk, List.range_succ_eq_map]
    rfl
   rw [this]
  refine YM (fun m σ' H' => ∃ (ls os : List Nat), σ' = [some (.ref p), some (.bl gr), some (.ref D), some (.ref Lf), some (.ref Od), none, none] ∧ Tk p H2 H' ∧ Yb H' p (b + 2 + os.length) ∧ TupsAt H' Lf (ls.map fun i => cs.getD i 0) (ls.map fun i => fd0.getD i []) ∧ TupsAt H' Od (os.map fun i => cs.getD i 0) (os.map fun i => fd0.getD i []) ∧ (os ++ ls).Perm (List.range fd0.length) ∧ os[0]? = some 0 ∧ m = ls.length)
   (fun σ' H' => ∃ (os : List Nat), σ' = [some (.ref p), some (.bl gr), some (.ref D), some (.ref Lf), some (.ref Od), none, none] ∧ Tk p H2 H' ∧ Yb H' p (b + 2 + os.length) ∧ TupsAt H' Od (os.map fun i => cs.getD i 0) (os.map fun i => fd0.getD i []) ∧ os.Perm (List.range fd0.length) ∧ os[0]? = some 0) ?hend ⟨_, _, _, rfl, Tk.of s24, T4.le (by omega), RL4, RO4, p0, rfl, rfl⟩ ?turn
  case turn =>
   rintro hend m σ' H' ⟨ls, os, rfl, kk, Tp, RL, RO, pm, h0, hm⟩
   have pl := pm.length_eq
   rw [Zd, Zg] at pl
   refine ⟨_, rfl, (by show 0 ≤ sizeLine; decide), fun e0 ne0 => ?_⟩
   have sE := Same.upd (H := H') (o := .lst []) ne0
   have RLE := RL.mono sE
   have ROE := RO.mono sE
   have kE := kk.same sE
   have TE := Tp.mono sE
   refine ⟨_, _, RLE.rd, .lst (.of Zm) .nil, ZaJ _, rfl, _, rfl, ?_⟩
   generalize upd H' e0 (.lst []) = HE at RLE ROE kE TE ⊢
   rw [VC]
   refine YS (fun hne => ?_) (fun he => ?_)
   ·have hpos : 0 < ls.length := by
     cases ls with
     | nil => cases hne
     | cons x r => rw [Zi]; omega
    refine ⟨_, fun _ _ z => z, _, rfl, .inl ⟨rfl, _, .of ROE.1⟩, _, rfl, .inl ⟨rfl, _, .of RLE.1⟩, _, rfl, _, rfl, Lf, _, rfl, .inl (.of RLE.1), p, _, b + 2 + os.length, rfl, TE, by omega, ?_, ?_, fun r5 H5 c0 c1 k5 T5 => ?_⟩
    ·rw [Za, Za]; omega
    ·rw [Za, Za]; omega
    rw [Za, Za] at c1
    obtain ⟨j, rfl⟩ := Int.eq_ofNat_of_zero_le c0
    have hj : j < ls.length := by omega
    have RL5 := TupsAt.tk TE k5 RLE
    have RO5 := TupsAt.tk TE k5 ROE
    have hat : ((ls.map fun i => cs.getD i 0).map V.ref)[j]? = some (.ref (cs.getD ls[j] 0)) := by rw [Zc, Zc, Zf hj]; rfl
    obtain ⟨sx, _⟩ := Zac (Zf4 (n := ((ls.map fun i => cs.getD i 0).map V.ref).length) (i := j) (by rw [Za, Za]; exact hj))
    have hb5 := RL5.2.2 j (cs.getD ls[j] 0) (by rw [Zc, Zf hj]; rfl)
    have ef : (ls.map fun i => fd0.getD i []).getD j [] = fd0.getD ls[j] [] := by
     rw [Zb, Zc, Zf hj]
     rfl
    rw [ef] at hb5
    have RL6 := RL5.erase j
    have RO6 := RO5.updM (o := .lst (((ls.map fun i => cs.getD i 0).map V.ref).eraseIdx j)) RL5.1 nLO.symm
    have T6 := T5.updN (o := .lst (((ls.map fun i => cs.getD i 0).map V.ref).eraseIdx j)) nLp
    have k6 := (kE.trans k5).updN (o := .lst (((ls.map fun i => cs.getD i 0).map V.ref).eraseIdx j)) nLf
    have hb6 : upd H5 Lf (.lst (((ls.map fun i => cs.getD i 0).map V.ref).eraseIdx j)) (cs.getD ls[j] 0) = some (.tup ((fd0.getD ls[j] []).map nV)) := by
     rw [Zt (fun z => by rw [z, RL5.1] at hb5; cases hb5)]
     exact hb5
    refine ⟨Lf, _, j, j, _, rfl, rfl, RL5.1, by omega, by omega, sx, hat, ?_⟩
    generalize upd H5 Lf (.lst (((ls.map fun i => cs.getD i 0).map V.ref).eraseIdx j)) = H6 at RL6 RO6 T6 k6 hb6 ⊢
    refine ⟨Od, _, _, rfl, rfl, RO6.1, by rw [Za, Za]; omega, ?_⟩
    rw [XW, XW] at RL6
    refine ⟨(ls.eraseIdx j).length, by rw [List.length_eraseIdx, if_pos hj]; omega, ls.eraseIdx j, os ++ [ls[j]], rfl, k6.updN nOd2, ?_, RL6.updM RO6.1 nLO, ?_, ?_, ?_, rfl⟩
    ·rw [Zd]
     exact T6.updN nOp
    ·rw [List.map_append, List.map_append]
     exact RO6.push hb6
    ·rw [List.append_assoc]
     exact (List.Perm.append_left os (Zbo ls j hj)).trans pm
    ·rw [List.getElem?_append_left]
     ·exact h0
     ·exact (List.getElem?_eq_some_iff.mp h0).1
   ·have : ls = [] := by
     cases ls with
     | nil => rfl
     | cons x r => exact absurd rfl he
    subst this
    rw [List.append_nil] at pm
    exact hend _ _ ⟨os, rfl, kE, TE, ROE, pm, h0⟩
  case hend =>
   rintro σ' H5 ⟨os, rfl, kk, Tp, RO, pm, h0⟩
   have O := Zjp n1 pm h0
   have osl := O.len
   have nd := B.nd
   refine fun Nd nNd => ?_
   have s6 := Same.upd (H := H5) (o := .dT []) nNd
   have hN6 : upd H5 Nd (.dT []) Nd = some (.dT []) := Zm
   generalize upd H5 Nd (.dT []) = H6 at s6 hN6 ⊢
   have ol : ((os.map fun i => cs.getD i 0).map V.ref).length = fd0.length := by rw [Za, Za, osl]
   refine ⟨_, rfl, Od, _, rfl, .inl (.of (s6 _ _ RO.1)), _, rfl, by rw [ol]; omega, by rw [ol]; omega, ?_⟩
   rw [ol, Zj]
   refine ZR (fun m σ' H' => ∃ v6 : Option V, σ' = [some (.ref p), some (.bl gr), some (.ref D), some (.ref Lf), some (.ref Od), some (.ref Nd), v6] ∧ Same H5 H' ∧ H' Nd = some (.dT (kvN fd0 os m))) ⟨_, rfl, s6, hN6⟩ ?_ ?_
   ·rintro m σ' H7 hm ⟨v6, rfl, s7, hN7⟩
    rw [show (0 : Int) + (m : Int) = (m : Int) by omega]
    have RO7 := RO.mono s7
    obtain ⟨c, _, hat, hc⟩ := RO7.get (i := m) (by rw [Za, osl]; exact hm)
    rw [U8 (by omega)] at hc
    refine ⟨_, rfl, _, rfl, _, rfl, _, rfl, Od, _, _, _, rfl, rfl, .of RO7.1, hat, Nd, _, rfl, XA.t (k := JK (fd0.getD (os.getD m 0) [])) hN7 (by rw [Zf2]; exact hc) (by unfold kvN; rw [Za, Zg]; omega), ?_⟩
    rw [ZhK nd rfl O hm]
    exact ⟨_, rfl, s7.updr nNd, Zm⟩
   ·rintro σ' H7 ⟨v6, rfl, s7, hN7⟩
    have RO7 := RO.mono s7
    refine ⟨_, rfl, Od, rfl, ⟨_, .of RO7.1⟩, ?_⟩
    have Ot : Ord (Wr fd0).length os := by rw [ZeG]; exact O
    have Pt : PW (U2 (Wr fd0) os) := Zjd B.pw Ot
    have rl : (U2 (Wr fd0) os).length = fd0.length := by rw [U1, osl]
    have rat : ∀ i, i < fd0.length → (U2 (Wr fd0) os).getD i [] = os.map fun b => pos os (Yt (Wr fd0) (os.getD i 0) b) := fun i hi => by
     unfold U2
     rw [Zb, Zc, Jw (show i < os.length by omega)]
     rfl
    refine Xd (W := Addr) id (fun i w H => Tz H w (((U2 (Wr fd0) os).getD i []).map nV)) (fun _ _ => True) (WQ (K := K) (.of RO7.1)) [some (.ref Nd), some (.ref Od)] rfl (by rw [ol]; omega) (fun i w H H' s h => h.mono s) (fun w H H' s h => trivial) (fun i w H0 H1 D o ys ys' h h0 h1 h2 => Tz.updL h h2) (fun i y hy H8 s8 R k8 => ?_) (fun D8 ws H8 nD8 s8 hD8 wl hw hp => ?_)
    ·obtain ⟨c, rfl, hi, hc⟩ := RO7.ref hy
     rw [Za, osl] at hi
     rw [U8 (by omega)] at hc
     have RO8 := RO7.mono s8
     have hoi := JA O hi
     refine ⟨_, rfl, Od, rfl, ⟨_, .of RO8.1⟩, ?_⟩
     refine Zbx (WQ (K := K) (.of RO8.1)) [some (.ref Nd), some (.ref c)] rfl (fun j => nV (pos os (Yt (Wr fd0) (os.getD i 0) (os.getD j 0)))) (by rw [ol]; omega) (fun j y' hy' H9 s9 R' k9 => ?_) (fun D9 H9 nD9 s9 hD9 => ?_)
     ·obtain ⟨d, rfl, hj, hd⟩ := RO8.ref hy'
      rw [Za, osl] at hj
      rw [U8 (by omega)] at hd
      have hoj := JA O hj
      obtain ⟨ml, me⟩ := Zkb B.cl hoi hoj
      refine ⟨_, rfl, _, rfl, _, rfl, c, d, k, _, _, rfl, (s8.trans s9) _ _ hc, s9 _ _ hd, B.fg _ (Zb7 hoi), B.fg _ (Zb7 hoj), by omega, fun r HA nr sA hr' => ?_⟩
      have dg := W3.t (H := HA) (k := JK (JE (fd0.getD (os.getD i 0) []) (fd0.getD (os.getD j 0) []))) (((s8.trans s9).trans sA) _ _ hN7) (by rw [Zf2]; exact hr')
      rw [← me, ZhJ nd rfl O ml] at dg
      exact ⟨Nd, _, rfl, dg, k9 HA sA⟩
     ·rw [ol] at hD9
      have e : (List.range fd0.length).map (fun j => nV (pos os (Yt (Wr fd0) (os.getD i 0) (os.getD j 0)))) = ((U2 (Wr fd0) os).getD i []).map nV := by
       rw [rat i hi, ← ZjD os, List.map_map, osl]
       rfl
      rw [e] at hD9
      exact ⟨D9, _, rfl, .of hD9, fun z Hz nz sz' hz => k8 z Hz (s9.trans sz') hz trivial⟩
    ·refine ⟨D8, _, rfl, .inl ⟨.of hD8, fun g ng => ?_⟩⟩
     have s9 := Same.upd (H := H8) (o := .tup (ws.map fun w => V.ref (id w))) ng
     have sX := (s7.trans s8).trans s9
     refine q g (U2 (Wr fd0) os) _ (((k1.same s2).trans kk).same sX) ((Tp.mono sX).le (by omega)) ⟨ws, Zm, by rw [wl, ol, rl], fun i r hr => ((hw i r hr).1).mono s9⟩ Pt
end
structure Bl (mg : Str → Option Value) : Prop where
 list : mg "list" = none
 len : mg "len" = none
 abs : mg "abs" = none
 range : mg "range" = none
 tuple : mg "tuple" = none
 isi : mg "isinstance" = none
 all : mg "all" = none
 set : mg "set" = none
 repr : mg "repr" = none
 any : mg "any" = none
 int : mg "int" = none
 bool : mg "bool" = none
abbrev Zix : Stmt := top 3
def UQ (K : PySem.W.Frag) : Sp := fun vs H Q _ => ∃ (g : Addr) (t : List (List Nat)) (a r : Nat), vs = [.ref g, .int a] ∧ GT H g t ∧ PW t ∧ a < t.length ∧ Rd t a r ∧ Q (.int (it t a (r - 1) : Nat)) H
section
variable {P : Program} {w : World} {K : PySem.W.Frag} {mg : Str → Option Value} {base : Heap}
theorem Zhy {f : Addr} {fd : FuncData} (F : YL K "back" "back" Zix f fd) : ZH P w K mg base ZL 1 f fd ["group", "a"] (UQ K) := by
 refine F.ok (FS (N := ["group", "a"])) (fun vs H Q E h => ?_) (fun cdv A outer s H vs Q E hr h => ?_)
 ·obtain ⟨g, t, a, r, rfl, _⟩ := h; rfl
 ·obtain ⟨g, t, a, r, rfl, G, Pt, ha, R, q⟩ := h
  refine ⟨_, Zo (Zs (Zft PySem.F.plainAttrs_tuple PySem.F.slot_tuple_index PySem.F.type_tuple_index (ZkA K) (ZN (Us K) (vn 0) (vn 1) (fun _ _ => rfl)) (pc Zp Zl))), ?_⟩
  obtain ⟨rs, r1, h1, _, h2, h3, h4⟩ := G.at Pt ha
  have hl := UW Pt ha
  have il := XF Pt ha (r - 1)
  refine ⟨_, rfl, _, rfl, g, _, _, _, rfl, rfl, .of h1, h2, ⟨_, _, rfl, h3⟩, r1, _, .int 0, it t a (r - 1), rfl, rfl, h3.sq, rfl, ?_, by rw [Za, hl]; exact il, fun z hz => ?_, fun m z hm hz => ?_, q⟩
  ·rw [List.all_eq_true]
   intro z hz
   obtain ⟨k, _, rfl⟩ := List.mem_map.mp hz
   rfl
  ·rw [Vi Pt ha il, R.bk] at hz
   cases hz
   decide
  ·have hm' : m < t.length := by omega
   rw [Vi Pt ha hm'] at hz
   cases hz
   have : Yt t a m ≠ 0 := fun z => by
    have := R.un m hm' z
    omega
   show decide ((Yt t a m : Int) = 0) = false
   exact decide_eq_false (by omega)
end
abbrev Ze8 : Stmt := top 4
abbrev Ziu : Stmt := top 5
def ZcC : Sp := fun vs H Q _ => ∃ (g : Addr) (t : List (List Nat)) (a r : Nat), vs = [.ref g, .int a] ∧ GT H g t ∧ PW t ∧ a < t.length ∧ Rd t a r ∧ Q (.int r) H
def ZeS : Sp := fun vs H Q _ => ∃ (g : Addr) (t : List (List Nat)) (rs : Nat → Nat), vs = [.ref g] ∧ GT H g t ∧ PW t ∧ (∀ a, a < t.length → Rd t a (rs a)) ∧ ∀ (f : Nat) H', Same H H' → Lc rs t.length f → Q (.int f) H'
section
variable {P : Program} {w : World} {K : PySem.W.Frag} {mg : Str → Option Value} {base : Heap}
theorem ZfD {f : Addr} {fd : FuncData} (F : YL K "round_of" "round_of" Ze8 f fd) : ZH P w K mg base ZL 1 f fd ["group", "a"] ZcC := by
 refine F.ok (FS (N := ["group", "a", "k", "found"])) (fun vs H Q E h => ?_) (fun cdv A outer s H vs Q E hr h => ?_)
 ·obtain ⟨g, t, a, r, rfl, _⟩ := h; rfl
 ·obtain ⟨g, t, a, r, rfl, G, Pt, ha, R, q⟩ := h
  refine ⟨_, Zn (Zy 2 rfl Zp) (Zn (Zy 3 rfl (vn 1))
   (Zn (Y8 PassesOwn.never (Zx WJ (vn 3) Zp (ZB _))
    (Zn (Zy 3 rfl (ZN (Us K) (ZN (Us K) (vn 0) (vn 3) (fun _ _ => rfl)) (vn 1) (fun _ _ => rfl)))
    (Zo (Zb0 (i := 2) (Z6 (by kernel_rfl)) rfl (WM (by kernel_rfl)) Zp Xu (.inl rfl)))))
   (Zo (Zs (vn 2))))), ?_⟩
  have r1 := R.r1
  refine ⟨_, rfl, ?_⟩
  refine YM (fun m σ' H' => ∃ k : Nat, σ' = [some (.ref g), some (.int a), some (.int k), some (.int (it t a k : Nat))] ∧ H' = H ∧ 1 ≤ k ∧ k ≤ r ∧ m = r - k)
   (fun σ' H' => ∃ v3 : Option V, σ' = [some (.ref g), some (.int a), some (.int r), v3] ∧ H' = H) ?hend ⟨r - 1, 1, by rw [Zf6 Pt ha]; rfl, rfl, Nat.le_refl _, r1, rfl⟩ ?turn
  case hend =>
   rintro σ' H' ⟨v3, rfl, rfl⟩
   exact ⟨_, rfl, q⟩
  case turn =>
   rintro hend m σ' H' ⟨k, rfl, rfl, k1, kr, hm⟩
   refine ⟨_, rfl, rfl, _, rfl, ?_⟩
   refine YS (fun h1 => ?_) (fun h1 => ?_)
   ·have h1 : it t a k ≠ 0 := fun z => by
     rw [Yd, z] at h1
     simp at h1
    have kr' : k < r := Nat.lt_of_le_of_ne kr fun z => h1 (z ▸ R.z)
    obtain ⟨rs, r2, g1, _, g2, g3, g4⟩ := G.at Pt (XF Pt ha k)
    refine ⟨_, fun _ _ z => z, _, rfl, _, rfl, g, _, _, _, rfl, rfl, .of g1, g2, _, rfl, r2, _, _, _, rfl, rfl, g3.sq, g4 a ha, _, rfl, _, _, rfl, rfl, r - (k + 1), by omega, k + 1, ?_, rfl, by omega, by omega, rfl⟩
    rfl
   ·have h1 : it t a k = 0 := by
     apply Classical.byContradiction
     intro z
     apply h1
     rw [Yd]
     simp [z]
    have : k = r := by
     apply Classical.byContradiction
     intro z
     exact R.nz k k1 (by omega) h1
    exact hend _ _ ⟨_, by rw [this], rfl⟩
theorem Zhv {f : Addr} {fd : FuncData} (F : YL K "full_round" "full_round" Ziu f fd) (T : Bl mg) (GR : Fn P w K mg base ZL 1 "round_of" ["group", "a"] ZcC) : ZH P w K mg base ZL 2 f fd ["group"] ZeS := by
 refine F.ok (FS (N := ["group", "found", "a", "step"])) (fun vs H Q E h => ?_) (fun cdv A outer s H vs Q E hr h => ?_)
 ·obtain ⟨g, t, rs, rfl, _⟩ := h; rfl
 ·obtain ⟨g, t, rs, rfl, G, Pt, R, q⟩ := h
  refine ⟨_, Zn (Zy 1 rfl Zp) (Zn (ZI PassesOwn.never rfl (WI T.range (pc (cb (Z7 K) T.len (pc (vn 0) Zl)) Zl)) (gn 2)
    (Zn (Zy 3 rfl (vn 1))
    (Zo (Y8 PassesOwn.never (Zx WJ (Zq Z5 (vn 1) (Yc GR hr Zu (pc (vn 0) (pc (vn 2) Zl)))) Zp (ZB _)) (Zo (Zb0 (i := 1) (Z6 (by kernel_rfl)) rfl (WM (by kernel_rfl)) (vn 3) Xu (.inl rfl)))))))
   (Zo (Zs (vn 1)))), ?_⟩
  have n1 := Pt.n1
  have n60 := Pt.n60
  obtain ⟨gs, g1, g2, _⟩ := id G
  have el : (gs.map V.ref).length = t.length := by rw [Za, g2]
  refine ⟨_, rfl, g, _, rfl, .inr (.of g1), _, rfl, by omega, by rw [el]; omega, ?_⟩
  rw [Zj, el]
  refine ZR (fun i σ' H' => ∃ (f : Nat) (v2 v3 : Option V), σ' = [some (.ref g), some (.int f), v2, v3] ∧ Same H H' ∧ Lc rs i f) ⟨1, _, _, rfl, Same.refl _, ⟨Nat.le_refl _, fun a ha => absurd ha (Nat.not_lt_zero _), fun x _ => Nat.mod_one x⟩⟩ ?_ ?_
  ·rintro i σ' H' hi ⟨f, v2, v3, rfl, sm, L⟩
   rw [show (0 : Int) + (i : Int) = (i : Int) by omega]
   have Ri := R i hi
   have ri1 := Ri.r1
   have L2 : Lc rs (i + 1) (W6 (rs i) f 61 f) := L.step (B := t.length) n1 (fun a ha => (R a (by omega)).dv) (by omega)
   have dvt := L2.dv i (by omega)
   refine ⟨_, rfl, ?_⟩
   refine YM (fun m σ'' H'' => ∃ x : Nat, σ'' = [some (.ref g), some (.int x), some (.int i), some (.int f)] ∧ H'' = H' ∧ W6 (rs i) f m x = W6 (rs i) f 61 f)
    (fun σ'' H'' => σ'' = [some (.ref g), some (.int (W6 (rs i) f 61 f : Nat)), some (.int i), some (.int f)] ∧ H'' = H') ?hend ⟨61, f, rfl, rfl, rfl⟩ ?turn
   case hend =>
    rintro σ'' H'' ⟨rfl, rfl⟩
    exact ⟨_, _, _, rfl, sm, L2⟩
   case turn =>
    rintro hend m σ'' H'' ⟨x, rfl, rfl, hx⟩
    have eT : (x : Int) % ((rs i : Nat) : Int) = ((x % rs i : Nat) : Int) := by push_cast; rfl
    refine ⟨_, rfl, _, rfl, _, rfl, g, t, i, rs i, rfl, G.mono sm, Pt, hi, Ri, _, _, rfl, rfl, (by show (0 : Int) < (rs i : Nat); omega), rfl, _, rfl, ?_⟩
    refine YS (fun h1 => ?_) (fun h1 => ?_)
    ·have h1 : x % rs i ≠ 0 := fun z => by
      rw [Yd, eT, z] at h1
      simp at h1
     cases m with
     | zero =>
      have hx : x = W6 (rs i) f 61 f := hx
      rw [← hx] at dvt
      exact absurd dvt h1
     | succ m =>
      rw [Tb.W6, if_neg h1] at hx
      exact ⟨_, fun _ _ z => z, _, rfl, _, rfl, _, _, rfl, rfl, m, by omega, x + f, rfl, rfl, hx⟩
    ·have h1 : x % rs i = 0 := by
      apply Classical.byContradiction
      intro z
      apply h1
      rw [Yd, eT]
      simp
      omega
     have : x = W6 (rs i) f 61 f := by
      cases m with
      | zero => exact hx
      | succ m => rw [Tb.W6, if_pos h1] at hx; exact hx
     exact hend _ _ ⟨by rw [this], rfl⟩
  ·rintro σ' H' ⟨f, v2, v3, rfl, sm, L⟩
   exact ⟨_, rfl, q f H' sm L⟩
end
end C24
namespace Tb
section
variable {t : List (List Nat)}
def bck (t : List (List Nat)) (a : Nat) : Nat := ((List.range t.length).find? fun b => Yt t a b == 0).getD 0
theorem Zcl (P : PW t) {a : Nat} (ha : a < t.length) : bck t a < t.length ∧ Yt t a (bck t a) = 0 := by
 obtain ⟨r, R⟩ := P.rd a ha
 unfold bck
 cases h : (List.range t.length).find? fun b => Yt t a b == 0 with
 | none =>
  exfalso
  rw [List.find?_eq_none] at h
  exact h _ (List.mem_range.mpr (XF P ha (r - 1))) (by rw [R.bk]; rfl)
 | some b =>
  have h1 := List.mem_range.mp (List.mem_of_find?_eq_some h)
  have h2 := List.find?_some h
  exact ⟨h1, by simpa using h2⟩
theorem Zcm (P : PW t) {a r : Nat} (ha : a < t.length) (R : Rd t a r) : it t a (r - 1) = bck t a := ((R.un _ (Zcl P ha).1 (Zcl P ha).2)).symm
theorem Zj8 (P : PW t) {a b : Nat} (ha : a < t.length) (hb : b < t.length) (h : Yt t a b = 0) : b = bck t a := by
 obtain ⟨r, R⟩ := P.rd a ha
 rw [← Zcm P ha R]
 exact R.un b hb h
def tb (t : List (List Nat)) (b x : Nat) : Nat := Yt t (Yt t x b) (bck t x)
theorem ZkC (P : PW t) {b x : Nat} (hb : b < t.length) (hx : x < t.length) : tb t b x < t.length := P.lt _ _ (P.lt _ _ hx hb) (Zcl P hx).1
theorem ZgK (P : PW t) {b : Nat} (hb : b < t.length) : tb t b 0 = b := by
 have n1 := P.n1
 have e : bck t 0 = 0 := (Zj8 P (by omega) (by omega) (P.one 0 (by omega))).symm
 unfold tb
 rw [e, P.one b hb, P.oneR b hb]
def Jm (t : List (List Nat)) (b : Nat) : List Nat := (List.range t.length).filter fun a => (List.range t.length).any fun x => tb t b x == a
theorem Jy (P : PW t) {b a : Nat} (hb : b < t.length) : a ∈ Jm t b ↔ ∃ x, x < t.length ∧ tb t b x = a := by
 unfold Jm
 rw [List.mem_filter, List.any_eq_true]
 constructor
 ·rintro ⟨_, x, hx, e⟩
  exact ⟨x, List.mem_range.mp hx, by simpa using e⟩
 ·rintro ⟨x, hx, e⟩
  exact ⟨List.mem_range.mpr (e ▸ ZkC P hb hx), x, List.mem_range.mpr hx, by simpa using e⟩
theorem Zbz (b : Nat) : (Jm t b).Pairwise (· < ·) := List.Pairwise.sublist List.filter_sublist List.pairwise_lt_range
theorem Zh0 (b : Nat) : (Jm t b).length ≤ t.length := by
 have := List.length_filter_le (fun a => (List.range t.length).any fun x => tb t b x == a) (List.range t.length)
 rw [Zg] at this
 exact this
theorem Zgy (P : PW t) {b : Nat} (hb : b < t.length) : b ∈ Jm t b := (Jy P hb).mpr ⟨0, by have := P.n1; omega, ZgK P hb⟩
def Z1 (t : List (List Nat)) : Nat → List (List Nat)
 | 0 => []
 | k + 1 => if (Z1 t k).any (·.contains k) then Z1 t k else Z1 t k ++ [Jm t k]
def YY (css : List (List Nat)) (a : Nat) : Bool := css.any (·.contains a)
theorem VL (P : PW t) : ∀ k, k ≤ t.length → ∀ b, b < k → YY (Z1 t k) b = true
 | 0, _, b, h => by omega
 | k + 1, hk, b, h => by
  unfold YY Z1
  split
  ·rename_i hc
   by_cases e : b = k
   ·subst e; exact hc
   ·exact VL P k (by omega) b (by omega)
  ·rw [List.any_append, Bool.or_eq_true]
   by_cases e : b = k
   ·subst e
    right
    rw [List.any_cons, List.any_nil, Bool.or_false]
    exact List.contains_iff_mem.mpr (Zgy P (by omega))
   ·left
    exact VL P k (by omega) b (by omega)
theorem Jl : ∀ k, (Z1 t k).length ≤ k
 | 0 => Nat.le_refl _
 | k + 1 => by
  have := Jl k
  unfold Z1
  split
  ·omega
  ·rw [Zd, Zk]; omega
end
end Tb
namespace C24
open PySem L2 PySem.Spec PyProof.Rows
open Tb Pm
abbrev JY : Stmt := top 7
abbrev Uc : Stmt := top 8
abbrev Vg : Stmt := top 9
abbrev Ze4 : Stmt := top 10
abbrev Zfe : Stmt := top 44
abbrev ZkS : Stmt := top 58
structure Zkk (mg : Str → Option Value) : Prop where
 sorted : mg "sorted" = none
 enumerate : mg "enumerate" = none
theorem ZcI {ns M : List Int} {c : List Nat} (hp : List.Perm ns M) (hs : ns.Pairwise (· ≤ ·)) (hn : M.Nodup) (hm : ∀ k : Int, k ∈ M ↔ ∃ a ∈ c, k = (a : Int)) (hc : c.Pairwise (· < ·)) : ns.map V.int = c.map nV := by
 have e : ns = c.map fun a : Nat => (a : Int) := by
  refine PySem.W.lks_uniq (hp.trans ?_) hs ?_
  ·refine (List.perm_ext_iff_of_nodup hn ?_).mpr fun k => ?_
   ·refine List.Pairwise.map _ (fun a b (h : a < b) => ?_) hc
    omega
   ·rw [hm k, List.mem_map]
    exact ⟨fun ⟨a, ha, e⟩ => ⟨a, ha, e.symm⟩, fun ⟨a, ha, e⟩ => ⟨a, ha, e.symm⟩⟩
  ·refine List.Pairwise.map _ (fun a b (h : a < b) => ?_) hc
   omega
 rw [e, List.map_map]
 rfl
def Wt : Sp := fun vs H Q _ => ∃ (g : Addr) (t : List (List Nat)) (b x : Nat), vs = [.ref g, .int b, .int x] ∧ GT H g t ∧ PW t ∧ b < t.length ∧ x < t.length ∧ Q (.int (tb t b x : Nat)) H
def Vb : Sp := fun vs H Q _ => ∃ (g : Addr) (t : List (List Nat)) (b : Nat), vs = [.ref g, .int b] ∧ GT H g t ∧ PW t ∧ b < t.length ∧ ∀ r H', Same H H' → H' r = some (.tup ((Jm t b).map nV)) → Q (.ref r) H'
section
variable {P : Program} {w : World} {K : PySem.W.Frag} {mg : Str → Option Value} {base : Heap}
theorem Xq {f : Addr} {fd : FuncData} (F : YL K "turned_by" "turned_by" JY f fd) (GB : Fn P w K mg base ZL 1 "back" ["group", "a"] (UQ K)) : ZH P w K mg base ZL 2 f fd ["group", "b", "t"] Wt := by
 refine F.ok (FS (N := ["group", "b", "t"])) (fun vs H Q E h => ?_) (fun cdv A outer s H vs Q E hr h => ?_)
 ·obtain ⟨g, t, b, x, rfl, _⟩ := h; rfl
 ·obtain ⟨g, t, b, x, rfl, G, Pt, hb, hx, q⟩ := h
  refine ⟨_, Zo (Zs (ZN (Us K) (ZN (Us K) (vn 0) (ZN (Us K) (ZN (Us K) (vn 0) (vn 2) (fun _ _ => rfl)) (vn 1) (fun _ _ => rfl)) (fun _ _ => rfl)) (Yc GB hr Zu (pc (vn 0) (pc (vn 2) Zl))) (fun _ _ => rfl))), ?_⟩
  obtain ⟨r, R⟩ := Pt.rd x hx
  obtain ⟨rs, r1, h1, _, h2, h3, h4⟩ := G.at Pt hx
  have ml := Pt.lt _ _ hx hb
  obtain ⟨rs', r2, g1, _, g2, g3, g4⟩ := G.at Pt ml
  have q' : Q (.int (Yt t (Yt t x b) (it t x (r - 1)) : Nat)) H := by rw [Zcm Pt hx R]; exact q
  exact ⟨_, rfl, _, rfl, _, rfl, g, _, _, _, rfl, rfl, .of h1, h2, _, rfl, r1, _, _, _, rfl, rfl, h3.sq, h4 b hb, g, _, _, _, rfl, rfl, .of g1, g2, _, rfl, _, rfl, g, t, x, r, rfl, G, Pt, hx, R, r2, _, _, _, rfl, rfl, g3.sq, g4 _ (XF Pt hx (r - 1)), q'⟩
def fTb (t : List (List Nat)) (b : Nat) : V → V
 | .int z => nV (tb t b z.toNat)
 | y => y
theorem ZaZ {f : Addr} {fd : FuncData} (F : YL K "turnings" "turnings" Uc f fd) (T : Bl mg) (T2 : Zkk mg) (GT' : Fn P w K mg base ZL 2 "turned_by" ["group", "b", "t"] Wt) : ZH P w K mg base ZL 3 f fd ["group", "b"] Vb := by
 refine F.ok (FS (N := ["group", "b"])) (fun vs H Q E h => ?_) (fun cdv A outer s H vs Q E hr h => ?_)
 ·obtain ⟨g, t, b, rfl, _⟩ := h; rfl
 ·obtain ⟨g, t, b, rfl, G, Pt, hb, q⟩ := h
  refine ⟨_, Zo (Zs (ct Zw T.tuple (pc (cb (Zcj rfl) T2.sorted (pc (ct (Zeo rfl) T.set (pc (Xw ["t"] [0, 1] ["t", "group", "b"] rfl (WI T.range (pc (cb (Z7 K) T.len (pc (vn 0) Zl)) Zl)) (fun _ _ _ _ _ => gn 0) (fun _ _ _ _ _ => ZK)
   (fun _ _ _ _ _ => Yc GT' hr Zu (pc (vn 1) (pc (vn 2) (pc (vn 0) Zl))))) Zl)) Zl)) Zl))), ?_⟩
  have n60 := Pt.n60
  obtain ⟨gs, u1, u2, _⟩ := id G
  have el : (gs.map V.ref).length = t.length := by rw [Za, u2]
  refine ⟨_, rfl, g, _, rfl, .inr (.of u1), _, rfl, by rw [el]; omega, by rw [el]; omega, ?_⟩
  rw [el, Zj]
  refine YA (Wh 0 t.length) [some (.ref g), some (.int b)] rfl (fTb t b) (by rw [Za, Yf]; omega) (fun i x H' hx sm R gg => ?_) (fun D H' hD sm hD' => ?_)
  ·have hi : i < t.length := by
    have := (List.getElem?_eq_some_iff.mp hx).1
    rw [Za, Yf] at this
    exact this
   rw [Zc, ZaT hi] at hx
   have hx : x = .int (i : Int) := by
    have := Option.some.inj hx
    rw [← this, Int.zero_add]
   subst hx
   have fin := gg H' (Same.refl _)
   exact ⟨_, rfl, _, rfl, _, rfl, g, t, b, i, rfl, G.mono sm, Pt, hb, hi, fin⟩
  ·have e1 : ((Ya 0 t.length).map V.int).map (fTb t b) = ((List.range t.length).map fun x => ((tb t b x : Nat) : Int)).map V.int := by
    unfold Ya
    rw [List.map_map, List.map_map, List.map_map]
    refine List.map_congr_left fun i _ => ?_
    show nV (tb t b ((0 : Int) + (i : Int)).toNat) = V.int _
    rw [Int.zero_add, Zj]
    rfl
   rw [e1] at hD'
   generalize hN : ((List.range t.length).map fun x => ((tb t b x : Nat) : Int)) = N at hD'
   have nl : N.length = t.length := by rw [← hN, Za, Zg]
   refine ⟨D, N, rfl, .of hD', by omega, fun p1 h1 => ?_⟩
   have s1 := Same.upd (o := Ze0 P w p1 (Vr N N.length)) h1
   have ml : (Vr N N.length).length ≤ N.length := firstMet_length_le _ _
   refine ⟨p1, Vr N N.length, rfl, Zm, Xt _ _, by omega, fun l ns h2 hp hs => ?_⟩
   have s2 := Same.upd (o := .lst (ns.map V.int)) h2
   have e := ZcI (c := Jm t b) hp hs (Xt _ _) (fun k => ?_) (Zbz b)
   ·refine ⟨l, _, rfl, .inl ⟨.of Zm, fun r nr => ?_⟩⟩
    exact q r _ (((sm.trans s1).trans s2).trans (Same.upd nr)) (by rw [← e]; exact Zm)
   ·rw [ZhE]
    constructor
    ·rintro ⟨j, hj, e⟩
     have hj' : j < t.length := by omega
     refine ⟨tb t b j, (Jy Pt hb).mpr ⟨j, hj', rfl⟩, ?_⟩
     rw [← e, ← hN, Zb, Zc, List.getElem?_range hj']
     rfl
    ·rintro ⟨a, ha, rfl⟩
     obtain ⟨x, hx, e⟩ := (Jy Pt hb).mp ha
     refine ⟨x, by omega, ?_⟩
     rw [← e, ← hN, Zb, Zc, List.getElem?_range hx]
     rfl
end
structure KS (kvs : List (Z9 × V)) (ks : List Nat) : Prop where
 keys : kvs.map (·.1) = ks.map fun a : Nat => (Sum.inl (a : Int) : Z9)
 nd : ks.Nodup
theorem KS.nil : KS [] [] := ⟨rfl, List.nodup_nil⟩
theorem KS.len {kvs : List (Z9 × V)} {ks : List Nat} (h : KS kvs ks) : kvs.length = ks.length := by
 have := congrArg List.length h.keys
 rwa [Za, Za] at this
theorem KS.some {kvs : List (Z9 × V)} {ks : List Nat} (h : KS kvs ks) (a : Nat) : (WF kvs (.inl (a : Int))).isSome = ks.contains a := by
 rw [← W5]
 have e : (kvs.any fun kv => decide (kv.1 = (.inl (a : Int) : Z9))) = (kvs.map (·.1)).any fun k => decide (k = (.inl (a : Int) : Z9)) := by rw [List.any_map]; rfl
 rw [e, h.keys, List.any_map]
 by_cases hm : a ∈ ks
 ·rw [List.contains_iff_mem.mpr hm, List.any_eq_true]
  exact ⟨a, hm, by simp⟩
 ·have hc : ks.contains a = false := by
   cases hc : ks.contains a with
   | false => rfl
   | true => exact absurd (List.contains_iff_mem.mp hc) hm
  rw [hc, List.any_eq_false]
  intro b hb z
  have z := of_decide_eq_true z
  injection z with z
  have : b = a := by omega
  exact hm (this ▸ hb)
theorem KS.put {kvs : List (Z9 × V)} {ks : List Nat} (h : KS kvs ks) (a : Nat) (v : V) : KS (Wv kvs (.inl (a : Int)) v) (if ks.contains a then ks else ks ++ [a]) := by
 have hs := h.some a
 by_cases hm : ks.contains a = true
 ·rw [if_pos hm]
  rw [hm] at hs
  refine ⟨?_, h.nd⟩
  unfold Wv
  rw [if_pos (by rw [W5]; exact hs), List.map_map, ← h.keys]
  refine List.map_congr_left fun kv _ => ?_
  show (if kv.1 = _ then (kv.1, v) else kv).1 = kv.1
  split <;> rfl
 ·rw [if_neg hm]
  have hn : WF kvs (.inl (a : Int)) = none := by
   cases hv : WF kvs (.inl (a : Int)) with
   | none => rfl
   | some x => rw [hv] at hs; exact absurd hs.symm hm
  rw [Zfm v hn]
  refine ⟨by rw [List.map_append, List.map_append, h.keys]; rfl, ?_⟩
  rw [List.nodup_append]
  refine ⟨h.nd, by simp, fun b hb c hc z => hm ?_⟩
  rw [List.mem_singleton.mp hc] at z
  exact List.contains_iff_mem.mpr (z ▸ hb)
theorem U5 {ks : List Nat} {a b : Nat} : b ∈ (if ks.contains a then ks else ks ++ [a]) ↔ b ∈ ks ∨ b = a := by
 split
 ·rename_i h
  exact ⟨.inl, fun z => z.elim id fun e => by rw [e]; exact List.contains_iff_mem.mp h⟩
 ·rw [List.mem_append, List.mem_singleton]
theorem U6 (ks : List Nat) (a : Nat) : (if ks.contains a then ks else ks ++ [a]).length ≤ ks.length + 1 := by
 split
 ·omega
 ·rw [Zd, Zk]; exact Nat.le_refl _
theorem KS.merge {kvs : List (Z9 × V)} {ks : List Nat} (h : KS kvs ks) : ∀ {more : List (Z9 × V)} {ms : List Nat}, KS more ms → ∃ ks', KS (Y2 kvs more) ks' ∧ (∀ a, a ∈ ks' ↔ a ∈ ks ∨ a ∈ ms) ∧ ks'.length ≤ ks.length + ms.length := by
 intro more
 induction more generalizing kvs ks with
 | nil =>
  intro ms hm
  have : ms = [] := List.length_eq_zero_iff.mp (by have := hm.len; simpa using this.symm)
  subst this
  exact ⟨ks, h, fun a => by simp, by simp⟩
 | cons p ps ih =>
  intro ms hm
  cases ms with
  | nil => exact absurd hm.len (by simp)
  | cons m ms =>
   have hk := hm.keys
   rw [List.map_cons, List.map_cons] at hk
   injection hk with h1 h2
   have hm' : KS ps ms := ⟨h2, (List.nodup_cons.mp hm.nd).2⟩
   have hp := h.put m p.2
   obtain ⟨ks', k1, k2, k3⟩ := ih hp hm'
   refine ⟨ks', ?_, fun a => ?_, ?_⟩
   ·show KS (Y2 (Wv kvs p.1 p.2) ps) ks'
    rw [h1]
    exact k1
   ·rw [k2, U5, List.mem_cons]
    exact ⟨fun z => z.elim (fun z => z.elim .inl fun e => .inr (.inl e)) fun z => .inr (.inr z), fun z => z.elim (fun z => .inl (.inl z)) fun z => z.elim (fun e => .inl (.inr e)) .inr⟩
   ·have := U6 ks m
    rw [Zi]
    omega
def V9 : Sp := fun vs H Q _ => ∃ (g : Addr) (t : List (List Nat)), vs = [.ref g] ∧ GT H g t ∧ PW t ∧ ∀ c H', Same H H' → CT H' c (Z1 t t.length) → Q (.ref c) H'
theorem _root_.Pm.TupsAt.updD {H : Hp} {L D : Addr} {bs : List Addr} {yss : List (List Nat)} {kvs : List (Z9 × V)} {o : HO} (hD : H D = some (.dK kvs)) (R : TupsAt H L bs yss) : TupsAt (upd H D o) L bs yss := by
 refine ⟨?_, R.2.1, fun i b hb => ?_⟩
 ·rw [Zt fun z => by have := R.1; rw [z, hD] at this; cases this]
  exact R.1
 ·rw [Zt fun z => by have := R.2.2 i b hb; rw [z, hD] at this; cases this]
  exact R.2.2 i b hb
theorem _root_.Pm.TupsAt.last {H : Hp} {L r : Addr} {bs : List Addr} {yss : List (List Nat)} {ys : List Nat} (R : TupsAt H L (bs ++ [r]) (yss ++ [ys])) : H r = some (.tup (ys.map nV)) := by
 have hl := R.2.1
 rw [Zd, Zd, Zk, Zk] at hl
 have := R.2.2 bs.length r (by rw [List.getElem?_append_right (Nat.le_refl _), Nat.sub_self]; rfl)
 rw [Zb, List.getElem?_append_right (by omega), show bs.length - yss.length = 0 by omega] at this
 exact this
theorem Zlz {H : Hp} {L c : Addr} {bs : List Addr} {yss : List (List Nat)} (R : TupsAt H L bs yss) (hc : H c = none) : CT (upd H c (.tup (bs.map V.ref))) c yss := ⟨bs, Zm, R.2.1, fun i r hr => Same.upd hc _ _ (R.2.2 i r hr)⟩
section
variable {P : Program} {w : World} {K : PySem.W.Frag} {mg : Str → Option Value} {base : Heap}
theorem Zb4 {f : Addr} {fd : FuncData} (F : YL K "classes_of" "classes_of" Vg f fd) (T : Bl mg) (GN : Fn P w K mg base ZL 3 "turnings" ["group", "b"] Vb) : ZH P w K mg base ZL 4 f fd ["group"] V9 := by
 refine F.ok (FS (N := ["group", "found", "seen", "b", "a"])) (fun vs H Q E h => ?_) (fun cdv A outer s H vs Q E hr h => ?_)
 ·obtain ⟨g, t, rfl, _⟩ := h; rfl
 ·obtain ⟨g, t, rfl, G, Pt, q⟩ := h
  have hu : (A.deeper (envOfC "classes_of" (ZQ Vg) s.heap.objs.size f cdv)).units + 1 < cLine := by have := hr.un; omega
  refine ⟨_, Zn (Zy 1 rfl (ZD Zl))
   (Zn (Zy 2 rfl Vn)
   (Zn (ZI PassesOwn.never rfl (WI T.range (pc (cb (Z7 K) T.len (pc (vn 0) Zl)) Zl)) (gn 3)
    (Zo (Z4 (Zfn (Ug hu (vn 3) (vn 2)))
     (Zn (YC (WZ PySem.F.plainAttrs_list PySem.F.slot_list_append PySem.F.type_list_append ZV (vn 1) (pc (Yc GN hr Zu (pc (vn 0) (pc (vn 3) Zl))) Zl)))
     (Zo (ZI PassesOwn.never rfl (itT K (ZN (ixL K) (vn 1) (W9 Wq Zp) (fun _ _ => rfl))) (gn 4) (Zo (J1 hu (vn 2) (vn 4) YH (by rfl)))))) ZC)))
   (Zo (Zs (ct Zw T.tuple (pc (vn 1) Zl)))))), ?_⟩
  have sz : (16777216 : Nat) = sizeLine := by decide
  have n60 := Pt.n60
  refine ⟨(by show 0 ≤ sizeLine; decide), fun L nL => fun D nD => ?_⟩
  have s1 := Same.upd (H := H) (o := .lst []) nL
  have s2 := s1.trans (Same.upd (o := .dK []) nD)
  have nDH : H D = none := s1.free nD
  obtain ⟨gs, u1, u2, _⟩ := id (G.mono s2)
  have el : (gs.map V.ref).length = t.length := by rw [Za, u2]
  refine ⟨_, rfl, g, _, rfl, .inr (.of u1), _, rfl, by rw [el]; omega, by rw [el]; omega, ?_⟩
  rw [el, Zj]
  refine ZR (fun i σ' H' => ∃ (w3 w4 : Option V) (bs : List Addr) (kvs : List (Z9 × V)) (ks : List Nat), σ' = [some (.ref g), some (.ref L), some (.ref D), w3, w4] ∧ Same H H' ∧ TupsAt H' L bs (Z1 t i) ∧ H' D = some (.dK kvs) ∧ KS kvs ks ∧ (∀ a, a ∈ ks ↔ YY (Z1 t i) a = true) ∧ ks.length ≤ 60 * i)
   ⟨_, _, [], [], [], rfl, s2, ⟨Same.upd nD _ _ Zm, rfl, fun i b hb => by cases hb⟩, Zm, .nil, fun a => ⟨fun z => (by cases z), fun z => (by cases z)⟩, Nat.le_refl _⟩ ?_ ?_
  ·rintro i σ' H3 hi ⟨w3, w4, bs, kvs, ks, rfl, s3, R, hD, hK, hks, kl⟩
   rw [show (0 : Int) + (i : Int) = (i : Int) by omega]
   refine ⟨_, rfl, _, rfl, D, _, rfl, W3.k (k := .inl (i : Int)) hD, _, rfl, ?_⟩
   have hseen : (WF kvs (.inl (i : Int))).isSome = YY (Z1 t i) i := by
    rw [hK.some]
    cases hc : YY (Z1 t i) i with
    | true => exact List.contains_iff_mem.mpr ((hks i).mpr hc)
    | false =>
     cases hc2 : ks.contains i with
     | false => rfl
     | true => rw [(hks i).mp (List.contains_iff_mem.mp hc2)] at hc; cases hc
   rw [hseen]
   refine YS (fun h => ?_) (fun h => ?_)
   ·have h : YY (Z1 t i) i = false := by simpa using h
    have eU : Z1 t (i + 1) = Z1 t i ++ [Jm t i] := by
     rw [Z1, if_neg (by unfold YY at h; rw [h]; decide)]
    refine ⟨_, rfl, .inl ⟨rfl, _, .of R.1⟩, _, rfl, _, rfl, g, t, i, rfl, G.mono s3, Pt, hi, fun r H4 s4 hr4 => ?_⟩
    have R4 := R.mono s4
    have bl := R4.2.1
    have ul := Jl (t := t) i
    refine ⟨L, _, _, rfl, rfl, R4.1, by rw [Za]; omega, ?_⟩
    have R5 := R4.push hr4
    have hD5 : upd H4 L (.lst (bs.map V.ref ++ [.ref r])) D = some (.dK kvs) := by
     rw [Zt fun z => by have := s4 _ _ hD; rw [z, R4.1] at this; cases this]
     exact s4 _ _ hD
    have s5 : Same H (upd H4 L (.lst (bs.map V.ref ++ [.ref r]))) := (s3.trans s4).updr nL
    refine ⟨_, rfl, _, rfl, L, _, _, _, rfl, rfl, .of Zm, ZgB _ _, r, rfl, ⟨_, .of R5.last⟩, ?_⟩
    generalize upd H4 L (.lst (bs.map V.ref ++ [.ref r])) = H5 at R5 hD5 s5 ⊢
    have cl := Zh0 (t := t) i
    refine ZhQ (K := K) (a := r) (xs := (Jm t i).map nV) (fun j σ' H' => ∃ (w4 : Option V) (kvs : List (Z9 × V)) (ks' : List Nat), σ' = [some (.ref g), some (.ref L), some (.ref D), some (.int (i : Nat)), w4] ∧ Same H H' ∧ TupsAt H' L (bs ++ [r]) (Z1 t i ++ [Jm t i]) ∧ H' D = some (.dK kvs) ∧ KS kvs ks' ∧ (∀ a, a ∈ ks' ↔ a ∈ ks ∨ a ∈ (Jm t i).take j) ∧ ks'.length ≤ 60 * i + j)
     ⟨_, kvs, ks, rfl, s5, R5, hD5, hK, fun a => ⟨.inl, fun z => z.elim id fun z => by rw [List.take_zero] at z; cases z⟩, kl⟩ (fun j σ' H' _ h => by
      obtain ⟨_, _, _, _, _, R', _⟩ := h
      exact .of R'.last) ?_ ?_
    ·rintro j y σ' H6 hy ⟨w4', kvs', ks', rfl, s6, R6, hD6, hK6, hks6, kl6⟩
     obtain ⟨k, hk, rfl⟩ := ZfV hy
     have hj : j < (Jm t i).length := (List.getElem?_eq_some_iff.mp hk).1
     refine ⟨_, rfl, _, rfl, D, _, rfl, XA.k (k := .inl (k : Int)) hD6 (by rw [hK6.len]; omega), ?_⟩
     refine ⟨_, _, _, rfl, s6.updr nDH, R6.updD hD6, Zm, hK6.put k (.bl true), fun a => ?_, ?_⟩
     ·rw [U5, hks6, List.take_add_one, hk, List.mem_append]
      show _ ↔ a ∈ ks ∨ a ∈ (Jm t i).take j ∨ a ∈ [k]
      rw [List.mem_singleton]
      exact ⟨fun z => z.elim (fun z => z.elim .inl fun z => .inr (.inl z)) fun z => .inr (.inr z), fun z => z.elim (fun z => .inl (.inl z)) fun z => z.elim (fun z => .inl (.inr z)) .inr⟩
     ·have := U6 ks' k
      omega
    ·rintro σ' H6 ⟨w4', kvs', ks', rfl, s6, R6, hD6, hK6, hks6, kl6⟩
     rw [Za] at hks6 kl6
     refine ⟨_, _, bs ++ [r], kvs', ks', rfl, s6, by rw [eU]; exact R6, hD6, hK6, fun a => ?_, by omega⟩
     rw [hks6, List.take_length, hks a, eU]
     unfold YY
     rw [List.any_append, Bool.or_eq_true, List.any_cons, List.any_nil, Bool.or_false, List.contains_iff_mem]
   ·have h : YY (Z1 t i) i = true := by simpa using h
    have eU : Z1 t (i + 1) = Z1 t i := by
     rw [Z1, if_pos (by unfold YY at h; rw [h])]
    exact ⟨_, _, bs, kvs, ks, rfl, s3, by rw [eU]; exact R, hD, hK, fun a => by rw [eU]; exact hks a, by omega⟩
  ·rintro σ' H3 ⟨w3, w4, bs, kvs, ks, rfl, s3, R, hD, hK, hks, kl⟩
   exact ⟨_, rfl, L, _, rfl, .inl ⟨.of R.1, fun c nc => q c _ (s3.trans (Same.upd nc)) (Zlz R nc)⟩⟩
end
def Zcy : Sp := fun vs H Q _ => ∃ (g : Addr) (t : List (List Nat)), vs = [.ref g] ∧ GT H g t ∧ PW t ∧ ∀ r H', Same H H' → H' r = some (.tup (((Z1 t t.length).map List.length).map nV)) → Q (.ref r) H'
def lenV (H : Hp) : V → V
 | .ref r => match H r with
  | some (.tup xs) => .int (xs.length : Nat)
  | _ => .non
 | _ => .non
section
variable {P : Program} {w : World} {K : PySem.W.Frag} {mg : Str → Option Value} {base : Heap}
theorem ZhI {H : Hp} {rs : List Addr} {css : List (List Nat)} (hl : rs.length = css.length) (h : ∀ (i : Nat) y, (rs.map V.ref)[i]? = some y → ∃ r, y = .ref r ∧ i < css.length ∧ H r = some (.tup ((css.getD i []).map nV))) : (rs.map V.ref).map (lenV H) = (css.map List.length).map nV := by
 refine List.ext_getElem? fun i => ?_
 rw [Zc]
 by_cases hi : i < css.length
 ·obtain ⟨r, e1, _, e2⟩ := h i _ (Zf (show i < (rs.map V.ref).length by rw [Za]; omega))
  rw [Zf (show i < (rs.map V.ref).length by rw [Za]; omega), e1, Zc, Zc, Zf hi]
  show some (lenV H (.ref r)) = some (nV css[i].length)
  unfold lenV
  dsimp only
  rw [e2]
  dsimp only
  rw [Za, Zb, Zf hi]
  rfl
 ·rw [List.getElem?_eq_none (by rw [Za]; omega), List.getElem?_eq_none (by rw [Za, Za]; omega)]
  rfl
theorem Zfz {f : Addr} {fd : FuncData} (F : YL K "sizes_of" "sizes_of" Ze4 f fd) (T : Bl mg) (GC : Fn P w K mg base ZL 4 "classes_of" ["group"] V9) : ZH P w K mg base ZL 5 f fd ["group"] Zcy := by
 refine F.ok (FS (N := ["group"])) (fun vs H Q E h => ?_) (fun cdv A outer s H vs Q E hr h => ?_)
 ·obtain ⟨g, t, rfl, _⟩ := h; rfl
 ·obtain ⟨g, t, rfl, G, Pt, q⟩ := h
  refine ⟨_, Zo (Zs (ct Zw T.tuple (pc (Xw ["members"] [] ["members"] rfl (itT K (Yc GC hr Zu (pc (vn 0) Zl))) (fun _ _ _ _ _ => gn 0) (fun _ _ _ _ _ => ZK) (fun _ _ _ _ _ => cb (Z7 K) T.len (pc (vn 0) Zl))) Zl))), ?_⟩
  have n60 := Pt.n60
  refine ⟨_, rfl, g, t, rfl, G, Pt, fun c H' s' C => ?_⟩
  obtain ⟨rs, c1, c2, c3⟩ := C.row
  have ul := Jl (t := t) t.length
  refine ⟨c, rfl, ⟨_, .of c1⟩, ?_⟩
  refine YA (Yn (K := K) (.of c1)) [] rfl (lenV H') (by rw [Za]; omega) (fun i x HC hx sC R gg => ?_) (fun D HD nD sD hD => ?_)
  ·obtain ⟨r, rfl, hi, hr'⟩ := c3 i x hx
   have fin := gg HC (Same.refl _)
   have e : lenV H' (.ref r) = .int (((((Z1 t t.length).getD i []).map nV).length : Nat)) := by
    unfold lenV
    dsimp only
    rw [hr']
   rw [e] at fin
   exact ⟨_, rfl, r, _, rfl, .inr (.of (sC _ _ hr')), fin⟩
  ·rw [ZhI c2 c3] at hD
   exact ⟨D, _, rfl, .inl ⟨.of hD, fun r nr => q r _ ((s'.trans sD).trans (Same.upd nr)) Zm⟩⟩
end
abbrev Zff : Stmt := top 42
abbrev ZaL : Stmt := top 43
section
variable {P : Program} {w : World} {K : PySem.W.Frag} {mg : Str → Option Value} {base : Heap}
theorem ZfH {f : Addr} {fd : FuncData} (F : YL K "_law_back" "_law_back" Zff f fd) : ZH P w K mg base ZL 1 f fd ["_law_group_here", "_law_a"] (UQ K) := by
 refine F.ok (FS (N := ["_law_group_here", "_law_a"])) (fun vs H Q E h => ?_) (fun cdv A outer s H vs Q E hr h => ?_)
 ·obtain ⟨g, t, a, r, rfl, _⟩ := h; rfl
 ·obtain ⟨g, t, a, r, rfl, G, Pt, ha, R, q⟩ := h
  refine ⟨_, Zo (Zs (Zft PySem.F.plainAttrs_tuple PySem.F.slot_tuple_index PySem.F.type_tuple_index (ZkA K) (ZN (Us K) (vn 0) (vn 1) (fun _ _ => rfl)) (pc Zp Zl))), ?_⟩
  obtain ⟨rs, r1, h1, _, h2, h3, h4⟩ := G.at Pt ha
  have hl := UW Pt ha
  have il := XF Pt ha (r - 1)
  refine ⟨_, rfl, _, rfl, g, _, _, _, rfl, rfl, .of h1, h2, ⟨_, _, rfl, h3⟩, r1, _, .int 0, it t a (r - 1), rfl, rfl, h3.sq, rfl, ?_, by rw [Za, hl]; exact il, fun z hz => ?_, fun m z hm hz => ?_, q⟩
  ·rw [List.all_eq_true]
   intro z hz
   obtain ⟨k, _, rfl⟩ := List.mem_map.mp hz
   rfl
  ·rw [Vi Pt ha il, R.bk] at hz
   cases hz
   decide
  ·have hm' : m < t.length := by omega
   rw [Vi Pt ha hm'] at hz
   cases hz
   have : Yt t a m ≠ 0 := fun z => by
    have := R.un m hm' z
    omega
   show decide ((Yt t a m : Int) = 0) = false
   exact decide_eq_false (by omega)
theorem Zb3 {f : Addr} {fd : FuncData} (F : YL K "_law_turned" "_law_turned" ZaL f fd) (GB : Fn P w K mg base ZL 1 "_law_back" ["_law_group_here", "_law_a"] (UQ K)) : ZH P w K mg base ZL 2 f fd ["_law_group_here", "_law_thing", "_law_t"] Wt := by
 refine F.ok (FS (N := ["_law_group_here", "_law_thing", "_law_t"])) (fun vs H Q E h => ?_) (fun cdv A outer s H vs Q E hr h => ?_)
 ·obtain ⟨g, t, b, x, rfl, _⟩ := h; rfl
 ·obtain ⟨g, t, b, x, rfl, G, Pt, hb, hx, q⟩ := h
  refine ⟨_, Zo (Zs (ZN (Us K) (ZN (Us K) (vn 0) (ZN (Us K) (ZN (Us K) (vn 0) (vn 2) (fun _ _ => rfl)) (vn 1) (fun _ _ => rfl)) (fun _ _ => rfl)) (Yc GB hr Zu (pc (vn 0) (pc (vn 2) Zl))) (fun _ _ => rfl))), ?_⟩
  obtain ⟨r, R⟩ := Pt.rd x hx
  obtain ⟨rs, r1, h1, _, h2, h3, h4⟩ := G.at Pt hx
  have ml := Pt.lt _ _ hx hb
  obtain ⟨rs', r2, g1, _, g2, g3, g4⟩ := G.at Pt ml
  have q' : Q (.int (Yt t (Yt t x b) (it t x (r - 1)) : Nat)) H := by rw [Zcm Pt hx R]; exact q
  exact ⟨_, rfl, _, rfl, _, rfl, g, _, _, _, rfl, rfl, .of h1, h2, _, rfl, r1, _, _, _, rfl, rfl, h3.sq, h4 b hb, g, _, _, _, rfl, rfl, .of g1, g2, _, rfl, _, rfl, g, t, x, r, rfl, G, Pt, hx, R, r2, _, _, _, rfl, rfl, g3.sq, g4 _ (XF Pt hx (r - 1)), q'⟩
def ZeU : Sp := fun vs H Q _ => ∃ (g : Addr) (t : List (List Nat)), vs = [.ref g] ∧ GT H g t ∧ PW t ∧ ∀ L bs H', H L = none → Same H H' → TupsAt H' L bs (Z1 t t.length) → Q (.ref L) H'
theorem Zht {f : Addr} {fd : FuncData} (F : YL K "_law_classes" "_law_classes" Zfe f fd) (T : Bl mg) (T2 : Zkk mg) (GU : Fn P w K mg base ZL 2 "_law_turned" ["_law_group_here", "_law_thing", "_law_t"] Wt) : ZH P w K mg base ZL 3 f fd ["_law_group_here"] ZeU := by
 refine F.ok (FS (N := ["_law_group_here", "_law_found", "_law_met", "_law_thing", "_law_row", "_law_t"])) (fun vs H Q E h => ?_) (fun cdv A outer s H vs Q E hr h => ?_)
 ·obtain ⟨g, t, rfl, _⟩ := h; rfl
 ·obtain ⟨g, t, rfl, G, Pt, q⟩ := h
  have hu : (A.deeper (envOfC "_law_classes" (ZQ Zfe) s.heap.objs.size f cdv)).units + 1 < cLine := by have := hr.un; omega
  refine ⟨_, Zn (Zy 1 rfl (ZD Zl))
   (Zn (Zy 2 rfl Vn)
   (Zn (ZI PassesOwn.never rfl (WI T.range (pc (cb (Z7 K) T.len (pc (vn 0) Zl)) Zl)) (gn 3)
    (Zo (Z4 (Zfn (Ug hu (vn 3) (vn 2)))
     (Zn (Zy 4 rfl Vn)
     (Zn (ZI PassesOwn.never rfl (WI T.range (pc (cb (Z7 K) T.len (pc (vn 0) Zl)) Zl)) (gn 5)
      (Zo (J1 hu (vn 4) (Yc GU hr Zu (pc (vn 0) (pc (vn 3) (pc (vn 5) Zl)))) YH (by rfl))))
     (Zn (YC (Zha (vn 2) (vn 4) ⟨rfl, rfl, rfl, rfl⟩))
     (Zo (YC (WZ PySem.F.plainAttrs_list PySem.F.slot_list_append PySem.F.type_list_append ZV (vn 1) (pc (ct Zw T.tuple (pc (cb (Zck rfl) T2.sorted (pc (vn 4) Zl)) Zl)) Zl))))))) ZC)))
   (Zo (Zs (vn 1))))), ?_⟩
  have sz : (16777216 : Nat) = sizeLine := by decide
  have n60 := Pt.n60
  obtain ⟨gs, u1, u2, _⟩ := id G
  have el : (gs.map V.ref).length = t.length := by rw [Za, u2]
  refine ⟨(by show 0 ≤ sizeLine; decide), fun L nL => fun D nD' => ?_⟩
  have s4 := Same.upd (H := H) (o := .lst []) nL
  have s5 := s4.trans (Same.upd (o := .dK []) nD')
  have nD : H D = none := s4.free nD'
  refine ⟨_, rfl, g, _, rfl, .inr (.of (s5 _ _ u1)), _, rfl, by rw [el]; omega, by rw [el]; omega, ?_⟩
  rw [el, Zj]
  refine ZR (fun i σ' H' => ∃ (w5 w6 w7 : Option V) (bs : List Addr) (kvs : List (Z9 × V)) (ks : List Nat), σ' = [some (.ref g), some (.ref L), some (.ref D), w5, w6, w7] ∧ Same H H' ∧ TupsAt H' L bs (Z1 t i) ∧ H' D = some (.dK kvs) ∧ KS kvs ks ∧ (∀ a, a ∈ ks ↔ YY (Z1 t i) a = true) ∧ ks.length ≤ 60 * i)
   ⟨_, _, _, [], [], [], rfl, s5, ⟨Same.upd nD' _ _ Zm, rfl, fun i b hb => by cases hb⟩, Zm, .nil, fun a => ⟨fun z => (by cases z), fun z => (by cases z)⟩, Nat.le_refl _⟩ ?_ ?_
  ·rintro i σ' H6 hi ⟨w5, w6, w7, bs, kvs, ks, rfl, s6, R, hD, hK, hks, kl⟩
   rw [show (0 : Int) + (i : Int) = (i : Int) by omega]
   refine ⟨_, rfl, _, rfl, D, _, rfl, W3.k (k := .inl (i : Int)) hD, _, rfl, ?_⟩
   have hseen : (WF kvs (.inl (i : Int))).isSome = YY (Z1 t i) i := by
    rw [hK.some]
    cases hc : YY (Z1 t i) i with
    | true => exact List.contains_iff_mem.mpr ((hks i).mpr hc)
    | false =>
     cases hc2 : ks.contains i with
     | false => rfl
     | true => rw [(hks i).mp (List.contains_iff_mem.mp hc2)] at hc; cases hc
   rw [hseen]
   refine YS (fun h => ?_) (fun h => ?_)
   ·have h : YY (Z1 t i) i = false := by simpa using h
    have eU : Z1 t (i + 1) = Z1 t i ++ [Jm t i] := by
     rw [Z1, if_neg (by unfold YY at h; rw [h]; decide)]
    refine fun E nE => ?_
    have s7 := Same.upd (H := H6) (o := .dK []) nE
    have hE7 := Zm (H := H6) (a := E) (o := .dK [])
    have nE3 : H E = none := s6.free nE
    have hDE : D ≠ E := fun z => by rw [z, nE] at hD; cases hD
    have hD7 := s7 _ _ hD
    have R7 := R.mono s7
    have s37 := s6.trans s7
    generalize upd H6 E (.dK []) = H7 at s7 hE7 hD7 R7 s37 ⊢
    refine ⟨_, rfl, g, _, rfl, .inr (.of (s37 _ _ u1)), _, rfl, by rw [el]; omega, by rw [el]; omega, ?_⟩
    rw [el, Zj]
    refine ZR (fun j σ' H' => ∃ (w7 : Option V) (kvr : List (Z9 × V)) (ms : List Nat), σ' = [some (.ref g), some (.ref L), some (.ref D), some (.int (i : Nat)), some (.ref E), w7] ∧ Same H H' ∧ TupsAt H' L bs (Z1 t i) ∧ H' D = some (.dK kvs) ∧ H' E = some (.dK kvr) ∧ KS kvr ms ∧ (∀ a, a ∈ ms ↔ ∃ x, x < j ∧ tb t i x = a) ∧ ms.length ≤ j)
     ⟨_, [], [], rfl, s37, R7, hD7, hE7, .nil, fun a => ⟨fun z => (by cases z), fun ⟨x, hx, _⟩ => absurd hx (Nat.not_lt_zero _)⟩, Nat.le_refl _⟩ ?_ ?_
    ·rintro j σ' H8 hj ⟨w7', kvr, ms, rfl, s8, R8, hD8, hE8, hKr, hms, ml⟩
     rw [show (0 : Int) + (j : Int) = (j : Int) by omega]
     refine ⟨_, rfl, _, rfl, _, rfl, _, rfl, g, t, i, j, rfl, G.mono s8, Pt, hi, hj, E, _, rfl, XA.k (k := .inl ((tb t i j : Nat) : Int)) hE8 (by rw [hKr.len]; omega), ?_⟩
     refine ⟨_, _, _, rfl, s8.updr nE3, R8.updD hE8, by rw [Zt hDE]; exact hD8, Zm, hKr.put (tb t i j) (.bl true), fun a => ?_, ?_⟩
     ·rw [U5, hms]
      constructor
      ·rintro (⟨x, hx, e⟩ | e)
       ·exact ⟨x, by omega, e⟩
       ·exact ⟨j, by omega, e.symm⟩
      ·rintro ⟨x, hx, e⟩
       by_cases ej : x = j
       ·right; rw [← e, ej]
       ·exact .inl ⟨x, by omega, e⟩
     ·have := U6 ms (tb t i j)
      omega
    ·rintro σ' H8 ⟨w7', kvr, ms, rfl, s8, R8, hD8, hE8, hKr, hms, ml⟩
     have hkl := hK.len
     have hrl := hKr.len
     refine ⟨_, rfl, D, rfl, .inl ⟨_, .inl hD8⟩, _, rfl, E, kvs, kvr, rfl, hDE, hD8, hE8, by rw [hkl, hrl]; omega, ?_⟩
     obtain ⟨ks', hK', hks', kl'⟩ := hK.merge hKr
     have R9 := R8.updD (o := .dK (Y2 kvs kvr)) hD8
     have hE9 : upd H8 D (.dK (Y2 kvs kvr)) E = some (.dK kvr) := by rw [Zt (Ne.symm hDE)]; exact hE8
     have hD9 := Zm (H := H8) (a := D) (o := .dK (Y2 kvs kvr))
     have s9 : Same H (upd H8 D (.dK (Y2 kvs kvr))) := s8.updr nD
     generalize upd H8 D (.dK (Y2 kvs kvr)) = H9 at R9 hE9 hD9 s9 ⊢
     refine ⟨_, rfl, .inl ⟨rfl, _, .of R9.1⟩, _, rfl, E, kvr, ms.map fun a : Nat => (a : Int), rfl, hE9, ?_, by rw [Za]; omega, fun l2 ns nl2 hp hs => ?_⟩
     ·rw [hKr.keys, List.map_map]
      rfl
     have hnd : (ms.map fun a : Nat => (a : Int)).Nodup := List.Pairwise.map _ (fun a b (hab : a ≠ b) => by omega) hKr.nd
     have e := ZcI (c := Jm t i) hp hs hnd (fun k => ?_) (Zbz i)
     ·have s10 := Same.upd (o := .lst (ns.map V.int)) nl2
      refine ⟨l2, _, rfl, .inl ⟨.of Zm, fun r nr => ?_⟩⟩
      have s11 := Same.upd (o := .tup (ns.map V.int)) nr
      have R11 := R9.mono (s10.trans s11)
      have hr11 : upd (upd H9 l2 (.lst (ns.map V.int))) r (.tup (ns.map V.int)) r = some (.tup ((Jm t i).map nV)) := by rw [← e]; exact Zm
      have hD11 := (s10.trans s11) _ _ hD9
      have s311 := s9.trans (s10.trans s11)
      have bl := R11.2.1
      have ul := Jl (t := t) i
      refine ⟨L, _, _, rfl, rfl, R11.1, by rw [Za]; omega, ?_⟩
      refine ⟨_, _, _, bs ++ [r], _, ks', rfl, s311.updr nL, by rw [eU]; exact R11.push hr11, ?_, hK', fun a => ?_, by omega⟩
      ·rw [Zt fun z => by have := hD11; rw [z, R11.1] at this; cases this]
       exact hD11
      ·rw [hks', hks a, eU]
       unfold YY
       rw [List.any_append, Bool.or_eq_true, List.any_cons, List.any_nil, Bool.or_false, List.contains_iff_mem, Jy Pt hi, hms]
     ·rw [List.mem_map]
      constructor
      ·rintro ⟨a, ha, rfl⟩
       exact ⟨a, (Jy Pt hi).mpr ((hms a).mp ha), rfl⟩
      ·rintro ⟨a, ha, rfl⟩
       exact ⟨a, (hms a).mpr ((Jy Pt hi).mp ha), rfl⟩
   ·have h : YY (Z1 t i) i = true := by simpa using h
    have eU : Z1 t (i + 1) = Z1 t i := by
     rw [Z1, if_pos (by unfold YY at h; rw [h])]
    exact ⟨_, _, _, bs, kvs, ks, rfl, s6, by rw [eU]; exact R, hD, hK, fun a => by rw [eU]; exact hks a, by omega⟩
  ·rintro σ' H6 ⟨w5, w6, w7, bs, kvs, ks, rfl, s6, R, hD, hK, hks, kl⟩
   exact ⟨_, rfl, q L bs H6 nL s6 R⟩
end
end C24
set_option maxHeartbeats 1000000
namespace Num
def co (a : List Int) (i : Nat) : Int := a.getD i 0
theorem Ym (i : Nat) : co [] i = 0 := by simp [co]
theorem Ye (x : Int) (r : List Int) : co (x :: r) 0 = x := by simp [co]
theorem YF (x : Int) (r : List Int) (i : Nat) : co (x :: r) (i + 1) = co r i := by simp [co]
theorem YK {a : List Int} {i : Nat} (h : a.length ≤ i) : co a i = 0 := by
 unfold co
 rw [Zb, List.getElem?_eq_none h]
 rfl
theorem Z8 {a : List Int} {i : Nat} (h : i < a.length) : a[i]? = some (co a i) := by
 unfold co
 rw [Zb, Zf h]
 rfl
def XM : List Int → List Int → List Int
 | [], b => b
 | a, [] => a
 | x :: a, y :: b => (x + y) :: XM a b
def vsc (c : Int) (a : List Int) : List Int := a.map (c * ·)
theorem Wl : ∀ (a b : List Int) (i : Nat), co (XM a b) i = co a i + co b i
 | [], b, i => by rw [XM, Ym, Int.zero_add]
 | x :: a, [], i => by rw [XM, Ym, Int.add_zero]; intro z; cases z
 | x :: a, y :: b, 0 => by rw [XM, Ye, Ye, Ye]
 | x :: a, y :: b, i + 1 => by rw [XM, YF, YF, YF, Wl a b i]
theorem VH (c : Int) : ∀ (a : List Int) (i : Nat), co (vsc c a) i = c * co a i
 | [], i => by unfold vsc; rw [List.map_nil, Ym, Int.mul_zero]
 | x :: a, 0 => by unfold vsc; rw [List.map_cons, Ye, Ye]
 | x :: a, i + 1 => by
  have := VH c a i
  unfold vsc at this ⊢
  rw [List.map_cons, YF, YF, this]
def Wj : List Int → List (List Int) → List Int
 | _, [] => []
 | a, r :: rs => XM (vsc (co a 0) r) (Wj a.tail rs)
theorem ZhX (a : List Int) (i : Nat) : co a.tail i = co a (i + 1) := by
 cases a with
 | nil => rw [List.tail_nil, Ym, Ym]
 | cons x r => rw [List.tail_cons, YF]
theorem ZG (a : List Int) (r : List Int) (rs : List (List Int)) (j : Nat) : co (Wj a (r :: rs)) j = co a 0 * co r j + co (Wj a.tail rs) j := by
 rw [Wj, Wl, VH]
def ro (R : List (List Int)) (i : Nat) : List Int := R.getD i []
theorem UZ (r : List Int) (rs : List (List Int)) : ro (r :: rs) 0 = r := by simp [ro]
theorem U0 (r : List Int) (rs : List (List Int)) (i : Nat) : ro (r :: rs) (i + 1) = ro rs i := by simp [ro]
theorem Zja (i : Nat) : ro [] i = [] := by simp [ro]
theorem Zaa (j : Nat) (v : Int) : ∀ (a : List Int) (i : Nat) (R : List (List Int)), i < a.length → co (Wj (a.set i v) R) j = co (Wj a R) j + (v - co a i) * co (ro R i) j
 | a, i, [], h => by rw [Zja, Ym, Int.mul_zero, Int.add_zero]; unfold Wj; rfl
 | [], i, r :: rs, h => by cases h
 | x :: a, 0, r :: rs, h => by
  rw [List.set_cons_zero, ZG, ZG, Ye, Ye, UZ, List.tail_cons, List.tail_cons, Int.sub_mul]
  omega
 | x :: a, i + 1, r :: rs, h => by
  rw [List.set_cons_succ, ZG, ZG, Ye, Ye, YF, U0, List.tail_cons, List.tail_cons, Zaa j v a i rs (Nat.lt_of_succ_lt_succ h)]
  omega
theorem J8 : ∀ (R : List (List Int)) (j : Nat), co (Wj [] R) j = 0
 | [], j => by unfold Wj; exact Ym j
 | r :: rs, j => by rw [ZG, Ym, List.tail_nil, J8 rs j, Int.zero_mul, Int.add_zero]
theorem Uo : ∀ (m : Nat) (R : List (List Int)) (j : Nat), co (Wj (List.replicate m 0) R) j = 0
 | 0, R, j => J8 R j
 | m + 1, [], j => by unfold Wj; exact Ym j
 | m + 1, r :: rs, j => by rw [ZG, List.replicate_succ, Ye, List.tail_cons, Uo m rs j, Int.zero_mul, Int.add_zero]
def JG (n : Nat) (R : List (List Int)) (j : Nat) : List Int → Nat → Int
 | [], _ => 0
 | x :: xs, k => x * co (ro R (k % n)) j + JG n R j xs (k + 1)
def Jh (n : Nat) : List Int → Nat → List Int → List Int
 | [], _, acc => acc
 | x :: xs, k, acc => Jh n xs (k + 1) (acc.set (k % n) (co acc (k % n) + x))
def Wf (n : Nat) (ps : List Int) : List Int := Jh n ps 0 (List.replicate n 0)
theorem Zbd (n : Nat) (hn : 0 < n) (R : List (List Int)) (j : Nat) : ∀ (ps : List Int) (k : Nat) (acc : List Int), acc.length = n → co (Wj (Jh n ps k acc) R) j = co (Wj acc R) j + JG n R j ps k
 | [], k, acc, h => by rw [Jh, JG, Int.add_zero]
 | x :: xs, k, acc, h => by
  rw [Jh, Zbd n hn R j xs (k + 1) _ (by rw [List.length_set, h]), Zaa j _ acc (k % n) R (by rw [h]; exact Nat.mod_lt _ hn), JG]
  have e : co acc (k % n) + x - co acc (k % n) = x := by omega
  rw [e]
  omega
theorem Up (n : Nat) (hn : 0 < n) (R : List (List Int)) (ps : List Int) (j : Nat) : co (Wj (Wf n ps) R) j = JG n R j ps 0 := by
 unfold Wf
 rw [Zbd n hn R j ps 0 _ (List.length_replicate ..), Uo, Int.zero_add]
theorem Vf (n : Nat) (R : List (List Int)) (j : Nat) : ∀ (a b : List Int) (k : Nat), JG n R j (a ++ b) k = JG n R j a k + JG n R j b (k + a.length)
 | [], b, k => by rw [List.nil_append, JG, Int.zero_add, List.length_nil, Nat.add_zero]
 | x :: a, b, k => by
  rw [List.cons_append, JG, JG, Vf n R j a b (k + 1), Zi, show k + 1 + a.length = k + (a.length + 1) by omega]
  omega
theorem Js (n : Nat) (R : List (List Int)) (j : Nat) : ∀ (m k : Nat), JG n R j (List.replicate m 0) k = 0
 | 0, k => rfl
 | m + 1, k => by rw [List.replicate_succ, JG, Js n R j m (k + 1), Int.zero_mul, Int.add_zero]
theorem UT (n : Nat) (R : List (List Int)) (j : Nat) (c : Int) : ∀ (a : List Int) (i k : Nat), i < a.length → JG n R j (a.set i (co a i + c)) k = JG n R j a k + c * co (ro R ((k + i) % n)) j
 | [], i, k, h => by cases h
 | x :: a, 0, k, h => by
  rw [List.set_cons_zero, JG, JG, Ye, Int.add_mul]
  simp only [Nat.add_zero]
  omega
 | x :: a, i + 1, k, h => by
  rw [List.set_cons_succ, JG, JG, YF, UT n R j c a i (k + 1) (Nat.lt_of_succ_lt_succ h), show k + 1 + i = k + (i + 1) by omega]
  omega
def lk (n : Nat) (s : Nat) (g : Nat → Int) : Nat → Int := fun k => g k - g ((k + (n - s)) % n)
def J7 (n : Nat) (ss : List Nat) (g : Nat → Int) : Nat → Int := ss.foldl (fun g s => lk n s g) g
theorem U9 (n : Nat) : ∀ (ss : List Nat) (g h : Nat → Int) (k : Nat), J7 n ss (fun t => g t + h t) k = J7 n ss g k + J7 n ss h k
 | [], g, h, k => rfl
 | s :: ss, g, h, k => by
  show J7 n ss (lk n s fun t => g t + h t) k = J7 n ss (lk n s g) k + J7 n ss (lk n s h) k
  rw [← U9 n ss (lk n s g) (lk n s h) k]
  congr 1
  funext t
  unfold lk
  show g t + h t - (g ((t + (n - s)) % n) + h ((t + (n - s)) % n)) = _
  omega
theorem Zca (n : Nat) (c : Int) : ∀ (ss : List Nat) (g : Nat → Int) (k : Nat), J7 n ss (fun t => c * g t) k = c * J7 n ss g k
 | [], g, k => rfl
 | s :: ss, g, k => by
  show J7 n ss (lk n s fun t => c * g t) k = c * J7 n ss (lk n s g) k
  rw [← Zca n c ss (lk n s g) k]
  congr 1
  funext t
  unfold lk
  rw [Int.mul_sub]
theorem Vt (n : Nat) : ∀ (ss : List Nat) (k : Nat), J7 n ss (fun _ => 0) k = 0
 | [], k => rfl
 | s :: ss, k => by
  show J7 n ss (lk n s fun _ => 0) k = 0
  have : (lk n s fun _ => (0 : Int)) = fun _ => 0 := by funext t; unfold lk; rfl
  rw [this]
  exact Vt n ss k
theorem Zc8 (n : Nat) (ss : List Nat) (k : Nat) : ∀ (U : List (List Int)) (f : List Int), (∀ r ∈ U, J7 n ss (co r) k = 0) → J7 n ss (co (Wj f U)) k = 0
 | [], f, h => by
  have : co (Wj f []) = fun _ => 0 := by funext t; unfold Wj; exact Ym t
  rw [this]
  exact Vt n ss k
 | r :: rs, f, h => by
  have e : co (Wj f (r :: rs)) = fun t => co f 0 * co r t + co (Wj f.tail rs) t := by funext t; exact ZG f r rs t
  rw [e, U9 n ss (fun t => co f 0 * co r t) (co (Wj f.tail rs)) k, Zca, h r List.mem_cons_self, Zc8 n ss k rs f.tail fun q hq => h q (List.mem_cons_of_mem _ hq), Int.mul_zero, Int.add_zero]
theorem YJ (n : Nat) (hn : 0 < n) : ∀ (ss : List Nat) (g h : Nat → Int), (∀ t, t < n → g t = h t) → ∀ k, k < n → J7 n ss g k = J7 n ss h k
 | [], g, h, e, k, hk => e k hk
 | s :: ss, g, h, e, k, hk => by
  refine YJ n hn ss (lk n s g) (lk n s h) (fun t ht => ?_) k hk
  unfold lk
  rw [e t ht, e _ (Nat.mod_lt _ hn)]
def lkL (n s : Nat) (a : List Int) : List Int := List.zipWith (· - ·) a (a.drop s ++ a.take s)
theorem Zc9 {n s : Nat} {a : List Int} (h : a.length = n) : (lkL n s a).length = n := by
 unfold lkL
 rw [List.length_zipWith, Zd, List.length_drop, List.length_take]
 omega
theorem Zj3 {n s k : Nat} {a : List Int} (h : a.length = n) (hs : s ≤ n) (hk : k < n) : co (lkL n s a) k = co a k - co a ((k + s) % n) := by
 have hl : (a.drop s ++ a.take s).length = n := by
  rw [Zd, List.length_drop, List.length_take]
  omega
 have g1 : (lkL n s a)[k]? = some (a[k]'(by omega) - (a.drop s ++ a.take s)[k]'(by omega)) := by
  unfold lkL
  rw [List.getElem?_zipWith, Zf (by omega), Zf (by omega)]
 have g2 := Z8 (a := lkL n s a) (i := k) (by rw [Zc9 h]; exact hk)
 rw [g1] at g2
 have e1 : co a k = a[k]'(by omega) := by
  have := Z8 (a := a) (i := k) (by omega)
  rw [Zf (by omega)] at this
  exact (Option.some.inj this).symm
 have e2 : co a ((k + s) % n) = (a.drop s ++ a.take s)[k]'(by omega) := by
  have hm : (k + s) % n < a.length := by rw [h]; exact Nat.mod_lt _ (by omega)
  have := Z8 (a := a) hm
  rw [Zf hm] at this
  rw [← Option.some.inj this]
  by_cases hc : k < n - s
  ·have q : (k + s) % n = k + s := Nat.mod_eq_of_lt (by omega)
   rw [List.getElem_append_left (by rw [List.length_drop]; omega), List.getElem_drop]
   congr 1
   omega
  ·have q : (k + s) % n = k + s - n := by
    rw [Nat.mod_eq_sub_mod (by omega), Nat.mod_eq_of_lt (by omega)]
   rw [List.getElem_append_right (by rw [List.length_drop]; omega), List.getElem_take]
   congr 1
   rw [List.length_drop]
   omega
 rw [e1, e2]
 exact (Option.some.inj g2).symm
def ZjE (n : Nat) (ss : List Nat) (a : List Int) : List Int := ss.foldl (fun a s => lkL n (n - s) a) a
theorem Zdp {n : Nat} : ∀ (ss : List Nat) (a : List Int), a.length = n → ∀ k, k < n → co (ZjE n ss a) k = J7 n ss (co a) k
 | [], a, h, k, hk => rfl
 | s :: ss, a, h, k, hk => by
  show co (ZjE n ss (lkL n (n - s) a)) k = J7 n ss (lk n s (co a)) k
  rw [Zdp ss _ (Zc9 h) k hk]
  exact YJ n (by omega) ss _ _ (fun t ht => Zj3 h (Nat.sub_le _ _) ht) k hk
def ZU : Nat → (Nat → Int) → Int
 | 0, _ => 0
 | n + 1, f => f 0 + ZU n fun t => f (t + 1)
theorem Yq : ∀ (n : Nat) (f g : Nat → Int), (∀ t, t < n → f t = g t) → ZU n f = ZU n g
 | 0, f, g, h => rfl
 | n + 1, f, g, h => by rw [ZU, ZU, h 0 (Nat.succ_pos _), Yq n _ _ fun t ht => h (t + 1) (Nat.succ_lt_succ ht)]
theorem Jr : ∀ (n : Nat) (f : Nat → Int), (∀ t, t < n → f t = 0) → ZU n f = 0
 | 0, f, h => rfl
 | n + 1, f, h => by rw [ZU, h 0 (Nat.succ_pos _), Jr n _ fun t ht => h (t + 1) (Nat.succ_lt_succ ht), Int.add_zero]
theorem JS : ∀ (n j : Nat) (f : Nat → Int), j < n → (∀ t, t < n → t ≠ j → f t = 0) → ZU n f = f j
 | 0, j, f, hj, h => absurd hj (Nat.not_lt_zero _)
 | n + 1, 0, f, hj, h => by rw [ZU, Jr n _ fun t ht => h (t + 1) (Nat.succ_lt_succ ht) (Nat.succ_ne_zero _), Int.add_zero]
 | n + 1, j + 1, f, hj, h => by
  rw [ZU, h 0 (Nat.succ_pos _) (Nat.succ_ne_zero _).symm, Int.zero_add]
  exact JS n j (fun t => f (t + 1)) (Nat.lt_of_succ_lt_succ hj) fun t ht hne => h (t + 1) (Nat.succ_lt_succ ht) fun z => hne (Nat.succ.inj z)
theorem ZaA : ∀ (n : Nat) (f g : Nat → Int), ZU n (fun t => f t - g t) = ZU n f - ZU n g
 | 0, f, g => rfl
 | n + 1, f, g => by
  rw [ZU, ZU, ZU, ZaA n (fun t => f (t + 1)) fun t => g (t + 1)]
  omega
theorem XU (j : Nat) : ∀ (R : List (List Int)) (a : List Int), co (Wj a R) j = ZU R.length fun t => co a t * co (ro R t) j
 | [], a => by rw [Wj, Ym]; rfl
 | r :: rs, a => by
  rw [ZG, XU j rs a.tail, Zi, ZU, UZ]
  congr 1
  refine Yq _ _ _ fun t ht => ?_
  rw [ZhX, U0]
def Yj (n k : Nat) : List Int := (List.range n).map fun t => if t = k then 1 else 0
theorem WX {n k t : Nat} (h : t < n) : co (Yj n k) t = if t = k then 1 else 0 := by
 unfold Yj co
 rw [Zb, Zc, List.getElem?_range h]
 rfl
def UO (step : Nat) : List Int → Nat → List Int → List Int
 | [], _, acc => acc
 | x :: xs, k, acc => UO step xs (k + 1) (acc.set (k * step) x)
def stM (ps : List Int) (step : Nat) : List Int := UO step ps 0 (List.replicate ((ps.length - 1) * step + 1) 0)
theorem UN (step : Nat) : ∀ (ps : List Int) (k : Nat) (acc : List Int), (UO step ps k acc).length = acc.length
 | [], k, acc => rfl
 | x :: xs, k, acc => by rw [UO, UN step xs, List.length_set]
theorem UP (ps : List Int) (step : Nat) : (stM ps step).length = (ps.length - 1) * step + 1 := by unfold stM; rw [UN, Ze]
def VT : List Int → Nat → Int → List Int → List Int
 | [], _, _, rest => rest
 | d :: ds, b, c, rest => VT ds (b + 1) c (rest.set b (co rest b - c * d))
theorem Zc0 : ∀ (ds : List Int) (b : Nat) (c : Int) (rest : List Int), (VT ds b c rest).length = rest.length
 | [], b, c, rest => rfl
 | d :: ds, b, c, rest => by rw [VT, Zc0 ds, List.length_set]
def Zfl (ds : List Int) (top : Nat) : Nat → List Int → List Int → List Int
 | 0, found, _ => found
 | k + 1, found, rest => Zfl ds top k (found.set k (co rest (k + top))) (VT ds k (co rest (k + top)) rest)
def ZcY (ps ds : List Int) : List Int := Zfl ds (ds.length - 1) (ps.length - (ds.length - 1)) (List.replicate (ps.length - (ds.length - 1)) 0) ps
theorem Zak {a : List Int} {i k : Nat} {v : Int} : co (a.set i v) k = if i = k ∧ i < a.length then v else co a k := by
 unfold co
 rw [Zb, List.getElem?_set, Zb]
 by_cases h : i = k
 ·subst h
  by_cases hl : i < a.length
  ·rw [if_pos rfl, if_pos hl, if_pos ⟨rfl, hl⟩]; rfl
  ·rw [if_pos rfl, if_neg hl, if_neg fun z => hl z.2, List.getElem?_eq_none (by omega)]
 ·rw [if_neg h, if_neg fun z => h z.1]
theorem ZbY (c : Int) : ∀ (ds : List Int) (b : Nat) (rest : List Int) (i : Nat), b + ds.length ≤ rest.length → co (VT ds b c rest) i = if b ≤ i ∧ i < b + ds.length then co rest i - c * co ds (i - b) else co rest i
 | [], b, rest, i, h => by rw [VT, if_neg (by rw [List.length_nil]; omega)]
 | d :: ds, b, rest, i, h => by
  rw [Zi] at h ⊢
  rw [VT, ZbY c ds (b + 1) _ i (by rw [List.length_set]; omega), Zak]
  by_cases h1 : i = b
  ·subst h1
   rw [if_neg (by omega), if_pos ⟨rfl, by omega⟩, if_pos ⟨Nat.le_refl _, by omega⟩, Nat.sub_self, Ye]
  ·rw [if_neg (show ¬ (b = i ∧ b < rest.length) from fun z => h1 z.1.symm)]
   by_cases h2 : b + 1 ≤ i ∧ i < b + 1 + ds.length
   ·rw [if_pos h2, if_pos ⟨by omega, by omega⟩, show i - b = (i - (b + 1)) + 1 by omega, YF]
   ·rw [if_neg h2, if_neg (by omega)]
theorem ZfY (d : Int) (ds : List Int) (R : List (List Int)) (b j : Nat) : co (Wj (d :: ds) (R.drop b)) j = d * co (ro R b) j + co (Wj ds (R.drop (b + 1))) j := by
 by_cases h : b < R.length
 ·rw [List.drop_eq_getElem_cons h, ZG, Ye, List.tail_cons]
  congr 2
  unfold ro
  rw [Zb, Zf h]
  rfl
 ·rw [List.drop_eq_nil_of_le (by omega), List.drop_eq_nil_of_le (by omega)]
  unfold ro
  rw [Zb, List.getElem?_eq_none (by omega)]
  show co (Wj (d :: ds) []) j = d * co [] j + co (Wj ds []) j
  rw [Wj, Wj, Ym, Int.mul_zero, Int.add_zero]
theorem Zda (c : Int) (R : List (List Int)) (j : Nat) : ∀ (ds : List Int) (b : Nat) (rest : List Int), b + ds.length ≤ rest.length → co (Wj (VT ds b c rest) R) j = co (Wj rest R) j - c * co (Wj ds (R.drop b)) j
 | [], b, rest, h => by rw [VT, J8, Int.mul_zero, Int.sub_zero]
 | d :: ds, b, rest, h => by
  rw [Zi] at h
  rw [VT, Zda c R j ds (b + 1) _ (by rw [List.length_set]; omega), Zaa j _ rest b R (by omega), ZfY, Int.mul_add]
  have e : (co rest b - c * d - co rest b) * co (ro R b) j = - (c * (d * co (ro R b) j)) := by
   rw [show co rest b - c * d - co rest b = -(c * d) by omega, Int.neg_mul, Int.mul_assoc]
  rw [e]
  omega
def JJ (s : List Int × Int) (p : Int) : List Int × Int := (ZcY (stM s.1 p.toNat) s.1, s.2 * p)
def WE (n : Nat) (ps : List Int) : List Int := stM (ps.foldl JJ ([-1, 1], 1)).1 ((n : Int) / (ps.foldl JJ ([-1, 1], 1)).2).toNat
def small (a : List Int) : Bool := a.all fun x => decide (x.natAbs ≤ 100)
def ZhG (s : List Int × Int) : Bool := small s.1 && decide (2 ≤ s.1.length) && decide (s.1.length ≤ 61) && decide (1 ≤ s.2) && decide (s.2 ≤ 60)
def J6 (s : List Int × Int) : List Int → Bool
 | [] => ZhG s
 | p :: ps => ZhG s && decide (2 ≤ p) && decide (p ≤ 60) && J6 (JJ s p) ps
def Wy (least : List Int) (top : Nat) (r : List Int) : List Int := XM (0 :: r.take (top - 1)) (vsc (- co r (top - 1)) (least.take top))
def rows (least : List Int) (top : Nat) : Nat → List Int → List (List Int)
 | 0, _ => []
 | m + 1, r => r :: rows least top m (Wy least top r)
def RT (n : Nat) (ps : List Int) : List (List Int) := rows (WE n ps) ((WE n ps).length - 1) n (Yj ((WE n ps).length - 1) 0)
def Zh3 (a : List Int) : Bool := a.all fun x => x == 0
def steps (n : Nat) (ps : List Int) : List Nat := ps.map fun p => n / p.toNat
def ZeA (n : Nat) (R : List (List Int)) (k : Nat) : List Int := XM (List.replicate n 0) (XM (ro R k) (vsc (-1) (Yj n k)))
def JR (n : Nat) (R : List (List Int)) (at_ s : Nat) : Nat → List Int
 | 0 => []
 | m + 1 => XM (JR n R at_ s m) (ro R ((at_ + m * s) % n))
theorem Zam {a : List Int} (h : Zh3 a = true) (i : Nat) : co a i = 0 := by
 by_cases hi : i < a.length
 ·have := Z8 hi
  have hm := List.all_eq_true.mp h _ (List.mem_of_getElem? this)
  simpa using hm
 ·exact YK (by omega)
theorem VJ {a : List Int} (h : small a = true) (i : Nat) : (co a i).natAbs ≤ 100 := by
 by_cases hi : i < a.length
 ·have := Z8 hi
  have hm := List.all_eq_true.mp h _ (List.mem_of_getElem? this)
  simpa using hm
 ·rw [YK (by omega)]; decide
structure Good (n : Nat) (ps least : List Int) (top : Nat) (R : List (List Int)) : Prop where
 n1 : 1 ≤ n
 ls : J6 ([-1, 1], 1) ps = true
 l2 : least.length = top + 1
 t1 : 1 ≤ top
 tn : top ≤ n
 sm : small least = true
 mon : co least top = 1
 len : R.length = n
 rsm : ∀ i j, (co (ro R i) j).natAbs ≤ 100
 rlen : ∀ i, i < n → (ro R i).length = top
 un : ∀ k, k < top → ro R k = Yj top k
 tails : ∀ m, m < n - top → ∀ j, co (Wj least (R.drop m)) j = 0
 look : ∀ k, k < n → ∀ t, t < n → J7 n (steps n ps) (fun t => co (ro R k) t - if t = k then 1 else 0) t = 0
 row : ∀ p ∈ ps, ∀ a, a < n → ∀ j, co (JR n R a (n / p.toNat) p.toNat) j = 0
 nz : ∀ k, k < n → ∃ j, j < top ∧ co (ro R k) j ≠ 0
 div : ∀ p ∈ ps, p.toNat * (n / p.toNat) = n
theorem ZkY {R : List (List Int)} {i : Nat} (h : R.length ≤ i) : ro R i = [] := by
 unfold ro
 rw [Zb, List.getElem?_eq_none h]
 rfl
def Zlu {β : Type} (x : Int) (k : Int → β) : β := match x with
 | .ofNat m => (match m with
  | 0 => k (.ofNat 0)
  | m + 1 => k (.ofNat (m + 1)))
 | .negSucc m => (match m with
  | 0 => k (.negSucc 0)
  | m + 1 => k (.negSucc (m + 1)))
theorem ZhS {β : Type} (x : Int) (k : Int → β) : Zlu x k = k x := by
 cases x with
 | ofNat m => cases m <;> rfl
 | negSucc m => cases m <;> rfl
def fL {β : Type} : List Int → (List Int → β) → β
 | [], k => k []
 | x :: xs, k => Zlu x fun y => fL xs fun ys => k (y :: ys)
theorem Zbn {β : Type} : ∀ (a : List Int) (k : List Int → β), fL a k = k a
 | [], k => rfl
 | x :: xs, k => by rw [fL, ZhS, Zbn xs]
def nx (least : List Int) (top : Nat) : Nat → List Int → List Int
 | 0, r => r
 | m + 1, r => nx least top m (Wy least top r)
def nxB (least : List Int) (top : Nat) : Nat → List Int → (List Int → Bool) → Bool
 | 0, r, k => k r
 | m + 1, r, k => fL (Wy least top r) fun r' => nxB least top m r' k
theorem ZfP (least : List Int) (top : Nat) : ∀ (m : Nat) (r : List Int) (k : List Int → Bool), nxB least top m r k = k (nx least top m r)
 | 0, r, k => rfl
 | m + 1, r, k => by rw [nxB, Zbn, ZfP least top m, nx]
def ZcU (least : List Int) (top : Nat) : Nat → Nat → List Int → Bool
 | 0, _, r => decide (r = Yj top 0)
 | m + 1, k, r => small r && decide (r.length = top) && (decide (top ≤ k) || decide (r = Yj top k)) && fL (Wy least top r) (ZcU least top m (k + 1))
def ZgO (least : List Int) (top s : Nat) : Nat → List Int → List Int → Bool
 | 0, _, acc => Zh3 acc
 | j + 1, r, acc => fL (XM acc r) fun acc' => nxB least top s r fun r' => ZgO least top s j r' acc'
def ZlK (n : Nat) (ps : List Int) (least : List Int) (top : Nat) : Bool :=
 decide (2 ≤ least.length) && decide (top + 1 ≤ n ∨ (n = 1 ∧ top = 1)) && small least && decide (co least top = 1) && ZcU least top n 0 (Yj top 0) && Zh3 (Wj least (rows least top (top + 1) (Yj top 0))) &&
  (decide (n = 1) || Zh3 (ZjE n (steps n ps) (least ++ List.replicate (n - (top + 1)) 0))) && ps.all (fun p => decide (p.toNat * (n / p.toNat) = n) && ZgO least top (n / p.toNat) p.toNat (Yj top 0) [])
def chk (n : Nat) (ps : List Int) : Bool := J6 ([-1, 1], 1) ps && fL (WE n ps) fun least => ZlK n ps least (least.length - 1)
theorem Vh (least : List Int) (top : Nat) : ∀ (m : Nat) (r : List Int), (rows least top m r).length = m
 | 0, r => rfl
 | m + 1, r => by rw [rows, Zi, Vh least top m]
theorem WT (least : List Int) (top : Nat) : ∀ (m : Nat) (r : List Int), nx least top (m + 1) r = Wy least top (nx least top m r)
 | 0, r => rfl
 | m + 1, r => by rw [nx, WT least top m (Wy least top r), nx]
theorem ZfN (least : List Int) (top a : Nat) : ∀ (b : Nat) (r : List Int), nx least top (a + b) r = nx least top b (nx least top a r)
 | 0, r => rfl
 | b + 1, r => by rw [Nat.add_succ, WT, WT, ZfN least top a b r]
theorem ZcV (least : List Int) (top : Nat) : ∀ (m : Nat) (r : List Int) (k : Nat), k < m → ro (rows least top m r) k = nx least top k r
 | 0, r, k, h => absurd h (Nat.not_lt_zero _)
 | m + 1, r, 0, h => by rw [rows, UZ, nx]
 | m + 1, r, k + 1, h => by rw [rows, U0, ZcV least top m _ k (Nat.lt_of_succ_lt_succ h), nx]
theorem ZaP (least : List Int) (top : Nat) : ∀ (m k : Nat) (r : List Int), ZcU least top m k r = true →
  nx least top m r = Yj top 0 ∧ ∀ i, i < m → small (nx least top i r) = true ∧ (nx least top i r).length = top ∧ (k + i < top → nx least top i r = Yj top (k + i))
 | 0, k, r, h => ⟨of_decide_eq_true h, fun i hi => absurd hi (Nat.not_lt_zero _)⟩
 | m + 1, k, r, h => by
  rw [ZcU, Zbn] at h
  simp only [Bool.and_eq_true, decide_eq_true_eq, Bool.or_eq_true] at h
  obtain ⟨⟨⟨h1, h2⟩, h3⟩, h4⟩ := h
  obtain ⟨g1, g2⟩ := ZaP least top m (k + 1) _ h4
  refine ⟨by rw [nx]; exact g1, fun i hi => ?_⟩
  cases i with
  | zero =>
   refine ⟨h1, h2, fun z => ?_⟩
   rcases h3 with h3 | h3
   ·omega
   ·exact h3
  | succ i =>
   obtain ⟨q1, q2, q3⟩ := g2 i (Nat.lt_of_succ_lt_succ hi)
   rw [nx]
   exact ⟨q1, q2, fun z => by rw [q3 (by omega)]; congr 1; omega⟩
theorem Jx (least : List Int) (top : Nat) (r : List Int) (i : Nat) : co (Wy least top r) i = (if i = 0 ∨ top ≤ i then 0 else co r (i - 1)) - co r (top - 1) * co (least.take top) i := by
 have e : co (0 :: r.take (top - 1)) i = if i = 0 ∨ top ≤ i then 0 else co r (i - 1) := by
  cases i with
  | zero => rw [Ye, if_pos (.inl rfl)]
  | succ i =>
   rw [YF, Nat.add_sub_cancel]
   by_cases h : i < top - 1
   ·rw [if_neg (by omega)]
    unfold co
    rw [Zb, Zb, List.getElem?_take, if_pos h]
   ·rw [if_pos (by omega)]
    exact YK (by rw [List.length_take]; omega)
 unfold Wy
 rw [Wl, VH, e, Int.neg_mul]
 omega
theorem Xr (least : List Int) (top : Nat) {r : List Int} (h : ∀ i, co r i = 0) (i : Nat) : co (Wy least top r) i = 0 := by
 rw [Jx, h, h, Int.zero_mul]
 split <;> rfl
theorem Za5 (least : List Int) (top : Nat) (i : Nat) : ∀ (Q : List (List Int)) (a : List Int), co (Wy least top (Wj a Q)) i = co (Wj a (Q.map (Wy least top))) i
 | [], a => by
  rw [List.map_nil]
  refine (Xr least top (fun t => ?_) i).trans ?_
  ·rw [Wj]; exact Ym t
  ·rw [Wj]; exact (Ym i).symm
 | q :: qs, a => by
  rw [List.map_cons, ZG, ← Za5 least top i qs a.tail, Jx, Jx, Jx, ZG, ZG]
  by_cases h : i = 0 ∨ top ≤ i
  ·rw [if_pos h, if_pos h, if_pos h, Int.add_mul, Int.mul_sub, Int.mul_assoc]
   omega
  ·rw [if_neg h, if_neg h, if_neg h, Int.add_mul, Int.mul_sub, Int.mul_assoc]
   omega
theorem ZaO (least : List Int) (top : Nat) : ∀ (m : Nat) (r : List Int), (rows least top m r).map (Wy least top) = rows least top m (Wy least top r)
 | 0, r => rfl
 | m + 1, r => by rw [rows, List.map_cons, ZaO least top m, rows]
theorem Zbc (least : List Int) (top j : Nat) : ∀ (a : List Int) (m : Nat) (r : List Int), a.length ≤ m → co (Wj a (rows least top m r)) j = co (Wj a (rows least top a.length r)) j
 | [], m, r, h => by rw [J8, J8]
 | x :: a, 0, r, h => absurd h (Nat.not_succ_le_zero _)
 | x :: a, m + 1, r, h => by
  rw [Zi, rows, rows, ZG, ZG, List.tail_cons, Zbc least top j a m _ (Nat.le_of_succ_le_succ h)]
theorem Ux (least : List Int) (top : Nat) : ∀ (b m : Nat) (r : List Int), (rows least top m r).drop b = rows least top (m - b) (nx least top b r)
 | 0, m, r => by rw [List.drop_zero, Nat.sub_zero, nx]
 | b + 1, 0, r => by rw [Nat.zero_sub, rows, rows, List.drop_nil]
 | b + 1, m + 1, r => by rw [rows, List.drop_succ_cons, Ux least top b m, nx, Nat.add_sub_add_right]
theorem Zax (least : List Int) (top : Nat) {r : List Int} (h : ∀ j, co (Wj least (rows least top least.length r)) j = 0) : ∀ (m j : Nat), co (Wj least (rows least top least.length (nx least top m r))) j = 0
 | 0, j => h j
 | m + 1, j => by
  rw [WT, ← ZaO, ← Za5]
  exact Xr least top (fun i => Zax least top h m i) j
theorem Zct (least : List Int) (top s : Nat) : ∀ (j : Nat) (r acc : List Int), ZgO least top s j r acc = true → ∀ i, co acc i + ZU j (fun t => co (nx least top (t * s) r) i) = 0
 | 0, r, acc, h, i => by rw [ZU, Int.add_zero]; exact Zam h i
 | j + 1, r, acc, h, i => by
  rw [ZgO, Zbn, ZfP] at h
  have := Zct least top s j _ _ h i
  rw [Wl] at this
  rw [ZU, Nat.zero_mul, nx]
  have e : (ZU j fun t => co (nx least top ((t + 1) * s) r) i) = ZU j fun t => co (nx least top (t * s) (nx least top s r)) i := by
   refine Yq _ _ _ fun t _ => ?_
   rw [← ZfN, Nat.succ_mul, Nat.add_comm]
  rw [e]
  omega
theorem VI (n : Nat) (R : List (List Int)) (a s i : Nat) : ∀ m : Nat, co (JR n R a s m) i = ZU m fun t => co (ro R ((a + t * s) % n)) i
 | 0 => by rw [JR, Ym]; rfl
 | m + 1 => by
  have fb : ∀ (m : Nat) (f : Nat → Int), ZU (m + 1) f = ZU m f + f m := by
   intro m
   induction m with
   | zero => intro f; rw [ZU, ZU, ZU]; omega
   | succ m ih =>
    intro f
    rw [ZU, ih, ZU]
    omega
  rw [JR, Wl, VI n R a s i m, fb]
theorem ZjF (n s : Nat) (hn : 0 < n) (g : Nat → Int) (t : Nat) : lk n s (fun t => g ((t + (n - 1)) % n)) t = lk n s g ((t + (n - 1)) % n) := by
 unfold lk
 have e : ((t + (n - s)) % n + (n - 1)) % n = ((t + (n - 1)) % n + (n - s)) % n := by
  rw [Nat.mod_add_mod, Nat.mod_add_mod]
  congr 1
  omega
 show g ((t + (n - 1)) % n) - g (((t + (n - s)) % n + (n - 1)) % n) = _
 rw [e]
theorem Zc7 (n : Nat) (hn : 0 < n) : ∀ (ss : List Nat) (g : Nat → Int) (t : Nat), J7 n ss (fun t => g ((t + (n - 1)) % n)) t = J7 n ss g ((t + (n - 1)) % n)
 | [], g, t => rfl
 | s :: ss, g, t => by
  show J7 n ss (lk n s fun t => g ((t + (n - 1)) % n)) t = J7 n ss (lk n s g) ((t + (n - 1)) % n)
  rw [← Zc7 n hn ss (lk n s g) t]
  congr 1
  funext u
  exact ZjF n s hn g u
theorem ZhN {n : Nat} {ps : List Int} (n1 : 1 ≤ n) (h : chk n ps = true) : Good n ps (WE n ps) ((WE n ps).length - 1) (RT n ps) := by
 unfold chk at h
 rw [Bool.and_eq_true, Zbn] at h
 obtain ⟨a1, h⟩ := h
 unfold RT
 generalize WE n ps = least at h ⊢
 generalize ht : least.length - 1 = top at h ⊢
 unfold ZlK at h
 simp only [Bool.and_eq_true, Bool.or_eq_true, decide_eq_true_eq, List.all_eq_true] at h
 obtain ⟨⟨⟨⟨⟨⟨⟨h1, h2⟩, h3⟩, h4⟩, h5⟩, h6⟩, h7⟩, h8⟩ := h
 have ll : least.length = top + 1 := by omega
 obtain ⟨per, rr⟩ := ZaP least top n 0 _ h5
 have hro : ∀ k, k < n → ro (rows least top n (Yj top 0)) k = nx least top k (Yj top 0) := fun k hk => ZcV least top n _ k hk
 have tl : ∀ m j, co (Wj least (rows least top least.length (nx least top m (Yj top 0)))) j = 0 := fun m j => Zax least top (fun j => by rw [ll]; exact Zam h6 j) m j
 have t1 : 1 ≤ top := by omega
 have tn : top ≤ n := by omega
 have u0 : ∀ i, co (Yj top 0) i = if i = 0 then 1 else 0 := fun i => by
  by_cases hi : i < top
  ·exact WX hi
  ·rw [YK (by unfold Yj; rw [Za, Zg]; omega), if_neg (by omega)]
 have nxt : ∀ k, nx least top ((k + 1) % n) (Yj top 0) = Wy least top (nx least top (k % n) (Yj top 0)) := fun k => by
  rw [← WT]
  have hk := Nat.mod_lt k (show n > 0 by omega)
  by_cases hc : k % n + 1 < n
  ·rw [← Nat.mod_add_mod, Nat.mod_eq_of_lt hc]
  ·have e : k % n + 1 = n := by omega
   rw [← Nat.mod_add_mod, e, Nat.mod_self, per, nx]
 refine ⟨n1, a1, ll, t1, tn, h3, h4, Vh .., fun i j => ?_, fun i hi => by rw [hro i hi]; exact (rr i hi).2.1, fun k hk => ?_, fun m hm j => ?_, ?_, fun p hp a ha j => ?_, fun k hk => ?_, fun p hp => (h8 p hp).1⟩
 ·by_cases hi : i < n
  ·rw [hro i hi]
   exact VJ (rr i hi).1 j
  ·rw [ZkY (by rw [Vh]; omega), Ym]; decide
 ·rw [hro k (by omega)]
  have := (rr k (by omega)).2.2 (by omega)
  rw [this, Nat.zero_add]
 ·rw [Ux, Zbc least top j least _ _ (by omega)]
  exact tl m j
 ·
  have base : ∀ t, t < n → top + 1 ≤ n → J7 n (steps n ps) (co least) t = 0 := fun t ht h2 => by
   have h7 := h7.resolve_left (by omega)
   have e := Zdp (n := n) (steps n ps) (least ++ List.replicate (n - (top + 1)) 0) (by rw [Zd, Ze]; omega) t ht
   rw [Zam h7 t] at e
   refine Eq.trans (YJ n (by omega) _ _ _ (fun s hs => ?_) t ht) e.symm
   unfold co
   rw [Zb, Zb, List.getElem?_append]
   by_cases hs' : s < least.length
   ·rw [if_pos hs']
   ·rw [if_neg hs', List.getElem?_eq_none (by omega), List.getElem?_replicate]
    split <;> rfl
  intro k
  induction k with
  | zero =>
   intro hk t ht
   refine Eq.trans (YJ n (by omega) _ _ (fun _ => 0) (fun s hs => ?_) t ht) (Vt n _ t)
   rw [hro 0 hk, nx, u0]
   split <;> rfl
  | succ k ih =>
   intro hk t ht
   have h2' : top + 1 ≤ n := by omega
   have ihk := ih (by omega)
   have hl : (nx least top k (Yj top 0)).length = top := (rr k (by omega)).2.1
   have e : ∀ s, s < n → co (ro (rows least top n (Yj top 0)) (k + 1)) s - (if s = k + 1 then 1 else 0) =
     (fun s => (fun t => co (ro (rows least top n (Yj top 0)) k) t - if t = k then 1 else 0) ((s + (n - 1)) % n)) s + (- co (nx least top k (Yj top 0)) (top - 1)) * co least s := fun s hs => by
    rw [hro (k + 1) hk, hro k (by omega), WT, Jx]
    have ct : co (least.take top) s = if s < top then co least s else 0 := by
     by_cases h : s < top
     ·rw [if_pos h]
      unfold co
      rw [Zb, Zb, List.getElem?_take, if_pos h]
     ·rw [if_neg h]
      exact YK (by rw [List.length_take]; omega)
    rw [ct]
    show _ = co (nx least top k (Yj top 0)) ((s + (n - 1)) % n) - (if (s + (n - 1)) % n = k then 1 else 0) + (- co (nx least top k (Yj top 0)) (top - 1)) * co least s
    cases s with
    | zero =>
     have e0 : (0 + (n - 1)) % n = n - 1 := by rw [Nat.zero_add]; exact Nat.mod_eq_of_lt (by omega)
     have c1 : ¬ (0 = k + 1) := by omega
     have c2 : ¬ (n - 1 = k) := by omega
     have c3 : 0 < top := t1
     rw [e0, if_pos (.inl rfl), if_pos c3, if_neg c1, if_neg c2, YK (a := nx least top k (Yj top 0)) (i := n - 1) (by omega), Int.neg_mul]
     omega
    | succ s =>
     have e1 : (s + 1 + (n - 1)) % n = s := by
      rw [show s + 1 + (n - 1) = s + n by omega, Nat.add_mod_right, Nat.mod_eq_of_lt (by omega)]
     rw [e1, Nat.add_sub_cancel]
     have ei : (if s + 1 = k + 1 then (1 : Int) else 0) = if s = k then 1 else 0 := by
      by_cases z : s = k
      ·rw [if_pos z, if_pos (by omega)]
      ·rw [if_neg z, if_neg (by omega)]
     rw [ei, Int.neg_mul]
     by_cases c1 : s + 1 < top
     ·rw [if_neg (by omega), if_pos c1]
      omega
     ·rw [if_pos (.inr (by omega)), if_neg c1, Int.mul_zero]
      by_cases c2 : s + 1 = top
      ·have : co least (s + 1) = 1 := by rw [c2]; exact h4
       rw [this, show top - 1 = s by omega, Int.mul_one]
       omega
      ·rw [YK (a := least) (by omega), YK (a := nx least top k (Yj top 0)) (i := s) (by omega), Int.mul_zero]
       omega
   rw [YJ n (by omega) _ _ _ e t ht, U9 n _ (fun s => (fun t => co (ro (rows least top n (Yj top 0)) k) t - if t = k then 1 else 0) ((s + (n - 1)) % n)) (fun s => (- co (nx least top k (Yj top 0)) (top - 1)) * co least s) t, Zc7 n (by omega) _ (fun t => co (ro (rows least top n (Yj top 0)) k) t - if t = k then 1 else 0) t, Zca, base t ht h2',
    ihk _ (Nat.mod_lt _ (by omega)), Int.mul_zero, Int.add_zero]
 ·
  rw [VI]
  have hb := Zct least top (n / p.toNat) p.toNat _ _ (h8 p hp).2
  have hd := (h8 p hp).1
  have gen : ∀ a, a < n → ∀ i, (ZU p.toNat fun t => co (nx least top ((a + t * (n / p.toNat)) % n) (Yj top 0)) i) = 0 := by
   intro a
   induction a with
   | zero =>
    intro _ i
    have := hb i
    rw [Ym, Int.zero_add] at this
    rw [← this]
    refine Yq _ _ _ fun t ht => ?_
    have : t * (n / p.toNat) < n := by
     have : t * (n / p.toNat) + (n / p.toNat) ≤ p.toNat * (n / p.toNat) := by
      rw [← Nat.succ_mul]
      exact Nat.mul_le_mul_right _ ht
     have hpos : 0 < n / p.toNat := by
      rcases Nat.eq_zero_or_pos (n / p.toNat) with z | z
      ·rw [z, Nat.mul_zero] at hd; omega
      ·exact z
     omega
    rw [Nat.zero_add, Nat.mod_eq_of_lt this]
   | succ a ih =>
    intro ha i
    have iha := ih (by omega)
    have e : (ZU p.toNat fun t => co (nx least top ((a + 1 + t * (n / p.toNat)) % n) (Yj top 0)) i) = ZU p.toNat fun t => co (Wy least top (nx least top ((a + t * (n / p.toNat)) % n) (Yj top 0))) i := by
     refine Yq _ _ _ fun t _ => ?_
     rw [show a + 1 + t * (n / p.toNat) = a + t * (n / p.toNat) + 1 by omega, nxt]
    have lin3 : ∀ (m : Nat) (f g : Nat → Int) (c : Int), ZU m (fun t => f t - g t * c) = ZU m f - ZU m g * c := by
     intro m
     induction m with
     | zero => intro f g c; simp [ZU]
     | succ m ih => intro f g c; rw [ZU, ZU, ZU, ih (fun t => f (t + 1)) (fun t => g (t + 1)) c, Int.add_mul]; omega
    rw [e]
    simp only [Jx]
    rw [lin3 _ (fun t => if i = 0 ∨ top ≤ i then 0 else co (nx least top ((a + t * (n / p.toNat)) % n) (Yj top 0)) (i - 1)) (fun t => co (nx least top ((a + t * (n / p.toNat)) % n) (Yj top 0)) (top - 1)), iha (top - 1), Int.zero_mul, Int.sub_zero]
    by_cases hc : i = 0 ∨ top ≤ i
    ·simp only [if_pos hc]
     exact Jr _ _ fun _ _ => rfl
    ·simp only [if_neg hc]
     exact iha (i - 1)
  rw [← gen a ha j]
  refine Yq _ _ _ fun t ht => ?_
  rw [hro _ (Nat.mod_lt _ (by omega))]
 ·
  apply Classical.byContradiction
  intro hz
  have z0 : ∀ j, co (nx least top k (Yj top 0)) j = 0 := fun j => by
   by_cases hj : j < top
   ·apply Classical.byContradiction
    intro hne
    exact hz ⟨j, hj, by rw [hro k hk]; exact hne⟩
   ·exact YK (by rw [(rr k hk).2.1]; omega)
  have all : ∀ d j, co (nx least top (k + d) (Yj top 0)) j = 0 := by
   intro d
   induction d with
   | zero => exact z0
   | succ d ih => intro j; rw [← Nat.add_assoc, WT]; exact Xr least top ih j
  have := all (n - k) 0
  rw [show k + (n - k) = n by omega, per, u0, if_pos rfl] at this
  cases this
def Y1 (n top : Nat) (R : List (List Int)) (ps : List Int) : List Int := (List.range top).map fun j => JG n R j ps 0
theorem Yg (n top : Nat) (R : List (List Int)) (ps : List Int) : (Y1 n top R ps).length = top := by unfold Y1; rw [Za, Zg]
theorem WY {n top : Nat} {R : List (List Int)} {ps : List Int} {j : Nat} (h : j < top) : co (Y1 n top R ps) j = JG n R j ps 0 := by
 unfold Y1 co
 rw [Zb, Zc, List.getElem?_range h]
 rfl
theorem Xv {a b : List Int} (h : a.length = b.length) (e : ∀ j, j < a.length → co a j = co b j) : a = b := by
 refine List.ext_getElem? fun i => ?_
 by_cases hi : i < a.length
 ·rw [Z8 hi, Z8 (by omega), e i hi]
 ·rw [List.getElem?_eq_none (by omega), List.getElem?_eq_none (by omega)]
section
variable {n : Nat} {ps least : List Int} {top : Nat} {R : List (List Int)} (G : Good n ps least top R)
include G
theorem Zfj {cur : List Int} {k : Nat} (hl : cur.length = n) (hk : k < n) (ht : top ≤ k) : (VT least (k - top) (co cur k) cur).length = n ∧ (∀ j, co (Wj (VT least (k - top) (co cur k) cur) R) j = co (Wj cur R) j) ∧
  co (VT least (k - top) (co cur k) cur) k = 0 ∧ ∀ t, k < t → co (VT least (k - top) (co cur k) cur) t = co cur t := by
 have hb : k - top + least.length ≤ cur.length := by rw [G.l2, hl]; omega
 have ll := G.l2
 refine ⟨by rw [Zc0, hl], fun j => ?_, ?_, fun t h1 => ?_⟩
 ·rw [Zda _ _ _ _ _ _ hb, G.tails (k - top) (by omega) j, Int.mul_zero, Int.sub_zero]
 ·rw [ZbY _ _ _ _ _ hb, if_pos ⟨by omega, by omega⟩, show k - (k - top) = top by omega, G.mon, Int.mul_one, Int.sub_self]
 ·rw [ZbY _ _ _ _ _ hb, if_neg (by omega)]
theorem Zg1 {cur f : List Int} (hl : cur.length = n) (hz : ∀ t, top ≤ t → co cur t = 0) (hP : ∀ j, co (Wj cur R) j = co (Wj f R) j) (qs : List Int) (hf : f = Wf n qs) : cur.take top = Y1 n top R qs := by
 have hlen : (cur.take top).length = top := by rw [List.length_take, hl]; have := G.tn; omega
 refine Xv (by rw [hlen, Yg]) fun j hj => ?_
 rw [hlen] at hj
 have hn0 : 0 < n := G.n1
 rw [WY hj, ← Up n hn0, ← hf, ← hP j, XU]
 have hjn : j < n := Nat.lt_of_lt_of_le hj G.tn
 rw [JS _ j _ (by rw [G.len]; exact hjn) fun t ht hne => ?_]
 ·rw [G.un j hj, WX hj, if_pos rfl, Int.mul_one]
  unfold co
  rw [Zb, Zb, List.getElem?_take, if_pos hj]
 ·by_cases h : t < top
  ·rw [G.un t h, WX hj, if_neg (Ne.symm hne), Int.mul_zero]
  ·rw [hz t (by omega), Int.zero_mul]
end
theorem XG (n : Nat) : ∀ (xs : List Int) (k : Nat) (acc : List Int), acc.length = n → k + xs.length ≤ n → (∀ t, k ≤ t → co acc t = 0) → ∀ t, co (Jh n xs k acc) t = if t < k then co acc t else co xs (t - k)
 | [], k, acc, hl, hk, hz, t => by
  rw [Jh, Ym]
  split
  ·rfl
  ·exact hz t (by omega)
 | x :: xs, k, acc, hl, hk, hz, t => by
  rw [Zi] at hk
  have e : k % n = k := Nat.mod_eq_of_lt (by omega)
  rw [Jh, e, hz k (Nat.le_refl _), Int.zero_add, XG n xs (k + 1) _ (by rw [List.length_set, hl]) (by omega) (fun s hs => by rw [Zak, if_neg (by omega)]; exact hz s (by omega)) t, Zak]
  by_cases h1 : t = k
  ·subst h1
   rw [if_pos (Nat.lt_succ_self _), if_pos ⟨rfl, by omega⟩, if_neg (Nat.lt_irrefl _), Nat.sub_self, Ye]
  ·by_cases h2 : t < k
   ·rw [if_pos (by omega), if_neg (by omega), if_pos h2]
   ·rw [if_neg (by omega), if_neg h2, show t - k = (t - (k + 1)) + 1 by omega, YF]
theorem Ji {n : Nat} {xs : List Int} (h : xs.length ≤ n) (t : Nat) : co (Wf n xs) t = co xs t := by
 unfold Wf
 rw [XG n xs 0 _ (List.length_replicate ..) (by omega) (fun s _ => ?_) t, if_neg (Nat.not_lt_zero _), Nat.sub_zero]
 unfold co
 rw [Zb, List.getElem?_replicate]
 split <;> rfl
section
variable {n : Nat} {ps least : List Int} {top : Nat} {R : List (List Int)} (G : Good n ps least top R)
include G
theorem ZfX (qs : List Int) (k : Nat) (hk : k < n) : J7 n (steps n ps) (fun t => co (Wf n (Y1 n top R qs)) t - co (Wf n qs) t) k = 0 := by
 have hn0 : 0 < n := G.n1
 have e : ∀ t, t < n → co (Wf n (Y1 n top R qs)) t - co (Wf n qs) t = co (Wj (Wf n qs) ((List.range n).map (ZeA n R))) t := fun t ht => by
  rw [Ji (by rw [Yg]; exact G.tn), XU, Za, Zg]
  have e1 : co (Y1 n top R qs) t = ZU n fun s => co (Wf n qs) s * co (ro R s) t := by
   have := XU t R (Wf n qs)
   rw [G.len] at this
   rw [← this]
   by_cases h : t < top
   ·rw [WY h, Up n hn0]
   ·rw [YK (by rw [Yg]; omega), this]
    refine (Jr _ _ fun s hs => ?_).symm
    rw [YK (a := ro R s) (by rw [G.rlen s hs]; omega), Int.mul_zero]
  have e2 : co (Wf n qs) t = ZU n fun s => co (Wf n qs) s * (if t = s then 1 else 0) := by
   rw [JS n t _ ht fun s hs hne => by rw [if_neg (Ne.symm hne), Int.mul_zero], if_pos rfl, Int.mul_one]
  rw [e1]
  conv => lhs; rw [e2]
  rw [← ZaA]
  refine Yq _ _ _ fun s hs => ?_
  have er : ro ((List.range n).map (ZeA n R)) s = ZeA n R s := by
   unfold ro
   rw [Zb, Zc, List.getElem?_range hs]
   rfl
  have z : co (List.replicate n (0 : Int)) t = 0 := by
   unfold co
   rw [Zb, List.getElem?_replicate]
   split <;> rfl
  rw [er]
  unfold ZeA
  rw [Wl, Wl, VH, z, WX ht, ← Int.mul_sub]
  congr 1
  split <;> omega
 rw [YJ n hn0 _ _ _ e k hk]
 refine Zc8 n _ k _ _ fun r hr => ?_
 obtain ⟨s, hs, rfl⟩ := List.mem_map.mp hr
 have hs' := List.mem_range.mp hs
 rw [← G.look s hs' k hk]
 refine YJ n hn0 _ _ _ (fun t ht => ?_) k hk
 have z : co (List.replicate n (0 : Int)) t = 0 := by
  unfold co
  rw [Zb, List.getElem?_replicate]
  split <;> rfl
 unfold ZeA
 rw [Wl, Wl, VH, z, WX ht]
 omega
end
def Jd (x : Int) : List Int → Nat → List Int → List Int
 | [], _, acc => acc
 | y :: ys, k, acc => Jd x ys (k + 1) (acc.set k (co acc k + x * y))
def Jc (ys : List Int) : List Int → Nat → List Int → List Int
 | [], _, acc => acc
 | x :: xs, i, acc => Jc ys xs (i + 1) (if x = 0 then acc else Jd x ys i acc)
def ZdW (xs ys : List Int) : List Int := Jc ys xs 0 (List.replicate (xs.length + ys.length - 1) 0)
def Vk (n : Nat) (x : Int) : List Int → Nat → List Int → List Int
 | [], _, acc => acc
 | y :: ys, k, acc => Vk n x ys (k + 1) (acc.set (k % n) (co acc (k % n) + x * y))
def JC (n : Nat) (ys : List Int) : List Int → Nat → List Int → List Int
 | [], _, acc => acc
 | x :: xs, i, acc => JC n ys xs (i + 1) (Vk n x ys i acc)
def Za8 (n : Nat) (xs ys : List Int) : List Int := JC n ys xs 0 (List.replicate n 0)
theorem Um (x : Int) : ∀ (ys : List Int) (k : Nat) (acc : List Int), (Jd x ys k acc).length = acc.length
 | [], _, _ => rfl
 | _ :: ys, _, _ => by rw [Jd, Um x ys, List.length_set]
theorem Vj (n : Nat) (x : Int) : ∀ (ys : List Int) (k : Nat) (acc : List Int), (Vk n x ys k acc).length = acc.length
 | [], _, _ => rfl
 | _ :: ys, _, _ => by rw [Vk, Vj n x ys, List.length_set]
theorem Ue (n : Nat) (ys : List Int) : ∀ (xs : List Int) (k : Nat) (acc : List Int), (JC n ys xs k acc).length = acc.length
 | [], _, _ => rfl
 | x :: xs, _, _ => by rw [JC, Ue n ys xs, Vj]
def sIn (n : Nat) (R : List (List Int)) (j : Nat) (x : Int) : List Int → Nat → Int
 | [], _ => 0
 | y :: ys, k => x * y * co (ro R (k % n)) j + sIn n R j x ys (k + 1)
def ZbV (n : Nat) (R : List (List Int)) (j : Nat) (ys : List Int) : List Int → Nat → Int
 | [], _ => 0
 | x :: xs, i => sIn n R j x ys i + ZbV n R j ys xs (i + 1)
theorem ZaN (n : Nat) (R : List (List Int)) (j : Nat) : ∀ (ys : List Int) (k : Nat), sIn n R j 0 ys k = 0
 | [], _ => rfl
 | y :: ys, k => by rw [sIn, ZaN n R j ys, Int.zero_mul, Int.zero_mul]; rfl
theorem Ub (n : Nat) (R : List (List Int)) (j : Nat) (x : Int) : ∀ (ys : List Int) (k : Nat) (acc : List Int), k + ys.length ≤ acc.length → JG n R j (Jd x ys k acc) 0 = JG n R j acc 0 + sIn n R j x ys k
 | [], _, _, _ => by rw [Jd, sIn, Int.add_zero]
 | y :: ys, k, acc, h => by
  rw [Zi] at h
  rw [Jd, Ub n R j x ys (k + 1) _ (by rw [List.length_set]; omega), UT n R j (x * y) acc k 0 (by omega), sIn, Nat.zero_add, Int.add_assoc]
theorem JF (n : Nat) (R : List (List Int)) (j : Nat) (ys : List Int) : ∀ (xs : List Int) (i : Nat) (acc : List Int), i + xs.length + ys.length ≤ acc.length + 1 → JG n R j (Jc ys xs i acc) 0 = JG n R j acc 0 + ZbV n R j ys xs i
 | [], _, _, _ => by rw [Jc, ZbV, Int.add_zero]
 | x :: xs, i, acc, h => by
  rw [Zi] at h
  rw [Jc, ZbV]
  by_cases hx : x = 0
  ·rw [if_pos hx, JF n R j ys xs (i + 1) _ (by omega), hx, ZaN, Int.zero_add]
  ·rw [if_neg hx, JF n R j ys xs (i + 1) _ (by rw [Um]; omega), Ub n R j x ys i acc (by omega), Int.add_assoc]
theorem ZaI (n : Nat) (hn : 0 < n) (R : List (List Int)) (j : Nat) (x : Int) : ∀ (ys : List Int) (k : Nat) (acc : List Int), acc.length = n → JG n R j (Vk n x ys k acc) 0 = JG n R j acc 0 + sIn n R j x ys k
 | [], _, _, _ => by rw [Vk, sIn, Int.add_zero]
 | y :: ys, k, acc, h => by
  rw [Vk, ZaI n hn R j x ys (k + 1) _ (by rw [List.length_set]; exact h), UT n R j (x * y) acc (k % n) 0 (by rw [h]; exact Nat.mod_lt _ hn), sIn, Nat.zero_add, Nat.mod_mod, Int.add_assoc]
theorem Ua (n : Nat) (hn : 0 < n) (R : List (List Int)) (j : Nat) (ys : List Int) : ∀ (xs : List Int) (i : Nat) (acc : List Int), acc.length = n → JG n R j (JC n ys xs i acc) 0 = JG n R j acc 0 + ZbV n R j ys xs i
 | [], _, _, _ => by rw [JC, ZbV, Int.add_zero]
 | x :: xs, i, acc, h => by
  rw [JC, ZbV, Ua n hn R j ys xs (i + 1) _ (by rw [Vj]; exact h), ZaI n hn R j x ys i acc h, Int.add_assoc]
theorem ZfS {n top : Nat} {R : List (List Int)} {xs ys : List Int} (hn : 0 < n) : Y1 n top R (ZdW xs ys) = Y1 n top R (Za8 n xs ys) := by
 refine Xv (by rw [Yg, Yg]) fun j hj => ?_
 rw [Yg] at hj
 rw [WY hj, WY hj]
 unfold ZdW Za8
 rw [JF n R j ys xs 0 _ (by rw [Ze]; omega), Ua n hn R j ys xs 0 _ (List.length_replicate ..), Js, Js]
def ti (n : Nat) (u : Int) (j : Nat) : Nat := ((j : Int) * u % (n : Int)).toNat
theorem ZkB {n : Nat} (hn : 0 < n) (u : Int) (j : Nat) : ti n u j < n := by
 have h1 := Int.emod_nonneg ((j : Int) * u) (show (n : Int) ≠ 0 by omega)
 have h2 := Int.emod_lt_of_pos ((j : Int) * u) (show (0 : Int) < n by omega)
 unfold ti
 omega
theorem ZeF {n : Nat} (hn : 0 < n) (u : Int) (j : Nat) : ((ti n u j : Nat) : Int) = (j : Int) * u % (n : Int) := by
 have h1 := Int.emod_nonneg ((j : Int) * u) (show (n : Int) ≠ 0 by omega)
 unfold ti
 omega
def VX (n : Nat) (u : Int) : List Int → Nat → List Int → List Int
 | [], _, acc => acc
 | x :: xs, j, acc => VX n u xs (j + 1) (acc.set (ti n u j) (co acc (ti n u j) + x))
def UM (n : Nat) (u : Int) (xs : List Int) : List Int := VX n u xs 0 (List.replicate n 0)
theorem Zav (n : Nat) (u : Int) : ∀ (xs : List Int) (k : Nat) (acc : List Int), (VX n u xs k acc).length = acc.length
 | [], _, _ => rfl
 | _ :: xs, _, _ => by rw [VX, Zav n u xs, List.length_set]
theorem Zaw (n : Nat) (u : Int) (xs : List Int) : (UM n u xs).length = n := by unfold UM; rw [Zav, Ze]
def rh (n : Nat) (R : List (List Int)) (k j : Nat) : Int := co (ro R (k % n)) j
section
variable {n top : Nat} {least : List Int} {R : List (List Int)}
end
section
variable {n top : Nat} {least : List Int} {R : List (List Int)} {ps : List Int}
end
section
variable {n top : Nat} {least : List Int} {R : List (List Int)} {ps : List Int}
end
end Num
set_option maxHeartbeats 4000000
namespace PyY
open PySem
open AutoSeq1 (wpAny_loadPart')
def XL (b : Bool) (h : Heap) (j a : Addr) (k : Nat) : Prop := match b with
 | true => h.IsTupleIter j a k
 | false => h.IsListIter j a k
def XJ (b : Bool) (h : Heap) (a : Addr) (us : Array Value) : Prop := match b with
 | true => h.IsTuple a us
 | false => h.IsList a us
theorem XL.ext {b : Bool} {h h' : Heap} {c j a : Addr} {k : Nat} (x : XL b h j a k) (e : Heap.ExtBut c h h') (n : j ≠ c) : XL b h' j a k := by
 cases b
 ·exact Heap.IsListIter.extBut x e n
 ·exact Heap.IsTupleIter.extBut x e n
theorem XJ.ext {b : Bool} {h h' : Heap} {c a : Addr} {us : Array Value} (x : XJ b h a us) (e : Heap.ExtBut c h h') (n : a ≠ c) : XJ b h' a us := by
 cases b
 ·exact Heap.IsList.extBut x e n
 ·exact Heap.IsTuple.extBut x e n
theorem XL.at {b : Bool} {h h' : Heap} {j a : Addr} {k : Nat} (x : XL b h j a k) (e : ∀ o, h.get? j = some o → h'.get? j = some o) : XL b h' j a k := by
 cases b
 ·exact Heap.IsListIter.at x e
 ·obtain ⟨o, ho, r⟩ := (show h.IsTupleIter j a k from x)
  exact ⟨o, e o ho, r⟩
theorem XJ.at {b : Bool} {h h' : Heap} {a : Addr} {us : Array Value} (x : XJ b h a us) (e : ∀ o, h.get? a = some o → h'.get? a = some o) : XJ b h' a us := by
 cases b
 ·exact Heap.IsList.at x e
 ·obtain ⟨o, ho, r⟩ := (show h.IsTuple a us from x)
  exact ⟨o, e o ho, r⟩
theorem XL.obj {b : Bool} {h : Heap} {j a : Addr} {k : Nat} (x : XL b h j a k) : ∃ o, h.get? j = some o ∧ ∀ v, o.data ≠ .cell v := by
 cases b
 ·obtain ⟨o, ho, _, d⟩ := (show h.IsListIter j a k from x)
  exact ⟨o, ho, fun v z => by rw [d] at z; cases z⟩
 ·obtain ⟨o, ho, _, d⟩ := (show h.IsTupleIter j a k from x)
  exact ⟨o, ho, fun v z => by rw [d] at z; cases z⟩
section
variable {prog : Program} {w : World} {A : Around} {E : Value → Shared → Prop} {s : Shared}
theorem JI {b : Bool} {j a : Addr} {k : Nat} {us : Array Value} {y : Value} {Q : Value → Shared → Prop} (c : XL b s.heap j a k) (d : XJ b s.heap a us) (e : us[k]? = some y)
  (q : ∀ g, XL b g j a (k + 1) → Heap.SameBut j s.heap g → Q y { s with heap := g }) : wpAny (model prog w) A (Builtin.SmallTypes.nextOf (.ref j)) Q E s := by
 cases b
 ·exact wpAny_nextOf_list_item c d e q
 ·exact Vq c d e q
theorem Uk {b : Bool} {j a : Addr} {k : Nat} {us : Array Value} {Q : Value → Shared → Prop} (hn : A.handled = none) (c : XL b s.heap j a k) (d : XJ b s.heap a us) (e : us[k]? = none)
  (q : ∀ g x, Heap.ExtBut j s.heap g → (∃ o, g.get? x = some o ∧ o.cls = .type "StopIteration") → E (.ref x) { s with heap := g }) : wpAny (model prog w) A (Builtin.SmallTypes.nextOf (.ref j)) Q E s := by
 cases b
 ·exact wpAny_nextOf_list_end hn c d e q
 ·exact Uj hn c d e q
structure ZA (z p r i j a b : Addr) : Prop where
 pz : p ≠ z
 rz : r ≠ z
 iz : i ≠ z
 jz : j ≠ z
 pr : p ≠ r
 pi : p ≠ i
 pj : p ≠ j
 ri : r ≠ i
 rj : r ≠ j
 ij : i ≠ j
 az : a ≠ z
 ar : a ≠ r
 ai : a ≠ i
 aj : a ≠ j
 bz : b ≠ z
 br : b ≠ r
 bi : b ≠ i
 bj : b ≠ j
theorem Zdx {u v : Bool} {z p r i j a b : Addr} {k : Nat} {us vs : Array Value} {x y o1 o2 : Value} {Q : Option Value → Shared → Prop} (D : ZA z p r i j a b)
  (hz : IsZip s.heap z p r .none) (hp : IsPair s.heap p (.ref i) (.ref j)) (hr : IsPair s.heap r o1 o2) (hi : XL u s.heap i a k) (hj : XL v s.heap j b k) (ha : XJ u s.heap a us) (hb : XJ v s.heap b vs) (ex : us[k]? = some x) (ey : vs[k]? = some y)
  (q : ∀ g, IsZip g z p r (rawInt s.heap.objs.size) → IsPair g r x y → XL u g i a (k + 1) → XL v g j b (k + 1) → IsPair g s.heap.objs.size x y → g.objs.size = s.heap.objs.size + 1 →
   (∀ c o, c ≠ z → c ≠ r → c ≠ i → c ≠ j → s.heap.get? c = some o → g.get? c = some o) → Q (some (.ref s.heap.objs.size)) { s with heap := g }) : wpAny (model prog w) A (pyNext (.ref z)) Q E s := by
 have tz : s.TypeIs (.ref z) "zip" := ⟨_, hz, rfl⟩
 unfold pyNext
 refine wpAny_bind (wpAny_attempt (wpAny_callSpecial?_slot (name := Str.ofString "__next__") tz F.slot_zip_next (wpAny_call_entry F.slot_zip_next tz F.entry_zip_next ?_ (F.args_zip_next_1 _))))
 show wpAny _ _ (field (.ref z) 2 >>= _) _ _ s
 refine wpAny_bind (wpAny_field hz rfl (x := .bool false) rfl ?_)
 show wpAny _ _ (field (.ref z) 3 >>= _) _ _ s
 refine wpAny_bind (wpAny_field hz rfl (x := .ref p) rfl ?_)
 refine wpAny_bind (wpAny_seqItems hp rfl ?_)
 show wpAny _ _ (Builtin.SmallTypes.ownedTupleIsFree (.ref z) >>= _) _ _ s
 refine wpAny_bind ?_
 unfold Builtin.SmallTypes.ownedTupleIsFree
 refine wpAny_bind (wpAny_field hz rfl (x := .none) rfl (wpAny_pure ?_))
 rw [if_pos rfl]
 refine wpAny_bind (wpAny_rule (wpAny_bind (wpAny_field hz rfl (x := .ref r) rfl ?_)))
 refine wpAny_bind (wpAny_setField_rec hz (by simp) fun g1 z1 s1 => ?_)
 replace z1 : IsZip g1 z p r .ellipsis := z1
 refine wpAny_bind ?_
 simp only [List.zipIdx_cons, List.zipIdx_nil, List.forIn_cons, List.forIn_nil]
 refine wpAny_bind (wpAny_bind (wpAny_onRaise ?_))
 show wpAny _ _ (Builtin.SmallTypes.nextOf (.ref i) >>= _) _ _ _
 refine wpAny_bind (JI (hi.ext s1.extBut D.iz) (ha.ext s1.extBut D.az) ex fun g2 i2 s2 => wpAny_pure ?_)
 have r2 : IsPair g2 r o1 o2 := s2.extBut _ _ D.ri (s1.extBut _ _ D.rz hr)
 refine wpAny_bind (wpAny_seqItems r2 rfl ?_)
 refine wpAny_bind (wpAny_updateSeq_pair r2 fun g3 r3 s3 => ?_)
 replace r3 : IsPair g3 r x o2 := r3
 refine wpAny_bind (wpAny_letGo (wpAny_pure ?_))
 refine wpAny_bind (wpAny_bind (wpAny_onRaise ?_))
 show wpAny _ _ (Builtin.SmallTypes.nextOf (.ref j) >>= _) _ _ _
 refine wpAny_bind (JI (((hj.ext s1.extBut D.jz).ext s2.extBut D.ij.symm).ext s3.extBut D.rj.symm) (((hb.ext s1.extBut D.bz).ext s2.extBut D.bi).ext s3.extBut D.br) ey fun g4 j4 s4 => wpAny_pure ?_)
 have r4 : IsPair g4 r x o2 := s4.extBut _ _ D.rj r3
 refine wpAny_bind (wpAny_seqItems r4 rfl ?_)
 refine wpAny_bind (wpAny_updateSeq_pair r4 fun g5 r5 s5 => ?_)
 replace r5 : IsPair g5 r x y := r5
 refine wpAny_bind (wpAny_letGo (wpAny_pure (wpAny_pure ?_)))
 refine wpAny_bind (wpAny_seqItems r5 rfl ?_)
 refine wpAny_bind (wpAny_newTuple ?_)
 have sz : g5.objs.size = s.heap.objs.size := by rw [s5.1, s4.1, s3.1, s2.1, s1.1]
 have z5 : IsZip g5 z p r .ellipsis := s5.extBut _ _ D.rz.symm (s4.extBut _ _ D.jz.symm (s3.extBut _ _ D.rz.symm (s2.extBut _ _ D.iz.symm z1)))
 have k5 : ∀ c o, c ≠ z → c ≠ r → c ≠ i → c ≠ j → s.heap.get? c = some o → g5.get? c = some o := fun c o c1 c2 c3 c4 e => s5.extBut _ _ c2 (s4.extBut _ _ c4 (s3.extBut _ _ c2 (s2.extBut _ _ c3 (s1.extBut _ _ c1 e))))
 have i5 : XL u g5 i a (k + 1) := ((i2.ext s3.extBut D.ri.symm).ext s4.extBut D.ij).ext s5.extBut D.ri.symm
 have j5 : XL v g5 j b (k + 1) := j4.ext s5.extBut D.rj.symm
 have zl : z < g5.objs.size := Heap.lt_size z5
 show wpAny _ _ (Builtin.SmallTypes.ownedTupleHandOut (.ref z) (.ref g5.objs.size) >>= _) _ _ _
 refine wpAny_bind ?_
 unfold Builtin.SmallTypes.ownedTupleHandOut
 have z6 : IsZip (g5.push { cls := .type "tuple", data := .seq #[x, y] }) z p r .ellipsis := Heap.get?_push_of_some _ z5
 refine wpAny_bind (wpAny_setField_rec z6 (by simp) fun g7 z7 s7 => ?_)
 replace z7 : IsZip g7 z p r (rawInt g5.objs.size) := z7
 refine wpAny_setField_rec z7 (by simp) fun g8 z8 s8 => ?_
 replace z8 : IsZip g8 z p r (rawInt g5.objs.size) := z8
 have up : ∀ c o, c ≠ z → g5.get? c = some o → g8.get? c = some o := fun c o c1 e => s8.extBut _ _ c1 (s7.extBut _ _ c1 (Heap.get?_push_of_some _ e))
 have t8 : IsPair g8 g5.objs.size x y := s8.extBut _ _ (Nat.ne_of_gt zl) (s7.extBut _ _ (Nat.ne_of_gt zl) (Heap.get?_push_size _ rfl))
 have e8 : g8.objs.size = g5.objs.size + 1 := by rw [s8.1, s7.1, Heap.size_push]
 rw [sz] at z8 t8 e8
 refine wpAny_pure ⟨_, rfl, wpAny_pure ?_⟩
 show Q (some (.ref g5.objs.size)) _
 rw [sz]
 exact q g8 z8 (up _ _ D.rz r5) (i5.at fun o e => up _ o D.iz e) (j5.at fun o e => up _ o D.jz e) t8 e8 fun c o c1 c2 c3 c4 e => up c o c1 (k5 c o c1 c2 c3 c4 e)
theorem Zdw {u v : Bool} {z p r i j a b : Addr} {k : Nat} {us vs : Array Value} {o1 o2 : Value} {Q : PySem.Fin → Shared → Prop} (hn : A.handled = none) (D : ZA z p r i j a b)
  (hz : IsZip s.heap z p r .none) (hp : IsPair s.heap p (.ref i) (.ref j)) (hr : IsPair s.heap r o1 o2) (hi : XL u s.heap i a k) (hj : XL v s.heap j b k) (ha : XJ u s.heap a us) (hb : XJ v s.heap b vs) (en : us[k]? = none ∨ vs[k]? = none)
  (q : ∀ g e, (∀ c o, c ≠ z → c ≠ r → c ≠ i → c ≠ j → s.heap.get? c = some o → g.get? c = some o) → (∃ o, g.get? e = some o ∧ o.cls = .type "StopIteration") → E (.ref e) { s with heap := g }) :
  wpAny (model prog w) A (Builtin.«zip.__next__» ⟨[.ref z], []⟩) Q E s := by
 show wpAny _ _ (field (.ref z) 2 >>= _) _ _ s
 refine wpAny_bind (wpAny_field hz rfl (x := .bool false) rfl ?_)
 show wpAny _ _ (field (.ref z) 3 >>= _) _ _ s
 refine wpAny_bind (wpAny_field hz rfl (x := .ref p) rfl ?_)
 refine wpAny_bind (wpAny_seqItems hp rfl ?_)
 show wpAny _ _ (Builtin.SmallTypes.ownedTupleIsFree (.ref z) >>= _) _ _ s
 refine wpAny_bind ?_
 unfold Builtin.SmallTypes.ownedTupleIsFree
 refine wpAny_bind (wpAny_field hz rfl (x := .none) rfl (wpAny_pure ?_))
 rw [if_pos rfl]
 refine wpAny_bind (wpAny_rule (wpAny_bind (wpAny_field hz rfl (x := .ref r) rfl ?_)))
 refine wpAny_bind (wpAny_setField_rec hz (by simp) fun g1 z1 s1 => ?_)
 replace z1 : IsZip g1 z p r .ellipsis := z1
 refine wpAny_bind ?_
 simp only [List.zipIdx_cons, List.zipIdx_nil, List.forIn_cons, List.forIn_nil]
 refine wpAny_bind (wpAny_bind (wpAny_onRaise ?_))
 show wpAny _ _ (Builtin.SmallTypes.nextOf (.ref i) >>= _) _ _ _
 cases ex : us[k]? with
 | none =>
  refine wpAny_bind (Uk hn (hi.ext s1.extBut D.iz) (ha.ext s1.extBut D.az) ex fun g2 e s2 he => ?_)
  obtain ⟨oe, hoe, hce⟩ := he
  have z2 : IsZip g2 z p r .ellipsis := s2 _ _ D.iz.symm z1
  have nez : e ≠ z := fun x => by
   subst x
   rw [z2] at hoe
   cases hoe
   simp at hce
  exact wpAny_setField_rec z2 (by simp) fun g3 _ s3 => q g3 e (fun c o c1 _ c3 _ x => s3.extBut _ _ c1 (s2 _ _ c3 (s1.extBut _ _ c1 x))) ⟨oe, s3.extBut _ _ nez hoe, hce⟩
 | some x =>
  have ey : vs[k]? = none := by
   rcases en with h | h
   ·rw [ex] at h; cases h
   ·exact h
  refine wpAny_bind (JI (hi.ext s1.extBut D.iz) (ha.ext s1.extBut D.az) ex fun g2 i2 s2 => wpAny_pure ?_)
  have r2 : IsPair g2 r o1 o2 := s2.extBut _ _ D.ri (s1.extBut _ _ D.rz hr)
  refine wpAny_bind (wpAny_seqItems r2 rfl ?_)
  refine wpAny_bind (wpAny_updateSeq_pair r2 fun g3 r3 s3 => ?_)
  refine wpAny_bind (wpAny_letGo (wpAny_pure ?_))
  refine wpAny_bind (wpAny_bind (wpAny_onRaise ?_))
  show wpAny _ _ (Builtin.SmallTypes.nextOf (.ref j) >>= _) _ _ _
  refine wpAny_bind (Uk hn (((hj.ext s1.extBut D.jz).ext s2.extBut D.ij.symm).ext s3.extBut D.rj.symm) (((hb.ext s1.extBut D.bz).ext s2.extBut D.bi).ext s3.extBut D.br) ey fun g4 e s4 he => ?_)
  obtain ⟨oe, hoe, hce⟩ := he
  have z4 : IsZip g4 z p r .ellipsis := s4 _ _ D.jz.symm (s3.extBut _ _ D.rz.symm (s2.extBut _ _ D.iz.symm z1))
  have nez : e ≠ z := fun x => by
   subst x
   rw [z4] at hoe
   cases hoe
   simp at hce
  exact wpAny_setField_rec z4 (by simp) fun g5 _ s5 => q g5 e (fun c o c1 c2 c3 c4 x => s5.extBut _ _ c1 (s4 _ _ c4 (s3.extBut _ _ c2 (s2.extBut _ _ c3 (s1.extBut _ _ c1 x))))) ⟨oe, s5.extBut _ _ nez hoe, hce⟩
theorem Zey {u v : Bool} {z p r i j a b : Addr} {k : Nat} {us vs : Array Value} {o1 o2 : Value} {Q : Option Value → Shared → Prop} (hn : A.handled = none) (D : ZA z p r i j a b)
  (hz : IsZip s.heap z p r .none) (hp : IsPair s.heap p (.ref i) (.ref j)) (hr : IsPair s.heap r o1 o2) (hi : XL u s.heap i a k) (hj : XL v s.heap j b k) (ha : XJ u s.heap a us) (hb : XJ v s.heap b vs) (en : us[k]? = none ∨ vs[k]? = none)
  (q : ∀ g, (∀ c o, c ≠ z → c ≠ r → c ≠ i → c ≠ j → s.heap.get? c = some o → g.get? c = some o) → Q none { s with heap := g }) : wpAny (model prog w) A (pyNext (.ref z)) Q E s := by
 have tz : s.TypeIs (.ref z) "zip" := ⟨_, hz, rfl⟩
 unfold pyNext
 refine wpAny_bind (wpAny_attempt (wpAny_callSpecial?_slot (name := Str.ofString "__next__") tz F.slot_zip_next (wpAny_call_entry F.slot_zip_next tz F.entry_zip_next (Zdw hn D hz hp hr hi hj ha hb en fun g e hk he => ?_) (F.args_zip_next_1 _))))
 obtain ⟨o, ho, hc⟩ := he
 refine wpAny_bind (wpAny_isInstance (T := "StopIteration") (b := true) ⟨o, ho, hc⟩ isSubtype_stop ?_)
 exact wpAny_pure (q _ hk)
def ZcT (b : Bool) : String := match b with
 | true => "tuple_iterator"
 | false => "list_iterator"
theorem ZiI {b : Bool} {a : Addr} {us : Array Value} {Q : Value → Shared → Prop} (h : XJ b s.heap a us) (q : Q (.ref s.heap.objs.size) { s with heap := s.heap.push { cls := .type (ZcT b), data := .fields #[.ref a, .int 0 0] } }) : wpAny (model prog w) A (pyIter (.ref a)) Q E s := by
 cases b
 ·exact wpAny_pyIter_list h q
 ·exact wpAny_pyIter_tuple h q
abbrev zh1 (h : Heap) (u : Bool) (a : Addr) : Heap := h.push { cls := .type (ZcT u), data := .fields #[.ref a, .int 0 0] }
abbrev zh2 (h : Heap) (u v : Bool) (a b : Addr) : Heap := (zh1 h u a).push { cls := .type (ZcT v), data := .fields #[.ref b, .int 0 0] }
abbrev zh3 (h : Heap) (u v : Bool) (a b : Addr) : Heap := (zh2 h u v a b).push { cls := .type "tuple", data := .seq #[.ref h.objs.size, .ref (zh1 h u a).objs.size] }
abbrev zh4 (h : Heap) (u v : Bool) (a b : Addr) : Heap := (zh3 h u v a b).push { cls := .type "tuple", data := .seq #[.none, .none] }
abbrev zh5 (h : Heap) (u v : Bool) (a b : Addr) : Heap := (zh4 h u v a b).push { cls := .type "zip", data := .fields #[.none, .bool false, .bool false, .ref (zh2 h u v a b).objs.size, .ref (zh3 h u v a b).objs.size] }
theorem XJ.push {b : Bool} {h : Heap} {a : Addr} {us : Array Value} (x : XJ b h a us) (o : Obj) : XJ b (h.push o) a us := x.at fun _ e => Heap.get?_push_of_some _ e
theorem Zex (u v : Bool) (a b : Addr) (us vs : Array Value) :
  Meets (Builtin.«zip.__new__» ⟨[.type "zip", .ref a, .ref b], []⟩) (fun _ R s => XJ u s.heap a us ∧ XJ v s.heap b vs ∧ R (.ok (.ret (.ref (zh4 s.heap u v a b).objs.size))) { s with heap := zh5 s.heap u v a b }) :=
 .of_wp fun prog w A R s h => by
  obtain ⟨hh, gg, dr, tk, os⟩ := s
  obtain ⟨ha, hb, h⟩ := h
  have sub := sub_zip
  have hA : XJ u (Shared.heap ⟨hh, gg, dr, tk, os⟩) a us := ha
  have hB : XJ v (Shared.heap ⟨zh1 hh u a, gg, dr, tk, os⟩) b vs := XJ.push hb _
  wp_walk using ZiI hA, ZiI hB
  exact ⟨_, rfl, h⟩
theorem Zen {u v : Bool} {a b : Addr} {us vs : Array Value} {Q : Value → Shared → Prop} (ha : XJ u s.heap a us) (hb : XJ v s.heap b vs)
  (q : ∀ g, IsZip g (s.heap.objs.size + 4) (s.heap.objs.size + 2) (s.heap.objs.size + 3) .none → IsPair g (s.heap.objs.size + 2) (.ref s.heap.objs.size) (.ref (s.heap.objs.size + 1)) → IsPair g (s.heap.objs.size + 3) .none .none →
   XL u g s.heap.objs.size a 0 → XL v g (s.heap.objs.size + 1) b 0 → (∀ c o, s.heap.get? c = some o → g.get? c = some o) → Q (.ref (s.heap.objs.size + 4)) { s with heap := g }) :
  wpAny (model prog w) A (call (.type "zip") [.ref a, .ref b]) Q E s := by
 refine callType_new F.called_zip (by decide) (F.typeCall_zip_2 _ _) (F.newCall_zip_2 _ _) (fun obj => F.args_object_init_3 obj _ _) F.entry_zip_new (Zex u v a b us vs) ⟨ha, hb, ?_⟩
 have e1 : (zh1 s.heap u a).objs.size = s.heap.objs.size + 1 := Heap.size_push ..
 have e2 : (zh2 s.heap u v a b).objs.size = s.heap.objs.size + 2 := by rw [Heap.size_push, e1]
 have e3 : (zh3 s.heap u v a b).objs.size = s.heap.objs.size + 3 := by rw [Heap.size_push, e2]
 have e4 : (zh4 s.heap u v a b).objs.size = s.heap.objs.size + 4 := by rw [Heap.size_push, e3]
 have w5 : (zh5 s.heap u v a b).get? (zh4 s.heap u v a b).objs.size = some _ := Heap.get?_push_size _ rfl
 have w4 : (zh5 s.heap u v a b).get? (zh3 s.heap u v a b).objs.size = some _ := Heap.get?_push_of_some _ (Heap.get?_push_size _ rfl)
 have w3 : (zh5 s.heap u v a b).get? (zh2 s.heap u v a b).objs.size = some _ := Heap.get?_push_of_some _ (Heap.get?_push_of_some _ (Heap.get?_push_size _ rfl))
 have w2 : (zh5 s.heap u v a b).get? (zh1 s.heap u a).objs.size = some _ := Heap.get?_push_of_some _ (Heap.get?_push_of_some _ (Heap.get?_push_of_some _ (Heap.get?_push_size _ rfl)))
 have w1 : (zh5 s.heap u v a b).get? s.heap.objs.size = some _ := Heap.get?_push_of_some _ (Heap.get?_push_of_some _ (Heap.get?_push_of_some _ (Heap.get?_push_of_some _ (Heap.get?_push_size _ rfl))))
 have it : ∀ (x : Bool) (g : Heap) (j c : Addr), g.get? j = some { cls := .type (ZcT x), data := .fields #[.ref c, .int 0 0] } → XL x g j c 0 := fun x g j c e => by
  cases x <;> exact ⟨_, e, rfl, rfl⟩
 show _ ∧ _
 rw [e2, e3, e4] at w5
 rw [e1, e2] at w3
 rw [e3] at w4
 rw [e1] at w2
 rw [e4]
 exact ⟨⟨_, w5, rfl⟩, q _ w5 w3 w4 (it u _ _ _ w1) (it v _ _ _ w2) fun c o x => Heap.get?_push_of_some _ (Heap.get?_push_of_some _ (Heap.get?_push_of_some _ (Heap.get?_push_of_some _ (Heap.get?_push_of_some _ x))))⟩
end
end PyY
namespace L2
open PySem PySem.Spec PyProof.Rows
def UH (b : Bool) (K : PySem.W.Frag) (H : Hp) (a : Addr) (xs : List V) : Prop := match b with
 | true => YW K H a xs
 | false => Wp K H a xs
theorem UH.mono {b : Bool} {K : PySem.W.Frag} {H H' : Hp} {a : Addr} {xs : List V} (h : UH b K H a xs) (s : Same H H') : UH b K H' a xs := by
 cases b
 ·exact s.seq h
 ·exact s.tup h
theorem UH.lst {K : PySem.W.Frag} {H : Hp} {a : Addr} {xs : List V} (h : Wp K H a xs) : UH false K H a xs := h
theorem UH.tup {K : PySem.W.Frag} {H : Hp} {a : Addr} {xs : List V} (h : YW K H a xs) : UH true K H a xs := h
section
variable {X : Cx} {pins : List (Addr × Obj)} {σ : St} {H : Hp} {s : Shared}
theorem Zv.sqB {b : Bool} {a : Addr} {xs : List V} (I : Zv X pins σ H s) (h : UH b X.K H a xs) : ∃ its, Zz xs its ∧ PyY.XJ b s.heap a its.toArray := by
 cases b
 ·obtain ⟨its, rv, p, _⟩ := I.list h
  exact ⟨its, rv, p.isList⟩
 ·obtain ⟨its, rv, p, _⟩ := I.tuple h
  exact ⟨its, rv, p⟩
theorem Zv.sqB_inj {b : Bool} {a : Addr} {xs ys : List V} (I : Zv X pins σ H s) (h : UH b X.K H a xs) (h' : UH b X.K H a ys) : xs = ys := by
 cases b
 ·exact I.list_inj h h'
 ·exact I.tuple_inj h h'
end
def Itz (K : PySem.W.Frag) (u v : Bool) (a b : Addr) : It :=
  ⟨fun i H => ∃ xs ys x y, UH u K H a xs ∧ UH v K H b ys ∧ xs[i]? = some x ∧ ys[i]? = some y,
   fun i H x H' => ∃ T x1 y1, x = .ref T ∧ H T = none ∧ H' = upd H T (.tup [x1, y1]) ∧ (∀ xs, UH u K H a xs → xs[i]? = some x1) ∧ ∀ ys, UH v K H b ys → ys[i]? = some y1,
   fun i H => ∃ xs ys, UH u K H a xs ∧ UH v K H b ys ∧ (xs.length ≤ i ∨ ys.length ≤ i)⟩
theorem ZeC {P : Program} {w : World} {K : PySem.W.Frag} {elts : List Expr} {x1} {pos : Pos} (u v : Bool) (a b z p r i j : Addr) (D : PyY.ZA z p r i j a b) :
  Zar P w K (.Tuple elts x1 pos) (Itz K u v a b) [z, p, r, i, j] z (fun k h => IsZip h z p r .none ∧ IsPair h p (.ref i) (.ref j) ∧ (∃ o1 o2, IsPair h r o1 o2) ∧ PyY.XL u h i a k ∧ PyY.XL v h j b k) where
 mem := by simp
 obj := fun k h st c hc => by
  obtain ⟨hz, hp, ⟨o1, o2, hr⟩, hi, hj⟩ := st
  simp only [List.mem_cons, List.not_mem_nil, or_false] at hc
  rcases hc with rfl | rfl | rfl | rfl | rfl
  ·exact ⟨_, hz, fun v z => by
    have z' : Data.fields _ = Data.cell v := z
    cases z'⟩
  ·exact ⟨_, hp, fun v z => by
    have z' : Data.seq _ _ = Data.cell v := z
    cases z'⟩
  ·exact ⟨_, hr, fun v z => by
    have z' : Data.seq _ _ = Data.cell v := z
    cases z'⟩
  ·exact hi.obj
  ·exact hj.obj
 keep := fun k h h' st kk => by
  obtain ⟨hz, hp, ⟨o1, o2, hr⟩, hi, hj⟩ := st
  exact ⟨kk z (by simp) _ hz, kk p (by simp) _ hp, ⟨o1, o2, kk r (by simp) _ hr⟩, hi.at fun o q => kk i (by simp) o q, hj.at fun o q => kk j (by simp) o q⟩
 item := by
  intro X hP hw hK hc k pins s σ H E I hf st hg
  subst hP hw hK
  obtain ⟨hz, hp, ⟨o1, o2, hr⟩, hi, hj⟩ := st
  obtain ⟨xs, ys, x, y, hA, hB, hx, hy⟩ := hg
  obtain ⟨its, rv, pa⟩ := I.sqB hA
  obtain ⟨jts, rw', pb⟩ := I.sqB hB
  obtain ⟨ux, hux, rux⟩ := rv.get hx
  obtain ⟨uy, huy, ruy⟩ := rw'.get hy
  refine PyY.Zdx D hz hp hr hi hj pa pb (x := ux) (y := uy) (by simpa using hux) (by simpa using huy) fun h1 z1 r1 i1 j1 t1 sz1 k1 => ?_
  refine ⟨_, rfl, wpAny_letOwnedTupleGo_zip z1 fun h2 z2 s2 => ?_⟩
  have lt : ∀ c ∈ [z, p, r, i, j], c < s.heap.objs.size := fun c hc' => by
   simp only [List.mem_cons, List.not_mem_nil, or_false] at hc'
   rcases hc' with rfl | rfl | rfl | rfl | rfl
   ·exact Heap.lt_size hz
   ·exact Heap.lt_size hp
   ·exact Heap.lt_size hr
   ·obtain ⟨o, e, _⟩ := hi.obj; exact Heap.lt_size e
   ·obtain ⟨o, e, _⟩ := hj.obj; exact Heap.lt_size e
  have s3 : Heap.SameBut z h1 h2 := s2
  have t2 : IsPair h2 s.heap.objs.size ux uy := (s3.2 _ (Nat.ne_of_gt (lt z (by simp)))).trans t1
  have nT : H s.heap.objs.size = none := I.hok.fresh (Nat.le_refl _)
  have p2 : IsPair h2 p (.ref i) (.ref j) := (s3.2 _ D.pz).trans (k1 _ _ D.pz D.pr D.pi D.pj hp)
  have r2 : IsPair h2 r ux uy := (s3.2 _ D.rz).trans r1
  have i2 := i1.ext s3.extBut D.iz
  have j2 := j1.ext s3.extBut D.jz
  have I2 := I.turnLay (t' := s.toks) (h' := h2) (ts := [z, p, r, i, j]) (T := s.heap.objs.size) (o := .tup [x, y]) (fun c o hc' q => ?_) (fun c hc' => ?_) hf (Nat.le_refl _) ⟨by show 2 ≤ sizeLine; decide, [ux, uy], .cons rux (.cons ruy .nil), _, t2, rfl, 0, rfl⟩
  ·refine ⟨.ref s.heap.objs.size, _, I2, rfl, ⟨_, x, y, rfl, nT, rfl, fun zs hzs => by rw [I.sqB_inj hzs hA]; exact hx, fun zs hzs => by rw [I.sqB_inj hzs hB]; exact hy⟩, ⟨z2, p2, ⟨_, _, r2⟩, i2, j2⟩, fun c hc' => ?_⟩
   rw [Zt (Nat.ne_of_lt (lt c hc'))]
   exact (hf c hc').1
  ·have q1 : c ≠ z := fun e => hc' (by simp [e])
   have q2 : c ≠ r := fun e => hc' (by simp [e])
   have q3 : c ≠ i := fun e => hc' (by simp [e])
   have q4 : c ≠ j := fun e => hc' (by simp [e])
   exact (s3.2 c q1).trans (k1 c o q1 q2 q3 q4 q)
  ·simp only [List.mem_cons, List.not_mem_nil, or_false] at hc'
   rcases hc' with rfl | rfl | rfl | rfl | rfl
   ·exact ⟨_, z2⟩
   ·exact ⟨_, p2⟩
   ·exact ⟨_, r2⟩
   ·obtain ⟨o, e, _⟩ := i2.obj; exact ⟨o, e⟩
   ·obtain ⟨o, e, _⟩ := j2.obj; exact ⟨o, e⟩
 done := by
  intro X hP hw hK hc k pins s σ H E I hf st hg
  subst hP hw hK
  obtain ⟨hz, hp, ⟨o1, o2, hr⟩, hi, hj⟩ := st
  obtain ⟨xs, ys, hA, hB, hl⟩ := hg
  obtain ⟨its, rv, pa⟩ := I.sqB hA
  obtain ⟨jts, rw', pb⟩ := I.sqB hB
  have l1 := rv.length
  have l2 := rw'.length
  refine PyY.Zey (I.ok.hd hc) D hz hp hr hi hj pa pb ?_ fun h1 k1 => ⟨rfl, I.turnedL (t' := s.toks) (ts := [z, p, r, i, j]) (fun c o hc' q => ?_) hf⟩
  ·rcases hl with h | h
   ·exact .inl (by simp; omega)
   ·exact .inr (by simp; omega)
  ·exact k1 c o (fun e => hc' (by simp [e])) (fun e => hc' (by simp [e])) (fun e => hc' (by simp [e])) (fun e => hc' (by simp [e])) q
 self := fun _ _ _ _ _ st h => wpAny_pyIter_zip st.1 h
structure Zeu (J : It) (At : Hp → Prop) (ps : List (V × V)) : Prop where
 go : ∀ i H, At H → i < ps.length → J.go i H
 yld : ∀ i H x H2, At H → J.yld i H x H2 → ∃ T y z, x = .ref T ∧ H T = none ∧ H2 = upd H T (.tup [y, z]) ∧ ps[i]? = some (y, z)
 stop : ∀ i H, At H → ps.length ≤ i → J.stop i H
theorem Zkx {K : PySem.W.Frag} {u v : Bool} {a b : Addr} {xs ys : List V} : Zeu (Itz K u v a b) (fun H => UH u K H a xs ∧ UH v K H b ys) (xs.zip ys) where
 go := fun i H h hi => by
  rw [List.length_zip] at hi
  exact ⟨xs, ys, xs[i]'(by omega), ys[i]'(by omega), h.1, h.2, by simp, by simp⟩
 yld := fun i H x H2 h hy => by
  obtain ⟨T, y, z, e, hT, e2, q1, q2⟩ := hy
  refine ⟨T, y, z, e, hT, e2, ?_⟩
  rw [List.getElem?_zip_eq_some]
  exact ⟨q1 xs h.1, q2 ys h.2⟩
 stop := fun i H h hi => by
  rw [List.length_zip] at hi
  exact ⟨xs, ys, h.1, h.2, by omega⟩
def Zlq (K : PySem.W.Frag) (ta : TA) : TI := fun σ H R => ta σ H fun vs H1 => ∃ a b u v xs ys Hx, vs = [.ref a, .ref b] ∧ UH u K Hx a xs ∧ UH v K Hx b ys ∧ Same Hx H1 ∧ ∀ J At, Zeu J At (xs.zip ys) → (∀ H', Same Hx H' → At H') → R J H1
theorem Zmc {X : Cx} {elts : List Expr} {x1} {pt : Pos} {l m : Expr} {ta : TA} {p pos : Pos} (hm : X.mg "zip" = none) (ha : PA X [l, m] ta) (hg : Yx X.env.scope "zip" = true := by kernel_rfl) (hs : starEach [l, m] X.env = (false, eval l X.env) :: starEach [m] X.env := by rfl) (hs2 : (backTo pos (starEach [m] X.env)).any (·.1) = false := by rfl) :
  PI X (.Tuple elts x1 pt) (.Call (.Name "zip" p) [l, m] [] pos) (Zlq X.K ta) := by
 intro pins s σ H R I h
 refine Call_ (WV I (Jg hg) hm (show bootBuiltins "zip" = some (.type "zip") by kernel_rfl) (PyProof.Rows.callWith_type1 (ZT (ha pos pins s σ H _ I h) fun us s1 ⟨vs, H1, I1, r1, q1⟩ => ?_) hs hs2))
 obtain ⟨a, b, u, v, xs, ys, Hx, e, hA, hB, sm, q⟩ := q1
 subst e
 cases r1 with
 | cons r rr =>
  cases rr with
  | cons r' rr =>
   cases rr
   cases (show _ = Value.ref a from r)
   cases (show _ = Value.ref b from r')
   obtain ⟨its, rv, pa⟩ := I1.sqB (hA.mono sm)
   obtain ⟨jts, rw', pb⟩ := I1.sqB (hB.mono sm)
   have la : a < s1.heap.objs.size := by
    cases u
    ·obtain ⟨o, e, _⟩ := (show s1.heap.IsList a _ from pa); exact Heap.lt_size e
    ·obtain ⟨o, e, _⟩ := (show s1.heap.IsTuple a _ from pa); exact Heap.lt_size e
   have lb : b < s1.heap.objs.size := by
    cases v
    ·obtain ⟨o, e, _⟩ := (show s1.heap.IsList b _ from pb); exact Heap.lt_size e
    ·obtain ⟨o, e, _⟩ := (show s1.heap.IsTuple b _ from pb); exact Heap.lt_size e
   have nn : ∀ {c d : Nat}, c < d → (c : Addr) ≠ d := fun h => Nat.ne_of_lt h
   have D : PyY.ZA (s1.heap.objs.size + 4) (s1.heap.objs.size + 2) (s1.heap.objs.size + 3) s1.heap.objs.size (s1.heap.objs.size + 1) a b := by
    have la' : (a : Nat) < s1.heap.objs.size := la
    have lb' : (b : Nat) < s1.heap.objs.size := lb
    constructor <;> first | exact Nat.ne_of_lt (Nat.lt_of_lt_of_le la (Nat.le_add_right _ _)) | exact Nat.ne_of_lt (Nat.lt_of_lt_of_le lb (Nat.le_add_right _ _)) | exact Nat.ne_of_lt la | exact Nat.ne_of_lt lb | exact Nat.ne_of_lt (by omega) | exact Nat.ne_of_gt (by omega)
   refine PyY.Zen pa pb fun g gz gp gr gi gj gk => wpAny_pyIter_zip gz ?_
   have sz : ∀ c ∈ [s1.heap.objs.size + 4, s1.heap.objs.size + 2, s1.heap.objs.size + 3, s1.heap.objs.size, s1.heap.objs.size + 1], s1.heap.objs.size ≤ c := fun c hc => by
    simp only [List.mem_cons, List.not_mem_nil, or_false] at hc
    rcases hc with rfl | rfl | rfl | rfl | rfl
    ·exact Nat.le_add_right _ _
    ·exact Nat.le_add_right _ _
    ·exact Nat.le_add_right _ _
    ·exact Nat.le_refl _
    ·exact Nat.le_add_right _ _
   exact ⟨_, [s1.heap.objs.size + 4, s1.heap.objs.size + 2, s1.heap.objs.size + 3, s1.heap.objs.size, s1.heap.objs.size + 1], _, _, H1, rfl, I1.kept (t' := s1.toks) gk, ZeC u v a b _ _ _ _ _ D, ⟨gz, gp, ⟨_, _, gr⟩, gi, gj⟩, fun c hc => I1.fpOk (sz c hc) (I1.hok.fresh (sz c hc)), q _ _ Zkx fun H' s' => ⟨hA.mono s', hB.mono s'⟩⟩
theorem Zdy (K : PySem.W.Frag) {X : Cx} {elts : List Expr} {x1} {pt : Pos} {l m : Expr} {ta : TA} {p pos : Pos} (hm : X.mg "zip" = none) (ha : PA X [l, m] ta) (hK : X.K = K := by rfl) (hg : Yx X.env.scope "zip" = true := by kernel_rfl) (hs : starEach [l, m] X.env = (false, eval l X.env) :: starEach [m] X.env := by rfl) (hs2 : (backTo pos (starEach [m] X.env)).any (·.1) = false := by rfl) :
  PI X (.Tuple elts x1 pt) (.Call (.Name "zip" p) [l, m] [] pos) (Zlq K ta) := hK ▸ Zmc hm ha hg hs hs2
theorem Zbv {K : PySem.W.Frag} {J : It} {At : Hp → Prop} {own : List Str} {caps : List Nat} {te : TE} {σ : St} {H Hx : Hp} {Q : VK} {ps : List (V × V)} (S : Zeu J At ps) (hAt : ∀ H', Same Hx H' → At H') (sx : Same Hx H) (cs : St) (hcs : JO own caps σ = none :: none :: cs) (f : V → V → V) (hz : ps.length ≤ 1000000)
  (hs : ∀ (i : Nat) x y H', ps[i]? = some (x, y) → Same H H' → ∀ R : VK, (∀ H5, Same H' H5 → R (f x y) H5) → te (some x :: some y :: cs) H' R)
  (hd : ∀ D H', H D = none → Same H H' → H' D = some (.lst (ps.map fun p => f p.1 p.2)) → Q (.ref D) H') : W0 own caps (Zgg K 2 (Xb (Yh 0) (Xb (Yh 1) Zgh))) tTrue te σ Q J H := by
 intro D hD
 refine ⟨fun i m σ' H' => m = ps.length - i ∧ i ≤ ps.length ∧ (∃ v0 v1, σ' = v0 :: v1 :: cs) ∧ Same H H' ∧ H' D = some (.lst ((ps.take i).map fun p => f p.1 p.2)), ⟨_, rfl, Nat.zero_le _, ⟨none, none, hcs⟩, Same.upd hD, by rw [Zm, List.take_zero]; rfl⟩, ?_⟩
 rintro i m σ' H' ⟨rfl, hi, ⟨v0, v1, rfl⟩, s, hl⟩
 have at' := hAt H' (sx.trans s)
 by_cases hlt : i < ps.length
 ·refine .inr ⟨S.go i H' at' hlt, fun σ2 H2 => (∃ v0 v1, σ2 = v0 :: v1 :: cs) ∧ Same H H2 ∧ H2 D = some (.lst ((ps.take (i + 1)).map fun p => f p.1 p.2)), fun σ2 H2 z => ⟨ps.length - (i + 1), by omega, rfl, hlt, z.1, z.2.1, z.2.2⟩, fun x H2 hy => ?_⟩
  obtain ⟨T, y, z, rfl, hT, rfl, hx⟩ := S.yld i H' x H2 at' hy
  have ht : ps.take (i + 1) = ps.take i ++ [(y, z)] := by rw [List.take_add_one, hx]; rfl
  refine ⟨T, _, rfl, .of Zm, rfl, _, _, rfl, _, _, rfl, rfl, ?_⟩
  refine tT (A := fun H4 => te (some y :: some z :: cs) H4 fun v H5 => ∃ xs, H5 D = some (.lst xs) ∧ xs.length < sizeLine ∧ (∃ v0 v1, (some y :: some z :: cs : St) = v0 :: v1 :: cs) ∧ Same H (upd H5 D (.lst (xs ++ [v]))) ∧ (upd H5 D (.lst (xs ++ [v]))) D = some (.lst ((ps.take (i + 1)).map fun p => f p.1 p.2))) ?_
  refine hs i y z _ hx (s.trans (Same.upd hT)) _ fun H5 s5 => ⟨_, s5 _ _ (Same.upd hT _ _ hl), ?_, ⟨_, _, rfl⟩, ((s.trans (Same.upd hT)).trans s5).updr hD, ?_⟩
  ·rw [Za, List.length_take]
   have : (16777216 : Nat) = sizeLine := by decide
   omega
  ·rw [Zm, ht, List.map_append]
   rfl
 ·have e : i = ps.length := by omega
  subst e
  refine .inl ⟨S.stop _ H' at' (Nat.le_refl _), hd D H' hD s ?_⟩
  rw [hl, List.take_length]
def Zdv (i j : Int) : Prop := Zia i j ∨ (i.natAbs < 2 ^ 900 ∧ j.natAbs < 2 ^ 900)
theorem Zdv.ok {i j : Int} (h : Zdv i j) : IntMulOk i j := by
 rcases h with h | ⟨h1, h2⟩
 ·exact h.ok
 ·have a := intBits_le h1
  have b := intBits_le h2
  unfold IntMulOk
  have : Builtin.Int.intTooBig ((Builtin.Int.intBits i : Int) + (Builtin.Int.intBits j : Int)) = false := by
   unfold Builtin.Int.intTooBig
   refine decide_eq_false ?_
   have e : (1800 : Int) ≤ (bitsLine : Int) := by decide
   omega
  rw [this]
  simp
theorem Zhj {X : Cx} : JP X (binaryOp .Mult) (rI Zdv fun i j => .int (i * j)) := opI fun _ _ _ _ _ _ _ hc q => mul_int q hc.ok
end L2
namespace N24
open PySem L2 PySem.Spec PyProof.Rows
def top (i : Nat) : Stmt := PySem.Challenge.pw_classtab_k24_spreads.main.body.getD i (.Pass ⟨0, 0, 0, 0⟩)
structure Bl (mg : Str → Option Value) : Prop where
 list : mg "list" = none
 len : mg "len" = none
 abs : mg "abs" = none
 range : mg "range" = none
 tuple : mg "tuple" = none
 isi : mg "isinstance" = none
 all : mg "all" = none
 set : mg "set" = none
 repr : mg "repr" = none
 any : mg "any" = none
 int : mg "int" = none
 bool : mg "bool" = none
section
variable {P : Program} {w : World} {K : PySem.W.Frag} {mg : Str → Option Value} {base : Heap}
end
abbrev Ze2 : Stmt := top 1
def UJ (n : String) : Bool := JL n "int" && !JL n "bool"
def elB (c : Int) : V → Bool
 | .int i => decide (0 ≤ i) && decide (i < c)
 | _ => false
def isI : V → Bool
 | .int _ => true
 | _ => false
theorem Vw {K : PySem.W.Frag} {H : Hp} {x : V} {n : String} (h : Kd K H x n) : UJ n = isI x := by
 obtain ⟨h, hm⟩ := h
 generalize ht : Value.type n = t at h
 cases h <;> (try cases ht) <;> first | rfl | decide
theorem Zbg {K : PySem.W.Frag} {H : Hp} {x : V} {n : String} (h : Kd K H x n) : JL n "tuple" = decide (n = "tuple") := by
 unfold JL
 by_cases e : n = "tuple"
 ·subst e; decide
 ·simp [e]
def El (K : PySem.W.Frag) (H : Hp) (y : V) : Prop := ∃ n d, Kd K H y n ∧ Xj K H y d ∧ d.canLay0 = true ∧ d.depth ≤ 10
theorem El.mono {K : PySem.W.Frag} {H H' : Hp} {y : V} (s : Same H H') (h : El K H y) : El K H' y := by
 obtain ⟨n, d, a, b, c⟩ := h
 exact ⟨n, d, a.mono s, b.mono s, c⟩
inductive Th (K : PySem.W.Frag) (H : Hp) : V → Option (List V) → Prop where
 | tup {a : Addr} {xs : List V} (h : H a = some (.tup xs)) (hl : xs.length ≤ 1000) (he : ∀ y ∈ xs, El K H y) : Th K H (.ref a) (some xs)
 | other {x : V} {n : String} (h : Kd K H x n) (hn : n ≠ "tuple") : Th K H x none
theorem Th.mono {K : PySem.W.Frag} {H H' : Hp} {x : V} {o : Option (List V)} (s : Same H H') (h : Th K H x o) : Th K H' x o := by
 cases h with
 | tup h hl he => exact .tup (s _ _ h) hl fun y hy => (he y hy).mono s
 | other h hn => exact .other (h.mono s) hn
theorem Th.kd {K : PySem.W.Frag} {H : Hp} {x : V} {o : Option (List V)} (h : Th K H x o) : ∃ n, Kd K H x n ∧ (JL n "tuple" = o.isSome) := by
 cases h with
 | tup h hl he => exact ⟨"tuple", ⟨.tup h, by decide⟩, rfl⟩
 | other h hn => exact ⟨_, h, by rw [Zbg h]; simp [hn]⟩
def Zcw (K : PySem.W.Frag) : Sp := fun vs H Q _ => ∃ x n, vs = [x] ∧ Kd K H x n ∧ Q (.bl (isI x)) H
section
variable {P : Program} {w : World} {K : PySem.W.Frag} {mg : Str → Option Value} {base : Heap}
theorem Zfx {f : Addr} {fd : FuncData} (F : YL K "is_whole" "is_whole" Ze2 f fd) (T : Bl mg) : ZH P w K mg base ZL 1 f fd ["thing"] (Zcw K) := by
 refine F.ok (FS (N := ["thing"])) (fun vs H Q E h => ?_) (fun cdv A outer s H vs Q E hr h => ?_)
 ·obtain ⟨x, n, rfl, _⟩ := h; rfl
 ·obtain ⟨x, n, rfl, hk, q⟩ := h
  refine ⟨_, Zo (Zs (Vo (cb (VQ (T := "int") (by decide)) T.isi (pc (vn 0) (pc (tyv "int" T.int) Zl))) (Zb2 (Zjl (cb (VQ (T := "bool") (by decide)) T.isi (pc (vn 0) (pc (tyv "bool" T.bool) Zl))))))), ?_⟩
  refine ⟨_, rfl, x, n, rfl, hk, _, rfl, ?_⟩
  have e := Vw hk
  unfold UJ at e
  refine YS (fun h1 => ?_) (fun h1 => ?_)
  ·refine ⟨_, rfl, x, n, rfl, hk, _, rfl, ?_⟩
   rw [h1, Bool.true_and] at e
   rw [e]; exact q
  ·have h1 : JL n "int" = false := by simpa using h1
   rw [h1, Bool.false_and] at e
   show Q (.bl false) H
   rw [e]; exact q
theorem JZ {lo : Int} {n : Nat} {y : Int} (h : y ∈ Ya lo n) : lo ≤ y ∧ y < lo + n := by
 unfold Ya at h
 obtain ⟨i, hi, rfl⟩ := List.mem_map.mp h
 have := List.mem_range.mp hi
 omega
theorem VC (ds : List PyData) : PyData.eqv (.list ds) (.list []) = ds.isEmpty := by
 cases ds with
 | nil => rfl
 | cons d r => rfl
theorem ZcK {ds : List PyData} (h : ∀ d ∈ ds, d.canLay0 = true ∧ d.depth ≤ 10) : SeqAt.shaped (.list ds) = true := by
 have h1 : PyData.canLayAll0 ds = true ∧ PyData.depthAll ds ≤ 10 := by
  induction ds with
  | nil => exact ⟨rfl, Nat.zero_le _⟩
  | cons d r ih =>
   obtain ⟨a, b⟩ := ih fun e he => h e (List.mem_cons_of_mem _ he)
   obtain ⟨c, e⟩ := h d List.mem_cons_self
   exact ⟨by simp only [PyData.canLayAll0, c, a, Bool.and_self], by simp only [PyData.depthAll]; omega⟩
 unfold SeqAt.shaped
 rw [Bool.and_eq_true]
 have h2 : (PyData.list ds).depth ≤ 64 := by simp only [PyData.depth]; omega
 exact ⟨by simp only [PyData.canLay0]; exact h1.1, decide_eq_true h2⟩
theorem VA {α : Type} (p : α → Bool) : ∀ xs : List α, (xs.filter fun y => !p y).isEmpty = xs.all p
 | [] => rfl
 | x :: r => by
  rw [List.filter_cons, List.all_cons]
  cases p x with
  | true => simpa using VA p r
  | false => rfl
theorem Zbp {H : Hp} : ∀ {xs : List V}, (∀ y ∈ xs, El K H y) → ∃ ds, RdDs K H xs ds ∧ ds.length = xs.length ∧ ∀ d ∈ ds, d.canLay0 = true ∧ d.depth ≤ 10
 | [], _ => ⟨[], .nil, rfl, fun d h => by cases h⟩
 | x :: r, h => by
  obtain ⟨ds, a, b, c⟩ := Zbp (xs := r) fun y hy => h y (List.mem_cons_of_mem _ hy)
  obtain ⟨n, d, _, e1, e2⟩ := h x List.mem_cons_self
  refine ⟨d :: ds, .cons e1 a, by rw [Zi, Zi, b], fun e he => ?_⟩
  rcases List.mem_cons.mp he with rfl | he
  ·exact e2
  ·exact c e he
theorem Jf {α β : Type} {xs : List α} {ys : List β} (h : xs.length = ys.length) : xs.isEmpty = ys.isEmpty := by
 cases xs <;> cases ys <;> first | rfl | cases h
end
theorem Zgq {K : PySem.W.Frag} {H : Hp} (i : Int) : El K H (.int i) := ⟨"int", .int i, ⟨.int i, by decide⟩, .int i, rfl, Nat.zero_le _⟩
theorem Zlx {K : PySem.W.Frag} {H : Hp} (b : Bool) : El K H (.bl b) := ⟨"bool", .bool b, ⟨.bl b, by decide⟩, .bl b, rfl, Nat.zero_le _⟩
theorem Zah {K : PySem.W.Frag} {H : Hp} {ns : List Int} : ∀ y ∈ ns.map V.int, El K H y := fun y hy => by
 obtain ⟨z, _, rfl⟩ := List.mem_map.mp hy
 exact Zgq z
abbrev ZcR : Stmt := top 12
abbrev ZcS : Stmt := top 13
abbrev Zfg : Stmt := top 18
abbrev ZkT : Stmt := top 45
abbrev Zfd : Stmt := top 47
def Ws : Nat → Int → Int → Int
 | 0, r, _ => r
 | g + 1, r, p => if r % p = 0 then Ws g (r / p) p else r
def pr : Nat → Int → Int → List Int → List Int
 | 0, _, _, acc => acc
 | f + 1, r, p, acc => if 1 < r then pr f (Ws 6 r p) (p + 1) (if r % p = 0 then acc ++ [p] else acc) else acc
def Zee : Nat → Int → Int → Bool
 | 0, r, _ => decide (r ≤ 1)
 | f + 1, r, p => if 1 < r then Zee f (Ws 6 r p) (p + 1) else true
def ZF (n : Int) : List Int := pr 100 n 2 []
def YX (n : Int) : Int := (ZF n).foldl (fun f p => f / p * (p - 1)) n
def Zd9 : Nat → Int → Int → Int
 | 0, a, _ => a
 | f + 1, a, b => if 0 < b then Zd9 f b (a % b) else a
def V1 (a b : Int) : Int := Zd9 100 a b
def Vv (n : Int) : Int := (((Ya 1 n.toNat).filter fun k => decide (V1 k n = 1)).length : Nat)
def okN (n : Nat) : Bool := Zee 100 n 2 && (ZF n).all (fun p => decide (2 ≤ p) && decide (p ≤ 60)) && decide (YX n = Vv n) && decide (1 ≤ YX n) && decide (YX n ≤ 60)
theorem Zhz : ((List.range 61).all fun n => n == 0 || okN n) = true := by decide +kernel
theorem Vp {n : Nat} (h1 : 1 ≤ n) (h2 : n ≤ 60) : Zee 100 n 2 = true ∧ (∀ p ∈ ZF n, 2 ≤ p ∧ p ≤ 60) ∧ YX n = Vv n ∧ 1 ≤ YX n ∧ YX n ≤ 60 := by
 have h := List.all_eq_true.mp Zhz n (List.mem_range.mpr (by omega))
 have h0 : (n == 0) = false := by simp; omega
 rw [h0, Bool.false_or] at h
 unfold okN at h
 simp only [Bool.and_eq_true, decide_eq_true_eq, List.all_eq_true] at h
 exact ⟨h.1.1.1.1, h.1.1.1.2, h.1.1.2, h.1.2, h.2⟩
theorem VE {r p : Int} (hr : 1 ≤ r) (hp : 2 ≤ p) (h : r % p = 0) : 1 ≤ r / p ∧ 2 * (r / p) ≤ r := by
 have e : p * (r / p) = r := Int.mul_ediv_cancel' (Int.dvd_of_emod_eq_zero h)
 generalize r / p = q at e
 have q1 : 1 ≤ q := by
  apply Classical.byContradiction
  intro hn
  have : p * q ≤ p * 0 := Int.mul_le_mul_of_nonneg_left (by omega) (by omega)
  omega
 have : 2 * q ≤ p * q := Int.mul_le_mul_of_nonneg_right hp (by omega)
 omega
theorem JT : ∀ (g : Nat) {r p : Int}, 1 ≤ r → 2 ≤ p → 1 ≤ Ws g r p ∧ Ws g r p ≤ r
 | 0, r, p, hr, _ => ⟨hr, Int.le_refl _⟩
 | g + 1, r, p, hr, hp => by
  unfold Ws
  by_cases h : r % p = 0
  ·rw [if_pos h]
   obtain ⟨a, b⟩ := VE hr hp h
   have := JT g (r := r / p) (p := p) a hp
   omega
  ·rw [if_neg h]; omega
theorem X7 {g : Nat} {r p : Int} (h : ¬ r % p = 0) : Ws g r p = r := by
 cases g with
 | zero => rfl
 | succ g => unfold Ws; rw [if_neg h]
def Vc : Sp := fun vs H Q _ => ∃ n : Nat, vs = [.int n] ∧ 1 ≤ n ∧ n ≤ 60 ∧ ∀ l H', Same H H' → H' l = some (.lst ((ZF n).map V.int)) → Q (.ref l) H'
def ZaH : Sp := fun vs H Q _ => ∃ n : Nat, vs = [.int n] ∧ 1 ≤ n ∧ n ≤ 60 ∧ ∀ H', Same H H' → Q (.int (YX n)) H'
def ZeR : Sp := fun vs H Q _ => ∃ a b : Int, vs = [.int a, .int b] ∧ 0 ≤ b ∧ b < 100 ∧ Q (.int (V1 a b)) H
def XT : Sp := fun vs H Q _ => ∃ n : Nat, vs = [.int n] ∧ 1 ≤ n ∧ n ≤ 60 ∧ ∀ H', Same H H' → Q (.int (Vv n)) H'
section
variable {P : Program} {w : World} {K : PySem.W.Frag} {mg : Str → Option Value} {base : Heap}
theorem ZdT {f : Addr} {fd : FuncData} (F : YL K "primes_of" "primes_of" ZcR f fd) (T : Bl mg) : ZH P w K mg base ZL 1 f fd ["n"] Vc := by
 refine F.ok (FS (N := ["n", "primes", "rest", "p"])) (fun vs H Q E h => ?_) (fun cdv A outer s H vs Q E hr h => ?_)
 ·obtain ⟨n, rfl, _⟩ := h; rfl
 ·obtain ⟨n, rfl, n1, n60, q⟩ := h
  obtain ⟨hends, hps, _⟩ := Vp n1 n60
  refine ⟨_, Zn (Zy 1 rfl (ZD Zl)) (Zn (Zy 2 rfl (vn 0)) (Zn (Zy 3 rfl Zp)
   (Zn (Y8 PassesOwn.never (Zx ZaY (vn 2) Zp (ZB _))
    (Zn (Z4 (Zx XD (Zq Z5 (vn 2) (vn 3)) Zp (ZB _)) (Zo (YC (WZ PySem.F.plainAttrs_list PySem.F.slot_list_append PySem.F.type_list_append ZV (vn 1) (pc (vn 3) Zl)))) ZC)
    (Zn (Y8 PassesOwn.never (Zx XD (Zq Z5 (vn 2) (vn 3)) Zp (ZB _)) (Zo (Zy 2 rfl (Zq YD (vn 2) (vn 3)))))
    (Zo (Zb0 (i := 3) (Z6 (by kernel_rfl)) rfl (WM (by kernel_rfl)) Zp Xu (.inl rfl))))))
   (Zo (Zs (vn 1)))))), ?_⟩
  refine ⟨by decide, fun l hl => ⟨_, rfl, ?_⟩⟩
  have s1 : Same H (upd H l (.lst [])) := Same.upd hl
  refine YM (fun f σ' H' => ∃ (r p : Int) (acc : List Int), σ' = [some (.int n), some (.ref l), some (.int r), some (.int p)] ∧ H' = upd H l (.lst (acc.map V.int)) ∧ 1 ≤ r ∧ r ≤ 60 ∧ 2 ≤ p ∧ p + f = 102 ∧ acc.length + f ≤ 100 ∧ Zee f r p = true ∧ pr f r p acc = ZF n)
   (fun σ' H' => ∃ r p : Option V, σ' = [some (.int n), some (.ref l), r, p] ∧ H' = upd H l (.lst ((ZF n).map V.int))) ?hend ⟨100, n, 2, [], rfl, rfl, by omega, by omega, by omega, by omega, by decide, hends, rfl⟩ ?turn
  case hend =>
   rintro σ' H' ⟨r, p, rfl, rfl⟩
   exact ⟨_, rfl, q l _ (Same.upd hl) Zm⟩
  case turn =>
   rintro hend f σ' H' ⟨r, p, acc, rfl, rfl, r1, r60, p2, pf, al, he, hp⟩
   refine ⟨_, rfl, _, _, rfl, rfl, _, rfl, ?_⟩
   refine YS (fun h1 => ?_) (fun h1 => ?_)
   rotate_left
   ·have h1 : ¬ 1 < r := fun z => h1 (decide_eq_true z)
    refine hend _ _ ⟨_, _, rfl, ?_⟩
    have : pr f r p acc = acc := by cases f with | zero => rfl | succ f => unfold pr; rw [if_neg h1]
    rw [← hp, this]
   have h1 : 1 < r := of_decide_eq_true h1
   obtain ⟨g, rfl⟩ : ∃ g, f = g + 1 := by
    cases f with
    | zero => unfold Zee at he; have := of_decide_eq_true he; omega
    | succ g => exact ⟨g, rfl⟩
   refine ⟨_, fun _ _ z => z, ?_⟩
   unfold Zee at he
   unfold pr at hp
   rw [if_pos h1] at he hp
   have sz : (16777216 : Nat) = sizeLine := by decide
   refine ⟨_, rfl, _, rfl, _, _, rfl, rfl, (by show (0 : Int) < p; omega), rfl, _, rfl, ?_⟩
   obtain ⟨acc', hacc, hp', hA⟩ : ∃ acc' : List Int, acc' = (if r % p = 0 then acc ++ [p] else acc) ∧ pr g (Ws 6 r p) (p + 1) acc' = ZF n ∧ acc'.length ≤ acc.length + 1 := ⟨_, rfl, hp, by split <;> simp⟩
   obtain ⟨sb1, sb2⟩ := JT 6 (r := r) (p := p) r1 p2
   refine YS (fun h2 => ?_) (fun h2 => ?_)
   ·have h2 : r % p = 0 := V.int.inj (of_decide_eq_true h2)
    refine ⟨_, rfl, .inl ⟨rfl, _, .of Zm⟩, _, rfl, l, _, _, rfl, rfl, Zm, by rw [Za]; omega, ?_⟩
    have e1 : upd (upd H l (.lst (acc.map V.int))) l (.lst (acc.map V.int ++ [.int p])) = upd H l (.lst (acc'.map V.int)) := by
     rw [ZgI, hacc, if_pos h2, List.map_append]; rfl
    rw [e1]
    refine YM (fun m σ'' H'' => ∃ (r' : Int) (g' : Nat), σ'' = [some (.int n), some (.ref l), some (.int r'), some (.int p)] ∧ H'' = upd H l (.lst (acc'.map V.int)) ∧ 1 ≤ r' ∧ r' ≤ 60 ∧ r' < 2 ^ g' ∧ Ws g' r' p = Ws 6 r p ∧ m = r'.toNat)
     (fun σ'' H'' => σ'' = [some (.int n), some (.ref l), some (.int (Ws 6 r p)), some (.int p)] ∧ H'' = upd H l (.lst (acc'.map V.int))) ?hend2 ⟨_, r, 6, rfl, rfl, r1, r60, by omega, rfl, rfl⟩ ?turn2
    case hend2 =>
     rintro σ'' H'' ⟨rfl, rfl⟩
     exact ⟨_, rfl, _, _, rfl, rfl, g, by omega, Ws 6 r p, p + 1, acc', rfl, rfl, sb1, by omega, by omega, by omega, by omega, he, hp'⟩
    case turn2 =>
     rintro hend2 m σ'' H'' ⟨r', g', rfl, rfl, a1, a2, a3, a4, rfl⟩
     refine ⟨_, rfl, _, rfl, _, _, rfl, rfl, (by show (0 : Int) < p; omega), rfl, _, rfl, ?_⟩
     refine YS (fun h3 => ?_) (fun h3 => ?_)
     ·have h3 : r' % p = 0 := V.int.inj (of_decide_eq_true h3)
      obtain ⟨b1, b2⟩ := VE a1 p2 h3
      obtain ⟨g2, rfl⟩ : ∃ g2, g' = g2 + 1 := by
       cases g' with
       | zero => simp at a3; omega
       | succ g2 => exact ⟨g2, rfl⟩
      unfold Ws at a4
      rw [if_pos h3] at a4
      refine ⟨_, fun _ _ z => z, _, rfl, _, rfl, _, _, rfl, rfl, ⟨by omega, by omega⟩, (r' / p).toNat, by omega, r' / p, g2, rfl, rfl, b1, by omega, ?_, a4, rfl⟩
      rw [Int.pow_succ] at a3
      omega
     ·have h3 : ¬ r' % p = 0 := fun z => h3 (decide_eq_true (congrArg V.int z))
      rw [X7 h3] at a4
      exact hend2 _ _ ⟨by rw [a4], rfl⟩
   ·have h2 : ¬ r % p = 0 := fun z => h2 (decide_eq_true (congrArg V.int z))
    have e1 : upd H l (.lst (acc.map V.int)) = upd H l (.lst (acc'.map V.int)) := by rw [hacc, if_neg h2]
    rw [e1]
    have e2 : Ws 6 r p = r := X7 h2
    refine YM (fun m σ'' H'' => σ'' = [some (.int n), some (.ref l), some (.int r), some (.int p)] ∧ H'' = upd H l (.lst (acc'.map V.int)))
     (fun σ'' H'' => σ'' = [some (.int n), some (.ref l), some (.int r), some (.int p)] ∧ H'' = upd H l (.lst (acc'.map V.int))) ?hend3 ⟨0, rfl, rfl⟩ ?turn3
    case hend3 =>
     rintro σ'' H'' ⟨rfl, rfl⟩
     exact ⟨_, rfl, _, _, rfl, rfl, g, by omega, r, p + 1, acc', rfl, rfl, r1, by omega, by omega, by omega, by omega, e2 ▸ he, e2 ▸ hp'⟩
    case turn3 =>
     rintro hend3 m σ'' H'' ⟨rfl, rfl⟩
     refine ⟨_, rfl, _, rfl, _, _, rfl, rfl, (by show (0 : Int) < p; omega), rfl, _, rfl, ?_⟩
     exact YR (fun z => h2 (V.int.inj (of_decide_eq_true z))) (hend3 _ _ ⟨rfl, rfl⟩)
theorem ZdU {f : Addr} {fd : FuncData} (F : YL K "places" "places" ZcS f fd) (T : Bl mg) (GP : Fn P w K mg base ZL 1 "primes_of" ["n"] Vc) : ZH P w K mg base ZL 2 f fd ["n"] ZaH := by
 refine F.ok (FS (N := ["n", "found", "p"])) (fun vs H Q E h => ?_) (fun cdv A outer s H vs Q E hr h => ?_)
 ·obtain ⟨n, rfl, _⟩ := h; rfl
 ·obtain ⟨n, rfl, n1, n60, q⟩ := h
  obtain ⟨_, hps, _⟩ := Vp n1 n60
  refine ⟨_, Zn (Zy 1 rfl (vn 0)) (Zn (ZI PassesOwn.never rfl (itL K (Yc GP hr Zu (pc (vn 0) Zl))) (gn 2)
   (Zo (Zy 1 rfl (Zq Z0 (Zq YD (vn 1) (vn 2)) (Zq Yl (vn 2) Zp)))))
   (Zo (Zs (vn 1)))), ?_⟩
  refine ⟨_, rfl, _, rfl, n, rfl, n1, n60, fun l H1 s1 hl => ⟨l, rfl, ⟨_, .of hl⟩, ?_⟩⟩
  refine Xc (WQ (Wp.of hl)) (fun i σ' H' => ∃ v2 : Option V, σ' = [some (.int n), some (.int (((ZF n).take i).foldl (fun f p => f / p * (p - 1)) n)), v2] ∧ H' = H1) ⟨none, rfl, rfl⟩ (fun _ _ _ ⟨_, _, e⟩ => e ▸ Same.refl _) ?_ ?_
  ·rintro i x σ' H' hx ⟨v2, rfl, rfl⟩
   rw [Zc] at hx
   cases e : (ZF n)[i]? with
   | none => rw [e] at hx; cases hx
   | some p =>
    rw [e] at hx
    cases hx
    obtain ⟨a1, a2⟩ := hps p (List.mem_of_getElem? e)
    refine ⟨_, rfl, _, rfl, _, _, rfl, rfl, ⟨by omega, by omega⟩, _, rfl, _, _, rfl, rfl, _, _, rfl, rfl, .inr ⟨by omega, by omega⟩, ?_⟩
    refine ⟨some (.int p), ?_, rfl⟩
    have ht : (ZF n).take (i + 1) = (ZF n).take i ++ [p] := by rw [List.take_add_one, e]; rfl
    rw [ht, List.foldl_append]
    rfl
  ·rintro σ' H' ⟨v2, rfl, rfl⟩
   refine ⟨_, rfl, ?_⟩
   rw [Za, List.take_length]
   exact q H' s1
theorem Zjv {f : Addr} {fd : FuncData} (F : YL K "_law_shared" "_law_shared" ZkT f fd) : ZH P w K mg base ZL 1 f fd ["_law_one", "_law_other"] ZeR := by
 refine F.ok (FS (N := ["_law_one", "_law_other"])) (fun vs H Q E h => ?_) (fun cdv A outer s H vs Q E hr h => ?_)
 ·obtain ⟨a, b, rfl, _⟩ := h; rfl
 ·obtain ⟨a, b, rfl, b0, b1, q⟩ := h
  refine ⟨_, Zn (Y8 PassesOwn.never (Zx ZaY (vn 1) Zp (ZB _)) (Zo (Zjh (i := 0) (j := 1) rfl (Z6 (by kernel_rfl)) rfl rfl (by decide) (Yz (by kernel_rfl)) (Yz (by kernel_rfl)) (pc (vn 1) (pc (Zq Z5 (vn 0) (vn 1)) Zl)) rfl)))
   (Zo (Zs (vn 0))), ?_⟩
  refine YM (fun m σ' H' => ∃ (a' b' : Int), σ' = [some (.int a'), some (.int b')] ∧ H' = H ∧ 0 ≤ b' ∧ b' < m ∧ Zd9 m a' b' = V1 a b) (fun σ' H' => ∃ b' : Option V, σ' = [some (.int (V1 a b)), b'] ∧ H' = H) ?hend ⟨100, a, b, rfl, rfl, b0, b1, rfl⟩ ?turn
  case hend =>
   rintro σ' H' ⟨b', rfl, rfl⟩
   exact ⟨_, rfl, q⟩
  case turn =>
   rintro hend m σ' H' ⟨a', b', rfl, rfl, c0, c1, c2⟩
   refine ⟨_, rfl, _, _, rfl, rfl, _, rfl, ?_⟩
   obtain ⟨m2, rfl⟩ : ∃ m2, m = m2 + 1 := ⟨m - 1, by omega⟩
   unfold Zd9 at c2
   refine YS (fun h1 => ?_) (fun h1 => ?_)
   ·have h1 : 0 < b' := of_decide_eq_true h1
    rw [if_pos h1] at c2
    refine ⟨_, fun _ _ z => z, _, rfl, _, rfl, _, rfl, _, _, rfl, rfl, h1, _, _, rfl, m2, by omega, b', a' % b', rfl, rfl, Int.emod_nonneg _ (by omega), ?_, c2⟩
    have := Int.emod_lt_of_pos a' h1
    omega
   ·have h1 : ¬ 0 < b' := fun z => h1 (decide_eq_true z)
    rw [if_neg h1] at c2
    exact hend _ _ ⟨_, by rw [c2], rfl⟩
end
def JH (o : Option (List V)) (c : Int) : Bool := match o with
 | none => false
 | some xs => decide ((xs.length : Int) = c) && xs.all isI
theorem Wn (xs : List V) (c : Int) : JH (some xs) c = (decide ((xs.length : Int) = c) && xs.all isI) := rfl
def Zij (K : PySem.W.Frag) : Sp := fun vs H Q _ => ∃ (n : Nat) (x : V) (o : Option (List V)), vs = [.int n, x] ∧ 1 ≤ n ∧ n ≤ 60 ∧ Th K H x o ∧ ∀ H', Same H H' → Q (.bl (JH o (YX n))) H'
section
variable {P : Program} {w : World} {K : PySem.W.Frag} {mg : Str → Option Value} {base : Heap}
theorem ZfI {f : Addr} {fd : FuncData} (F : YL K "_law_places" "_law_places" Zfd f fd) (T : Bl mg) (GG : Fn P w K mg base ZL 1 "_law_shared" ["_law_one", "_law_other"] ZeR) : ZH P w K mg base ZL 2 f fd ["_law_n"] XT := by
 refine F.ok (FS (N := ["_law_n"])) (fun vs H Q E h => ?_) (fun cdv A outer s H vs Q E hr h => ?_)
 ·obtain ⟨n, rfl, _⟩ := h; rfl
 ·obtain ⟨n, rfl, n1, n60, q⟩ := h
  refine ⟨_, Zo (Zs (cb (Z7 K) T.len (pc (Xw ["_law_k"] [0] ["_law_k", "_law_n"] rfl (Zjb T.range (pc Zp (pc (Zq ZO (vn 0) Zp) Zl))) (fun _ _ _ _ _ => gn 0)
   (fun _ _ _ _ _ => Jt (Zx XD (Yc GG hr Zu (pc (vn 0) (pc (vn 1) Zl))) Zp (ZB _))) (fun _ _ _ _ _ => vn 0)) Zl))), ?_⟩
  refine ⟨_, rfl, _, _, rfl, rfl, 1, (n : Int) + 1, rfl, ⟨by omega, by omega, by omega, by omega⟩, ?_⟩
  have en : ((n : Int) + 1 - 1).toNat = n := by omega
  rw [en]
  refine Wo (Wh 1 n) [some (.int n)] rfl (fun y => match y with | .int k => decide (V1 k n = 1) | _ => false) (fun y => y) (by rw [Za, Yf]; omega) ?_ ?_
  ·intro i y H' hy s' R R' g1 g2
   rw [Zc] at hy
   cases e : (Ya 1 n)[i]? with
   | none => rw [e] at hy; cases hy
   | some k =>
    rw [e] at hy
    cases hy
    refine ⟨_, rfl, _, rfl, k, n, rfl, by omega, by omega, rfl, _, rfl, ?_⟩
    refine YS (fun b1 => ?_) (fun b1 => ?_)
    ·have b1 : V1 k n = 1 := V.int.inj (of_decide_eq_true b1)
     exact ⟨_, rfl, g1 (decide_eq_true b1) H' (Same.refl _)⟩
    ·have b1 : ¬ V1 k n = 1 := fun z => b1 (decide_eq_true (congrArg V.int z))
     exact g2 (decide_eq_false b1) H' (Same.refl _)
  ·intro D H' hD s' hD'
   refine ⟨D, _, rfl, .inl (.of hD'), ?_⟩
   have e : ((((Ya 1 n).map V.int).filter fun y => match y with | .int k => decide (V1 k n = 1) | _ => false).map fun y => y).length = ((Ya 1 n).filter fun k => decide (V1 k n = 1)).length := by
    rw [List.map_id', List.filter_map, Za]; rfl
   rw [e]
   have := q H' s'
   unfold Vv at this
   rw [Zj] at this
   exact this
theorem ZfJ {f : Addr} {fd : FuncData} (F : YL K "is_number" "is_number" Zfg f fd) (T : Bl mg) (GW : Fn P w K mg base ZL 1 "is_whole" ["thing"] (Zcw K)) (GP : Fn P w K mg base ZL 2 "places" ["n"] ZaH) : ZH P w K mg base ZL 3 f fd ["n", "thing"] (Zij K) := by
 refine F.ok (FS (N := ["n", "thing"])) (fun vs H Q E h => ?_) (fun cdv A outer s H vs Q E hr h => ?_)
 ·obtain ⟨n, x, o, rfl, _⟩ := h; rfl
 ·obtain ⟨n, x, o, rfl, n1, n60, hx, q⟩ := h
  refine ⟨_, Zo (Zs (Vo (cb (Vx K "tuple") T.isi (pc (vn 1) (pc (tyv "tuple" T.tuple) Zl))) (Vo (J4 XD (cb (Z7 K) T.len (pc (vn 1) Zl)) (Yc GP hr Zu (pc (vn 0) Zl)) (ZB _))
   (Zb2 (cb (ZbD rfl) T.all (pc (Xw ["x"] [] ["x"] rfl (itT K (vn 1)) (fun _ _ _ _ _ => gn 0) (fun _ _ _ _ _ => ZK) (fun _ _ _ _ _ => Yc GW hr Zu (pc (vn 0) Zl))) Zl)))))), ?_⟩
  obtain ⟨t, hk, ht⟩ := hx.kd
  refine ⟨_, rfl, x, t, rfl, hk, _, rfl, ?_⟩
  rw [ht]
  cases hx with
  | other h hn => exact YR (by simp) (q H (Same.refl H))
  | @tup a xs ha hl he =>
   refine V0 rfl ?_
   refine ⟨_, rfl, a, xs, rfl, .inr (.of ha), _, rfl, n, rfl, n1, n60, fun H1 s1 => ⟨rfl, _, rfl, ?_⟩⟩
   refine YS (fun h1 => ?_) (fun h1 => ?_)
   ·have h1 : (xs.length : Int) = YX n := V.int.inj (of_decide_eq_true h1)
    have ha1 := s1 _ _ ha
    refine ⟨_, rfl, a, rfl, ⟨xs, .of ha1⟩, ?_⟩
    refine YA (Yn (YW.of ha1)) [] rfl (fun y => .bl (isI y)) (by omega) ?_ ?_
    ·intro i y H' hy s' R g1
     obtain ⟨n', d, hk', _⟩ := (he y (List.mem_of_getElem? hy)).mono (s1.trans s')
     exact ⟨_, rfl, y, n', rfl, hk', g1 H' (Same.refl _)⟩
    ·intro D H' hD s' hD'
     refine ⟨D, xs.map isI, rfl, .of (by rw [hD', List.map_map]; rfl), ?_⟩
     have e : (xs.map isI).all id = xs.all isI := by rw [List.all_map]; rfl
     rw [e]
     have := q H' (s1.trans s')
     rw [Wn] at this
     rw [decide_eq_true h1, Bool.true_and] at this
     exact this
   ·have h1 : ¬ (xs.length : Int) = YX n := fun z => h1 (decide_eq_true (congrArg V.int z))
    have := q H1 s1
    rw [Wn] at this
    rw [decide_eq_false h1, Bool.false_and] at this
    exact this
theorem Wu (m : Nat) : (List.replicate m [V.int 0]).flatten = (List.replicate m (0 : Int)).map V.int := by
 induction m with
 | zero => rfl
 | succ m ih => rw [List.replicate_succ, List.flatten_cons, ih, List.replicate_succ]; rfl
end
section
variable {P : Program} {w : World} {K : PySem.W.Frag} {mg : Str → Option Value} {base : Heap}
end
end N24
namespace L2
open PySem PySem.Spec PyProof.Rows
theorem Ziy {X : Cx} (K : PySem.W.Frag) {k : Nat} (hr : WO k X.A) (hK : X.K = K := by rfl) : Yi X (.builtin "repr") (fun xs H Q => ∃ x d, xs = [x] ∧ Xj K H x d ∧ Zh7 d ∧ Q (.str d.shown) H) := hK ▸ Zep hr
end L2
namespace N24
open PySem L2 PySem.Spec PyProof.Rows
section
variable {P : Program} {w : World} {K : PySem.W.Frag} {mg : Str → Option Value} {base : Heap}
end
end N24
namespace N24
open PySem L2 PySem.Spec PyProof.Rows
open Num
abbrev Zi7 : Stmt := top 14
abbrev ZkR : Stmt := top 15
abbrev Zfc : Stmt := top 16
abbrev Zfb : Stmt := top 17
structure Bl2 (mg : Str → Option Value) : Prop where
 enumerate : mg "enumerate" = none
 max : mg "max" = none
theorem YE {a : List Int} {i : Nat} (h : i < a.length) : VU (a.map V.int) (i : Int) = some (.int (co a i)) := YG (by rw [Zc, Z8 h]; rfl)
theorem YN (a : List Int) (i : Nat) (v : Int) : (a.map V.int).set i (V.int v) = (a.set i v).map V.int := by rw [List.map_set]
theorem Yu {a : List Int} {i : Nat} {y : V} (h : (a.map V.int)[i]? = some y) : i < a.length ∧ y = .int (co a i) := by
 rw [Zc] at h
 by_cases hi : i < a.length
 ·rw [Z8 hi] at h
  exact ⟨hi, (Option.some.inj h).symm⟩
 ·rw [List.getElem?_eq_none (by omega)] at h
  cases h
theorem YQ {n i : Nat} (h : i < n) : ixN n (i : Int) = some i := by
 unfold ixN
 rw [if_pos (Int.natCast_nonneg _), if_pos (by omega), Zj]
theorem ZdH (m : Nat) : (List.replicate m [V.int 0]).flatten = (List.replicate m (0 : Int)).map V.int := Wu m
theorem J9 {X : Cx} : ZlP X (fun x y H Q => ∃ (p : Addr) (xs : List V) (i : Nat) (v : V), x = .ref p ∧ y = .int i ∧ H p = some (.lst xs) ∧ xs[i]? = some v ∧ Q v H) := by
 intro pins s σ H x y ov iv Q I rx ry h
 obtain ⟨p, xs, i, v, rfl, rfl, hp, hv, q⟩ := h
 cases (show ov = Value.ref p from rx)
 obtain ⟨t, rfl⟩ := ry
 obtain ⟨its, r, pl, hz⟩ := I.list (.of hp)
 obtain ⟨w, ew, rw'⟩ := r.get hv
 have hl := r.length
 have hn := Vu
 have hi : i < xs.length := (List.getElem?_eq_some_iff.mp hv).1
 exact wpAny_getItem_list pl.isList (Int.natCast_nonneg _) (by omega) (by simpa using ew) ⟨v, H, I, rw', q⟩
def Zig (K : PySem.W.Frag) : Sp := fun vs H Q _ => ∃ (a : Addr) (ps : List Int) (st : Nat), vs = [.ref a, .int st] ∧ Wp K H a (ps.map V.int) ∧ 1 ≤ ps.length ∧ (ps.length - 1) * st ≤ 100000 ∧ ps.length ≤ 1000 ∧ st ≤ 1000 ∧ ∀ l H', Same H H' → H' l = some (.lst ((stM ps st).map V.int)) → Q (.ref l) H'
section
variable {P : Program} {w : World} {K : PySem.W.Frag} {mg : Str → Option Value} {base : Heap}
theorem Zjs {f : Addr} {fd : FuncData} (F : YL K "stretched" "stretched" Zi7 f fd) (T : Bl mg) (T2 : Bl2 mg) : ZH P w K mg base ZL 1 f fd ["powers", "step"] (Zig K) := by
 refine F.ok (FS (N := ["powers", "step", "wide", "k", "x"])) (fun vs H Q E h => ?_) (fun cdv A outer s H vs Q E hr h => ?_)
 ·obtain ⟨a, ps, st, rfl, _⟩ := h; rfl
 ·obtain ⟨a, ps, st, rfl, hS, hl, hb, hl2, hst, q⟩ := h
  refine ⟨_, Zn (Zy 2 rfl (Zq Wc (ZD (pc Zp Zl)) (Zq ZO (Zq Z0 (Zq Yl (cb (Z7 K) T.len (pc (vn 0) Zl)) Zp) (vn 1)) Zp)))
   (Zn (ZI PassesOwn.never rfl (Zdi K T2.enumerate (pc (vn 0) Zl)) (g2 K 3 4 rfl (gn 3) (gn 4))
    (Zo (Xn (vn 4) (Xo (vn 2) (Zq Z0 (vn 3) (vn 1)) Yr))))
   (Zo (Zs (vn 2)))), ?_⟩
  refine ⟨(by show 1 ≤ sizeLine; decide), fun l0 n0 => ?_⟩
  have s0 : Same H (upd H l0 (.lst [.int 0])) := Same.upd n0
  refine ⟨_, rfl, a, _, rfl, .inl (s0.seq hS), _, _, rfl, rfl, _, rfl, _, _, rfl, rfl, .inl ⟨?_, ?_⟩, _, _, rfl, rfl, l0, _, _, rfl, rfl, Zm, ?_, ?_, ?_, fun l nl => ?_⟩
  ·rw [Za]; omega
  ·rw [Za]; omega
  ·rw [Za]; have : (0 : Int) ≤ ((ps.length : Int) - 1) * st := Int.mul_nonneg (by omega) (by omega); omega
  ·rw [Za]
   have : ((ps.length : Int) - 1) * st = (((ps.length - 1) * st : Nat) : Int) := by rw [Int.natCast_mul]; congr 1; omega
   omega
  ·rw [Za]
   have : ((ps.length : Int) - 1) * st = (((ps.length - 1) * st : Nat) : Int) := by rw [Int.natCast_mul]; congr 1; omega
   rw [this]
   show 1 * _ ≤ sizeLine
   have e : (16777216 : Nat) = sizeLine := by decide
   omega
  have eN : (((ps.map V.int).length : Int) - 1) * st + 1 = (((ps.length - 1) * st + 1 : Nat) : Int) := by
   rw [Za, Int.natCast_add, Int.natCast_mul]
   congr 2
   omega
  rw [eN, Zj, ZdH]
  have nl' : H l = none := s0.free nl
  have s1 := s0.trans (Same.upd (o := .lst ((List.replicate ((ps.length - 1) * st + 1) (0 : Int)).map V.int)) nl)
  refine ⟨_, rfl, a, rfl, .inl ⟨⟨_, s1.seq hS⟩, ?_⟩⟩
  refine Wa Zag (fun i σ' H' => ∃ (cur : List Int) (v3 v4 : Option V), σ' = [some (.ref a), some (.int st), some (.ref l), v3, v4] ∧ Same H H' ∧ H' l = some (.lst (cur.map V.int)) ∧ cur.length = (ps.length - 1) * st + 1 ∧ UO st (ps.drop i) i cur = stM ps st)
   ⟨_, _, _, rfl, s1, Zm, List.length_replicate .., rfl⟩ (fun i σ' H' h => h.choose_spec.choose_spec.choose_spec.2.1.seq hS) ?_ ?_
  ·rintro i y σ' H' T' hy ⟨cur, v3, v4, rfl, sm, hl', hlen, hst'⟩ nT
   obtain ⟨hi, rfl⟩ := Yu hy
   refine ⟨T', _, rfl, .of Zm, rfl, _, _, rfl, _, _, rfl, rfl, _, rfl, _, rfl, _, rfl, _, rfl, _, _, rfl, rfl, .inl ⟨by omega, by omega⟩, l, _, _, i * st, rfl, rfl, Same.upd nT _ _ hl', ?_, ?_⟩
   rotate_left
   ·have hlt : i * st < cur.length := by
     rw [hlen]
     have : i * st ≤ (ps.length - 1) * st := Nat.mul_le_mul_right _ (by omega)
     omega
    refine ⟨cur.set (i * st) (co ps i), _, _, rfl, (sm.trans (Same.upd nT)).updr nl', ?_, ?_, ?_⟩
    ·rw [Zm, YN]
    ·rw [List.length_set]; exact hlen
    ·rw [← hst']
     have : ps.drop i = co ps i :: ps.drop (i + 1) := by
      rw [List.drop_eq_getElem_cons hi]
      congr 1
      have := Z8 hi
      rw [Zf hi] at this
      exact Option.some.inj this
     rw [this, Num.UO]
   ·rw [Za]
    have : ((i : Int) * (st : Int)) = ((i * st : Nat) : Int) := by rw [Int.natCast_mul]
    rw [this]
    refine YQ ?_
    rw [hlen]
    have : i * st ≤ (ps.length - 1) * st := Nat.mul_le_mul_right _ (by omega)
    omega
  ·rintro σ' H' ⟨cur, v3, v4, rfl, sm, hl', hlen, hst'⟩
   rw [Za, List.drop_length, Num.UO] at hst'
   rw [hst'] at hl'
   exact ⟨_, rfl, q l H' sm hl'⟩
end
def Zii (K : PySem.W.Frag) : Sp := fun vs H Q _ => ∃ (a b : Addr) (ps ds : List Int), vs = [.ref a, .ref b] ∧ Wp K H a (ps.map V.int) ∧ Wp K H b (ds.map V.int) ∧ 1 ≤ ds.length ∧ ds.length ≤ ps.length ∧ ps.length ≤ 100000 ∧ small ds = true ∧
 ∀ l H', Same H H' → H' l = some (.lst ((ZcY ps ds).map V.int)) → Q (.ref l) H'
theorem Y5 {ps : List Int} {i : Nat} (hi : i < ps.length) : ps.drop i = co ps i :: ps.drop (i + 1) := by
 rw [List.drop_eq_getElem_cons hi]
 congr 1
 have := Z8 hi
 rw [Zf hi] at this
 exact Option.some.inj this
theorem Vz {a : List Int} {i : Nat} (h : i < a.length) : (a.map V.int)[i]? = some (.int (co a i)) := by rw [Zc, Z8 h]; rfl
section
variable {P : Program} {w : World} {K : PySem.W.Frag} {mg : Str → Option Value} {base : Heap}
theorem Zjt {f : Addr} {fd : FuncData} (F : YL K "quotient" "quotient" ZkR f fd) (T : Bl mg) (T2 : Bl2 mg) : ZH P w K mg base ZL 1 f fd ["powers", "divisor"] (Zii K) := by
 refine F.ok (FS (N := ["powers", "divisor", "rest", "top", "found", "k", "j", "x"])) (fun vs H Q E h => ?_) (fun cdv A outer s H vs Q E hr h => ?_)
 ·obtain ⟨a, b, ps, ds, rfl, _⟩ := h; rfl
 ·obtain ⟨a, b, ps, ds, rfl, hA, hB, hl1, hl2, hl3, hsm, q⟩ := h
  refine ⟨_, Zn (Zy 2 rfl (ct ZZ T.list (pc (vn 0) Zl)))
   (Zn (Zy 3 rfl (Zq Yl (cb (Z7 K) T.len (pc (vn 1) Zl)) Zp))
   (Zn (Zy 4 rfl (Zq Wc (ZD (pc Zp Zl)) (Zq Yl (cb (Z7 K) T.len (pc (vn 2) Zl)) (vn 3))))
   (Zn (ZI PassesOwn.never rfl (ZkZ T.range (pc (Zq Yl (cb (Z7 K) T.len (pc (vn 4) Zl)) Zp) (pc (W9 Wq Zp) (pc (W9 Wq Zp) Zl)))) (gn 5)
    (Zn (Xn (ZN (ixL K) (vn 2) (Zq ZO (vn 5) (vn 3)) (fun _ _ => rfl)) (Xo (vn 4) (vn 5) Yr))
    (Zo (ZI PassesOwn.never rfl (Zdi K T2.enumerate (pc (vn 1) Zl)) (g2 K 6 7 rfl (gn 6) (gn 7))
     (Zo (J3 (vn 2) (Zq ZO (vn 5) (vn 6)) J9 (Zq Z0 (ZN (ixL K) (vn 4) (vn 5) (fun _ _ => rfl)) (vn 7)) Zf9 Yr))))))
   (Zo (Zs (vn 4)))))), ?_⟩
  refine ⟨_, rfl, a, _, rfl, .inl hA, fun r nr => ?_⟩
  have s1 : Same H (upd H r (.lst (ps.map V.int))) := Same.upd nr
  refine ⟨_, rfl, b, _, rfl, .inl (s1.seq hB), _, _, rfl, rfl, ?_⟩
  refine ⟨(by show 1 ≤ sizeLine; decide), fun l0 n0 => ?_⟩
  have s2 := s1.trans (Same.upd (o := .lst [.int 0]) n0)
  refine ⟨_, rfl, r, _, rfl, .inl (.of (Same.upd n0 _ _ Zm)), _, rfl, _, _, rfl, rfl, l0, _, _, rfl, rfl, Zm, ?_, ?_, ?_, fun l nl => ?_⟩
  ·rw [Za, Za]; omega
  ·rw [Za, Za]; omega
  ·rw [Za, Za]
   show 1 * _ ≤ sizeLine
   have e : (16777216 : Nat) = sizeLine := by decide
   omega
  have eN : (((ps.map V.int).length : Int) - (((ds.map V.int).length : Int) - 1)).toNat = ps.length - (ds.length - 1) := by rw [Za, Za]; omega
  rw [eN, ZdH]
  have nr' : H r = none := nr
  have nl' : H l = none := s2.free nl
  have nlr : l ≠ r := fun z => by
   rw [z, Zt (fun z2 => by rw [z2, Zm] at n0; cases n0), Zm] at nl
   cases nl
  have s3 := s2.trans (Same.upd (o := .lst ((List.replicate (ps.length - (ds.length - 1)) (0 : Int)).map V.int)) nl)
  generalize hN : ps.length - (ds.length - 1) = N at *
  have hr3 : (upd (upd (upd H r (.lst (ps.map V.int))) l0 (.lst [.int 0])) l (.lst ((List.replicate N (0 : Int)).map V.int))) r = some (.lst (ps.map V.int)) := Same.upd nl _ _ (Same.upd n0 _ _ Zm)
  refine ⟨_, rfl, l, _, rfl, .inl (.of Zm), _, _, rfl, rfl, _, rfl, _, rfl, _, _, rfl, ⟨by rw [Za, Ze]; omega, by rw [Za, Ze]; omega, by decide, by decide⟩, ?_⟩
  rw [Za, Za, Ze]
  have e2 : (((N : Int) - 1) - (-1)).toNat = N := by omega
  rw [e2]
  refine Zbk (fun i σ' H' => ∃ (fnd rest : List Int) (v5 v6 v7 : Option V), σ' = [some (.ref a), some (.ref b), some (.ref r), some (.int ((ds.length : Int) - 1)), some (.ref l), v5, v6, v7] ∧ Same H H' ∧ H' l = some (.lst (fnd.map V.int)) ∧ H' r = some (.lst (rest.map V.int)) ∧
    fnd.length = N ∧ rest.length = ps.length ∧ Zfl ds (ds.length - 1) (N - i) fnd rest = ZcY ps ds)
   ⟨_, _, _, _, _, rfl, s3, Zm, hr3, List.length_replicate .., rfl, by rw [Nat.sub_zero, ZcY, hN]⟩ ?_ ?_
  ·rintro i σ' H' hi ⟨fnd, rest, v5, v6, v7, rfl, sm, hl', hr', hlf, hlr, hq⟩
   generalize hk : N - 1 - i = k
   have ek : (N : Int) - 1 - (i : Int) = (k : Int) := by omega
   rw [ek]
   have hkN : k < N := by omega
   have hqk : N - i = k + 1 := by omega
   rw [hqk, Zfl] at hq
   have ktop : k + (ds.length - 1) < rest.length := by omega
   refine ⟨_, rfl, _, rfl, _, rfl, _, _, rfl, rfl, r, _, _, .int (co rest (k + (ds.length - 1))), rfl, rfl, .of hr', ?_, _, rfl, _, rfl, l, _, _, k, rfl, rfl, hl', ?_, ?_⟩
   ·have : (k : Int) + ((ds.length : Int) - 1) = ((k + (ds.length - 1) : Nat) : Int) := by omega
    rw [this]
    exact YE ktop
   ·rw [Za]; exact YQ (by omega)
   generalize hc : co rest (k + (ds.length - 1)) = c at hq ⊢
   rw [YN]
   have sm1 : Same H (upd H' l (.lst ((fnd.set k c).map V.int))) := sm.updr nl'
   have hr1 : (upd H' l (.lst ((fnd.set k c).map V.int))) r = some (.lst (rest.map V.int)) := by rw [Zt (Ne.symm nlr)]; exact hr'
   have hck : co (fnd.set k c) k = c := by rw [Zak, if_pos ⟨rfl, by omega⟩]
   refine ⟨_, rfl, b, rfl, .inl ⟨⟨_, sm1.seq hB⟩, ?_⟩⟩
   refine Wa Zag (fun j σ'' H'' => ∃ (cur : List Int) (u6 u7 : Option V), σ'' = [some (.ref a), some (.ref b), some (.ref r), some (.int ((ds.length : Int) - 1)), some (.ref l), some (.int k), u6, u7] ∧ Same H H'' ∧ H'' l = some (.lst ((fnd.set k c).map V.int)) ∧ H'' r = some (.lst (cur.map V.int)) ∧
     cur.length = ps.length ∧ VT (ds.drop j) (k + j) c cur = VT ds k c rest)
    ⟨_, _, _, rfl, sm1, Zm, hr1, hlr, rfl⟩ (fun j σ'' H'' h => h.choose_spec.choose_spec.choose_spec.2.1.seq hB) ?_ ?_
   ·rintro j y σ'' H'' T' hy ⟨cur, u6, u7, rfl, sm2, hl2', hr2, hcl, hqi⟩ nT
    obtain ⟨hj, rfl⟩ := Yu hy
    have kj : k + j < cur.length := by omega
    have hrT := Same.upd (o := .tup [.int j, .int (co ds j)]) nT _ _ hr2
    have hlT := Same.upd (o := .tup [.int j, .int (co ds j)]) nT _ _ hl2'
    have cb := VJ hsm j
    refine ⟨T', _, rfl, .of Zm, rfl, _, _, rfl, _, _, rfl, rfl, _, rfl, _, rfl, _, rfl, _, _, rfl, rfl, r, _, k + j, .int (co cur (k + j)), rfl, congrArg V.int (by omega), hrT, Vz kj,
     _, rfl, _, rfl, l, _, _, .int c, rfl, rfl, .of hlT, ?_, _, rfl, _, _, rfl, rfl, .inr ⟨by omega, by omega⟩, _, _, rfl, rfl, r, _, _, k + j, rfl, congrArg V.int (show (k : Int) + (j : Int) = ((k + j : Nat) : Int) by omega), hrT, ?_, ?_⟩
    ·have := YE (a := fnd.set k c) (i := k) (by rw [List.length_set]; omega)
     rw [hck] at this
     exact this
    ·rw [Za]; exact YQ kj
    ·refine ⟨cur.set (k + j) (co cur (k + j) - c * co ds j), _, _, rfl, (sm2.trans (Same.upd nT)).updr nr', ?_, ?_, ?_, ?_⟩
     ·rw [Zt nlr]; exact hlT
     ·rw [Zm, YN]
     ·rw [List.length_set]; exact hcl
     ·rw [← hqi, Y5 hj, Num.VT]
      rfl
   ·rintro σ'' H'' ⟨cur, u6, u7, rfl, sm2, hl2', hr2, hcl, hqi⟩
    rw [Za, List.drop_length, Num.VT] at hqi
    refine ⟨fnd.set k c, cur, _, _, _, rfl, sm2, hl2', hr2, by rw [List.length_set]; exact hlf, hcl, ?_⟩
    rw [show N - (i + 1) = k by omega, hqi]
    exact hq
  ·rintro σ' H' ⟨fnd, rest, v5, v6, v7, rfl, sm, hl', hr', hlf, hlr, hq⟩
   rw [Nat.sub_self, Num.Zfl] at hq
   rw [hq] at hl'
   exact ⟨_, rfl, q l H' sm hl'⟩
end
end N24
namespace L2
open PySem PySem.Spec PyProof.Rows
section
variable {X : Cx}
def Zgc (K : PySem.W.Frag) (ta : TA) : TI := fun σ H R => ta σ H fun vs H1 => ∃ a xs Hx, vs = [.ref a] ∧ (Wp K Hx a xs ∨ YW K Hx a xs) ∧ Same Hx H1 ∧ ∀ J At, Zh9 J At xs → (∀ H', Same Hx H' → At H') → R J H1
theorem Zj0 {elts : List Expr} {x1} {pt : Pos} {l : Expr} {ta : TA} {p pos : Pos} (hm : X.mg "enumerate" = none) (ha : PA X [l] ta) (hg : Yx X.env.scope "enumerate" = true := by kernel_rfl) (hs : starEach [l] X.env = [(false, eval l X.env)] := by rfl) :
  PI X (.Tuple elts x1 pt) (.Call (.Name "enumerate" p) [l] [] pos) (Zgc X.K ta) := by
 intro pins s σ H R I h
 refine Call_ (WV I (Jg hg) hm (show bootBuiltins "enumerate" = some (.type "enumerate") by kernel_rfl) (PyProof.Rows.callWith_type1 (ZT (ha pos pins s σ H _ I h) fun us s1 ⟨vs, H1, I1, r1, q1⟩ => ?_) hs rfl))
 obtain ⟨a, xs, Hx, e, hq, sm, q⟩ := q1
 subst e
 cases r1 with
 | cons r rr =>
  cases rr
  cases (show _ = Value.ref a from r)
  have sz : ∀ b, b ∈ [s1.heap.objs.size + 1, s1.heap.objs.size] → s1.heap.objs.size ≤ b := fun b hb => by
   rcases List.mem_cons.mp hb with rfl | hb
   ·exact Nat.le_succ _
   ·have : b = s1.heap.objs.size := by simpa using hb
    rw [this]
    exact Nat.le_refl _
  rcases hq with hq | hq
  ·obtain ⟨its, rv, p, hz⟩ := I1.list (sm.seq hq)
   refine call_enumerate_list p.isList fun g ge gi gs gk => wpAny_pyIter_enum ge ?_
   exact ⟨_, [s1.heap.objs.size + 1, s1.heap.objs.size], _, _, H1, rfl, I1.kept (t' := s1.toks) gk, X5 a _ _ (Nat.ne_of_gt (Nat.lt_succ_self _)), ⟨⟨_, ge⟩, gi⟩, fun b hb => I1.fpOk (sz b hb) (I1.hok.fresh (sz b hb)), q _ _ Zag fun H' s' => s'.seq hq⟩
  ·obtain ⟨its, rv, p, hz⟩ := I1.tuple (sm.tup hq)
   refine PyY.VR (show s1.heap.IsTuple a its.toArray from p) fun g ge gi gs gk => wpAny_pyIter_enum ge ?_
   exact ⟨_, [s1.heap.objs.size + 1, s1.heap.objs.size], _, _, H1, rfl, I1.kept (t' := s1.toks) gk, X4 a _ _ (Nat.ne_of_gt (Nat.lt_succ_self _)), ⟨⟨_, ge⟩, gi⟩, fun b hb => I1.fpOk (sz b hb) (I1.hok.fresh (sz b hb)), q _ _ Zgp fun H' s' => s'.tup hq⟩
theorem Zaf (K : PySem.W.Frag) {elts : List Expr} {x1} {pt : Pos} {l : Expr} {ta : TA} {p pos : Pos} (hm : X.mg "enumerate" = none) (ha : PA X [l] ta) (hK : X.K = K := by rfl) (hg : Yx X.env.scope "enumerate" = true := by kernel_rfl) (hs : starEach [l] X.env = [(false, eval l X.env)] := by rfl) :
  PI X (.Tuple elts x1 pt) (.Call (.Name "enumerate" p) [l] [] pos) (Zgc K ta) := hK ▸ Zj0 hm ha hg hs
end
end L2
namespace N24
open PySem L2 PySem.Spec PyProof.Rows
open Num
def lsN (n : Nat) : List Int := WE n (ZF n)
def Z2 (n : Nat) : Nat := (lsN n).length - 1
def RN (n : Nat) : List (List Int) := RT n (ZF n)
def Xf (n : Nat) : Bool := Num.chk n (ZF n) && decide (((Num.WE n (ZF n)).length : Int) = YX n + 1)
theorem ZlJ : ([1, 2, 3, 4, 5, 6, 7, 8, 9, 10, 11, 12, 13, 14, 15, 16].all Xf) = true := by decide +kernel
theorem ZlI : ([17, 18, 19, 20, 21, 22, 23, 24].all Xf) = true := by decide +kernel
theorem ZlH : ([25, 26, 27, 28, 29, 30].all Xf) = true := by decide +kernel
theorem ZlG : ([31, 32, 33, 34, 35].all Xf) = true := by decide +kernel
theorem ZlF : ([36, 37, 38, 39, 40].all Xf) = true := by decide +kernel
theorem ZlE : ([41, 42, 43, 44].all Xf) = true := by decide +kernel
theorem ZlD : ([45, 46, 47].all Xf) = true := by decide +kernel
theorem ZlC : ([48, 49, 50].all Xf) = true := by decide +kernel
theorem ZlB : ([51, 52, 53].all Xf) = true := by decide +kernel
theorem ZlA : ([54, 55, 56].all Xf) = true := by decide +kernel
theorem Zj6 : ([57, 58].all Xf) = true := by decide +kernel
theorem Zj5 : ([59, 60].all Xf) = true := by decide +kernel
theorem Zj4 {n : Nat} (h1 : 1 ≤ n) (h2 : n ≤ 60) : Xf n = true := by
 by_cases c0 : n ≤ 16
 ·exact List.all_eq_true.mp ZlJ n (by simp only [List.mem_cons, List.not_mem_nil, or_false]; omega)
 by_cases c1 : n ≤ 24
 ·exact List.all_eq_true.mp ZlI n (by simp only [List.mem_cons, List.not_mem_nil, or_false]; omega)
 by_cases c2 : n ≤ 30
 ·exact List.all_eq_true.mp ZlH n (by simp only [List.mem_cons, List.not_mem_nil, or_false]; omega)
 by_cases c3 : n ≤ 35
 ·exact List.all_eq_true.mp ZlG n (by simp only [List.mem_cons, List.not_mem_nil, or_false]; omega)
 by_cases c4 : n ≤ 40
 ·exact List.all_eq_true.mp ZlF n (by simp only [List.mem_cons, List.not_mem_nil, or_false]; omega)
 by_cases c5 : n ≤ 44
 ·exact List.all_eq_true.mp ZlE n (by simp only [List.mem_cons, List.not_mem_nil, or_false]; omega)
 by_cases c6 : n ≤ 47
 ·exact List.all_eq_true.mp ZlD n (by simp only [List.mem_cons, List.not_mem_nil, or_false]; omega)
 by_cases c7 : n ≤ 50
 ·exact List.all_eq_true.mp ZlC n (by simp only [List.mem_cons, List.not_mem_nil, or_false]; omega)
 by_cases c8 : n ≤ 53
 ·exact List.all_eq_true.mp ZlB n (by simp only [List.mem_cons, List.not_mem_nil, or_false]; omega)
 by_cases c9 : n ≤ 56
 ·exact List.all_eq_true.mp ZlA n (by simp only [List.mem_cons, List.not_mem_nil, or_false]; omega)
 by_cases c10 : n ≤ 58
 ·exact List.all_eq_true.mp Zj6 n (by simp only [List.mem_cons, List.not_mem_nil, or_false]; omega)
 exact List.all_eq_true.mp Zj5 n (by simp only [List.mem_cons, List.not_mem_nil, or_false]; omega)
theorem Vy {n : Nat} (h1 : 1 ≤ n) (h2 : n ≤ 60) : Good n (ZF n) (lsN n) (Z2 n) (RN n) ∧ (Z2 n : Int) = YX n := by
 have h := Zj4 h1 h2
 unfold Xf at h
 rw [Bool.and_eq_true] at h
 have g := ZhN h1 h.1
 refine ⟨g, ?_⟩
 have e := of_decide_eq_true h.2
 have := g.l2
 unfold Z2 lsN
 omega
def ZcE : Sp := fun vs H Q _ => ∃ n : Nat, vs = [.int n] ∧ 1 ≤ n ∧ n ≤ 60 ∧ ∀ l H', Same H H' → H' l = some (.lst ((lsN n).map V.int)) → Q (.ref l) H'
def XS (K : PySem.W.Frag) : Sp := fun vs H Q _ => ∃ (n : Nat) (a : Addr) (ws : List Int), vs = [.int n, .ref a] ∧ 1 ≤ n ∧ n ≤ 60 ∧ (Wp K H a (ws.map V.int) ∨ YW K H a (ws.map V.int)) ∧ ws.length ≤ 100000 ∧
 ∀ q H', Same H H' → H' q = some (.tup ((Y1 n (Z2 n) (RN n) ws).map V.int)) → Q (.ref q) H'
theorem Zgv (xs : List V) {k : Nat} (h : k ≤ xs.length) : W1 xs none (some (k : Int)) = xs.take k := by
 unfold W1
 rw [HT.UV]
 have e : HT.Yv xs.length 0 none = 0 := rfl
 rw [e, List.drop_zero, Nat.sub_zero, Nat.min_eq_left h]
theorem Vs {s : List Int × Int} {ps : List Int} (h : J6 s ps = true) : small s.1 = true ∧ 2 ≤ s.1.length ∧ s.1.length ≤ 61 ∧ 1 ≤ s.2 ∧ s.2 ≤ 60 := by
 have g : ZhG s = true := by
  cases ps with
  | nil => exact h
  | cons p ps =>
   rw [Num.J6] at h
   simp only [Bool.and_eq_true] at h
   exact h.1.1.1
 unfold ZhG at g
 simp only [Bool.and_eq_true, decide_eq_true_eq] at g
 exact ⟨g.1.1.1.1, g.1.1.1.2, g.1.1.2, g.1.2, g.2⟩
theorem Zb9 {s : List Int × Int} {p : Int} {ps : List Int} (h : J6 s (p :: ps) = true) : 2 ≤ p ∧ p ≤ 60 ∧ J6 (JJ s p) ps = true := by
 rw [Num.J6] at h
 simp only [Bool.and_eq_true, decide_eq_true_eq] at h
 exact ⟨h.1.1.2, h.1.2, h.2⟩
section
variable {P : Program} {w : World} {K : PySem.W.Frag} {mg : Str → Option Value} {base : Heap}
theorem ZfG {f : Addr} {fd : FuncData} (F : YL K "least_sum" "least_sum" Zfc f fd) (GP : Fn P w K mg base ZL 1 "primes_of" ["n"] Vc) (GS : Fn P w K mg base ZL 1 "stretched" ["powers", "step"] (Zig K)) (GQ : Fn P w K mg base ZL 1 "quotient" ["powers", "divisor"] (Zii K)) :
  ZH P w K mg base ZL 2 f fd ["n"] ZcE := by
 refine F.ok (FS (N := ["n", "found", "built", "p"])) (fun vs H Q E h => ?_) (fun cdv A outer s H vs Q E hr h => ?_)
 ·obtain ⟨n, rfl, _⟩ := h; rfl
 ·obtain ⟨n, rfl, n1, n60, q⟩ := h
  obtain ⟨G, _⟩ := Vy n1 n60
  refine ⟨_, Zn (Zy 1 rfl (ZD (pc (W9 Wq Zp) (pc Zp Zl))))
   (Zn (Zy 2 rfl Zp)
   (Zn (ZI PassesOwn.never rfl (itL K (Yc GP hr Zu (pc (vn 0) Zl))) (gn 3)
    (Zn (Zy 1 rfl (Yc GQ hr Zu (pc (Yc GS hr Zu (pc (vn 1) (pc (vn 3) Zl))) (pc (vn 1) Zl))))
    (Zo (Zy 2 rfl (Zq Z0 (vn 2) (vn 3))))))
   (Zo (Zs (Yc GS hr Zu (pc (vn 1) (pc (Zq YD (vn 0) (vn 2)) Zl))))))), ?_⟩
  refine ⟨_, rfl, (by show 2 ≤ sizeLine; decide), fun l0 n0 => ?_⟩
  have s0 : Same H (upd H l0 (.lst [.int (-1), .int 1])) := Same.upd n0
  refine ⟨_, rfl, n, rfl, n1, n60, fun lp H1 s1 hp => ⟨lp, rfl, ⟨_, .of hp⟩, ?_⟩⟩
  refine Xc (WQ (K := K) (.of hp)) (fun i σ' H' => ∃ (st : List Int × Int) (fa : Addr) (v3 : Option V), σ' = [some (.int n), some (.ref fa), some (.int st.2), v3] ∧ Same H1 H' ∧ H' fa = some (.lst (st.1.map V.int)) ∧ J6 st ((ZF n).drop i) = true ∧
    ((ZF n).drop i).foldl JJ st = (ZF n).foldl JJ ([-1, 1], 1))
   ⟨([-1, 1], 1), l0, _, rfl, Same.refl _, s1 _ _ Zm, G.ls, rfl⟩ (fun i σ' H' h => h.choose_spec.choose_spec.choose_spec.2.1) ?_ ?_
  ·rintro i x σ' H' hx ⟨st, fa, v3, rfl, sm, hf, hls, hfold⟩
   obtain ⟨hi, rfl⟩ := Yu hx
   rw [Y5 hi] at hls hfold
   obtain ⟨p2, p60, hls'⟩ := Zb9 hls
   obtain ⟨c1, c2, c3, c4, c5⟩ := Vs hls
   generalize hpp : co (ZF n) i = p at *
   have ep : (p.toNat : Int) = p := by omega
   have hmul : (st.1.length - 1) * p.toNat ≤ 60 * 60 := Nat.mul_le_mul (by omega) (by omega)
   refine ⟨_, rfl, _, rfl, fa, st.1, p.toNat, by rw [ep]; rfl, .of hf, by omega, by omega, by omega, by omega, fun l2 H2 s2 h2 => ?_⟩
   have hge : st.1.length - 1 ≤ (st.1.length - 1) * p.toNat := Nat.le_mul_of_pos_right _ (by omega)
   refine ⟨_, rfl, l2, fa, _, _, rfl, .of h2, .of (s2 _ _ hf), by omega, by rw [UP]; omega, by rw [UP]; omega, c1, fun l3 H3 s3 h3 => ?_⟩
   refine ⟨_, rfl, _, rfl, _, _, rfl, rfl, .inl ⟨by omega, by omega⟩, ?_⟩
   exact ⟨JJ st p, l3, _, rfl, (sm.trans s2).trans s3, h3, hls', hfold⟩
  ·rintro σ' H' ⟨st, fa, v3, rfl, sm, hf, hls, hfold⟩
   rw [Za, List.drop_length] at hls hfold
   obtain ⟨c1, c2, c3, c4, c5⟩ := Vs hls
   have hd : 0 ≤ (n : Int) / st.2 ∧ (n : Int) / st.2 ≤ n := ⟨Int.ediv_nonneg (by omega) (by omega), Int.ediv_le_self _ (by omega)⟩
   have hmul : (st.1.length - 1) * ((n : Int) / st.2).toNat ≤ 60 * 60 := Nat.mul_le_mul (by omega) (by omega)
   refine ⟨_, rfl, _, rfl, _, rfl, _, _, rfl, rfl, ⟨by omega, by omega⟩, fa, st.1, ((n : Int) / st.2).toNat, by rw [Int.toNat_of_nonneg hd.1]; rfl, .of hf, by omega, by omega, by omega, by omega, fun l4 H4 s4 h4 => ?_⟩
   refine q l4 H4 (((s0.trans s1).trans sm).trans s4) ?_
   rw [h4]
   unfold lsN WE
   rw [← hfold]
   rfl
theorem ZfF {f : Addr} {fd : FuncData} (F : YL K "number_of" "number_of" Zfb f fd) (T : Bl mg) (T2 : Bl2 mg) (GL : Fn P w K mg base ZL 2 "least_sum" ["n"] ZcE) : ZH P w K mg base ZL 3 f fd ["n", "powers"] (XS K) := by
 refine F.ok (FS (N := ["n", "powers", "least", "top", "rest", "k", "x", "high", "j"])) (fun vs H Q E h => ?_) (fun cdv A outer s H vs Q E hr h => ?_)
 ·obtain ⟨n, a, ws, rfl, _⟩ := h; rfl
 ·obtain ⟨n, a, ws, rfl, n1, n60, hS, hwl, q⟩ := h
  obtain ⟨G, _⟩ := Vy n1 n60
  refine ⟨_, Zn (Zy 2 rfl (Yc GL hr Zu (pc (vn 0) Zl)))
   (Zn (Zy 3 rfl (Zq Yl (cb (Z7 K) T.len (pc (vn 2) Zl)) Zp))
   (Zn (Zy 4 rfl (Zq Wc (ZD (pc Zp Zl)) (vn 0)))
   (Zn (ZI PassesOwn.never rfl (Zaf K T2.enumerate (pc (vn 1) Zl)) (g2 K 5 6 rfl (gn 5) (gn 6))
    (Zo (J3 (vn 4) (Zq Z5 (vn 5) (vn 0)) J9 (vn 6) Xu Yr)))
   (Zn (ZI PassesOwn.never rfl (ZkZ T.range (pc (Zq Yl (vn 0) Zp) (pc (Zq Yl (vn 3) Zp) (pc (W9 Wq Zp) Zl)))) (gn 5)
    (Zn (Zy 7 rfl (ZN (ixL K) (vn 4) (vn 5) (fun _ _ => rfl)))
    (Zo (Z4 (Zx WJ (vn 7) Zp (ZB _))
     (Zo (ZI PassesOwn.never rfl (Zdi K T2.enumerate (pc (vn 2) Zl)) (g2 K 8 6 rfl (gn 8) (gn 6))
      (Zo (J3 (vn 4) (Zq ZO (Zq Yl (vn 5) (vn 3)) (vn 8)) J9 (Zq Z0 (vn 7) (vn 6)) Zf9 Yr)))) ZC))))
   (Zo (Zs (ct Zw T.tuple (pc (ZW JW (vn 4) Yp (Yo (vn 3))) Zl)))))))), ?_⟩
  refine ⟨_, rfl, n, rfl, n1, n60, fun ll H1 s1 hll => ?_⟩
  have etop : (((lsN n).map V.int).length : Int) - 1 = (Z2 n : Int) := by
   rw [Za, G.l2]; omega
  have tn := G.tn
  have t1 := G.t1
  refine ⟨_, rfl, ll, _, rfl, .inl (.of hll), _, _, rfl, rfl, ?_⟩
  refine ⟨(by show 1 ≤ sizeLine; decide), fun l0 n0 => ?_⟩
  have s2 := s1.trans (Same.upd (o := .lst [.int 0]) n0)
  refine ⟨_, rfl, l0, _, _, rfl, rfl, Zm, by omega, by omega, ?_, fun l nl => ?_⟩
  ·rw [Zj]
   show 1 * n ≤ sizeLine
   have e : (16777216 : Nat) = sizeLine := by decide
   omega
  rw [Zj, ZdH]
  have nl' : H l = none := s2.free nl
  have hll3 := Same.upd (o := .lst ((List.replicate n (0 : Int)).map V.int)) nl _ _ (Same.upd (o := .lst [.int 0]) n0 _ _ hll)
  have nll : l ≠ ll := fun z => by
   rw [z, Same.upd (o := .lst [.int 0]) n0 _ _ hll] at nl
   cases nl
  have s3 := s2.trans (Same.upd (o := .lst ((List.replicate n (0 : Int)).map V.int)) nl)
  refine ⟨_, rfl, a, _, H, rfl, hS, s3, fun J At S hAt => ?_⟩
  refine Wa S (fun i σ' H' => ∃ (cur : List Int) (v5 v6 : Option V), σ' = [some (.int n), some (.ref a), some (.ref ll), some (.int ((((lsN n).map V.int).length : Int) - 1)), some (.ref l), v5, v6, none, none] ∧ Same H H' ∧ H' ll = some (.lst ((lsN n).map V.int)) ∧ H' l = some (.lst (cur.map V.int)) ∧ cur.length = n ∧
    Jh n (ws.drop i) i cur = Wf n ws)
   ⟨_, _, _, rfl, s3, hll3, Zm, List.length_replicate .., rfl⟩ (fun i σ' H' h => hAt _ h.choose_spec.choose_spec.choose_spec.2.1) ?_ ?_
  ·rintro i y σ' H' T' hy ⟨cur, v5, v6, rfl, sm, hl1, hl2, hcl, hfo⟩ nT
   obtain ⟨hi, rfl⟩ := Yu hy
   have him : i % n < cur.length := by rw [hcl]; exact Nat.mod_lt _ n1
   have eM : V.int ((i : Int) % (n : Int)) = V.int ((i % n : Nat) : Int) := congrArg V.int (by omega)
   have hlT := Same.upd (o := .tup [.int i, .int (co ws i)]) nT _ _ hl2
   refine ⟨T', _, rfl, .of Zm, rfl, _, _, rfl, _, _, rfl, rfl, _, rfl, _, rfl, _, rfl, _, _, rfl, rfl, (by show (0 : Int) < n; omega), l, _, i % n, .int (co cur (i % n)), rfl, eM, hlT, Vz him, _, rfl, _, _, rfl, rfl, l, _, _, i % n, rfl, eM, hlT, ?_, ?_⟩
   ·rw [Za]; exact YQ him
   ·refine ⟨cur.set (i % n) (co cur (i % n) + co ws i), _, _, rfl, (sm.trans (Same.upd nT)).updr nl', ?_, ?_, ?_, ?_⟩
    ·rw [Zt (Ne.symm nll)]; exact Same.upd nT _ _ hl1
    ·rw [Zm, YN]
    ·rw [List.length_set]; exact hcl
    ·rw [← hfo, Y5 hi, Num.Jh]
  ·rintro σ' H' ⟨cur, v5, v6, rfl, sm, hl1, hl2, hcl, hfo⟩
   rw [Za, List.drop_length, Num.Jh] at hfo
   refine ⟨_, rfl, _, _, rfl, rfl, _, rfl, _, _, rfl, rfl, _, rfl, _, _, rfl, ⟨by omega, by omega, by omega, by omega⟩, ?_⟩
   rw [show (((n : Int) - 1) - ((((lsN n).map V.int).length : Int) - 1 - 1)).toNat = n - Z2 n by omega]
   refine Zbk (fun i σ' H' => ∃ (cur : List Int) (v5 v6 v7 v8 : Option V), σ' = [some (.int n), some (.ref a), some (.ref ll), some (.int ((((lsN n).map V.int).length : Int) - 1)), some (.ref l), v5, v6, v7, v8] ∧ Same H H' ∧ H' ll = some (.lst ((lsN n).map V.int)) ∧ H' l = some (.lst (cur.map V.int)) ∧ cur.length = n ∧
     (∀ j, co (Wj cur (RN n)) j = co (Wj (Wf n ws) (RN n)) j) ∧ ∀ t, n - i ≤ t → co cur t = 0)
    ⟨cur, _, _, _, _, rfl, sm, hl1, hl2, hcl, fun j => by rw [hfo], fun t ht => YK (by omega)⟩ ?_ ?_
   ·rintro i σ'' H'' hi ⟨c2, v5', v6', v7', v8', rfl, sm2, hl1', hl2', hcl2, hP, hz⟩
    generalize hk : n - 1 - i = k
    have ek : (n : Int) - 1 - (i : Int) = (k : Int) := by omega
    rw [ek]
    have hkn : k < n := by omega
    have hkt : Z2 n ≤ k := by omega
    refine ⟨_, rfl, _, rfl, l, _, _, .int (co c2 k), rfl, rfl, .of hl2', YE (by omega), ?_⟩
    refine ⟨_, rfl, rfl, _, rfl, YS (fun hh => ?_) (fun hh => ?_)⟩
    ·refine ⟨_, rfl, ll, rfl, .inl ⟨⟨_, .of hl1'⟩, ?_⟩⟩
     obtain ⟨r1, r2, r3, r4⟩ := Zfj G hcl2 hkn hkt
     refine Wa Zag (fun j σ3 H3 => ∃ (c3 : List Int) (u6 u8 : Option V), σ3 = [some (.int n), some (.ref a), some (.ref ll), some (.int ((((lsN n).map V.int).length : Int) - 1)), some (.ref l), some (.int k), u6, some (.int (co c2 k)), u8] ∧ Same H H3 ∧ H3 ll = some (.lst ((lsN n).map V.int)) ∧ H3 l = some (.lst (c3.map V.int)) ∧ c3.length = n ∧
       VT ((lsN n).drop j) (k - Z2 n + j) (co c2 k) c3 = VT (lsN n) (k - Z2 n) (co c2 k) c2)
      ⟨c2, _, _, rfl, sm2, hl1', hl2', hcl2, rfl⟩ (fun j σ3 H3 h => .of h.choose_spec.choose_spec.choose_spec.2.2.1) ?_ ?_
     ·rintro j y σ3 H3 T' hy ⟨c3, u6, u8, rfl, sm3, g1, g2, g3, g4⟩ nT
      obtain ⟨hj, rfl⟩ := Yu hy
      have ll2 := G.l2
      have kj : k - Z2 n + j < c3.length := by omega
      have eI : V.int ((k : Int) - ((((lsN n).map V.int).length : Int) - 1) + (j : Int)) = V.int ((k - Z2 n + j : Nat) : Int) := congrArg V.int (by omega)
      have hT2 := Same.upd (o := .tup [.int j, .int (co (lsN n) j)]) nT _ _ g2
      have cb := VJ G.sm j
      refine ⟨T', _, rfl, .of Zm, rfl, _, _, rfl, _, _, rfl, rfl, _, rfl, _, rfl, _, rfl, _, _, rfl, rfl, _, rfl, _, _, rfl, rfl, l, _, k - Z2 n + j, .int (co c3 (k - Z2 n + j)), rfl, eI, hT2, Vz kj, _, rfl, _, rfl, _, _, rfl, rfl, .inr ⟨by omega, by omega⟩, _, _, rfl, rfl, l, _, _, k - Z2 n + j, rfl, eI, hT2, ?_, ?_⟩
      ·rw [Za]; exact YQ kj
      ·refine ⟨c3.set (k - Z2 n + j) (co c3 (k - Z2 n + j) - co c2 k * co (lsN n) j), _, _, rfl, (sm3.trans (Same.upd nT)).updr nl', ?_, ?_, ?_, ?_⟩
       ·rw [Zt (Ne.symm nll)]; exact Same.upd nT _ _ g1
       ·rw [Zm, YN]
       ·rw [List.length_set]; exact g3
       ·rw [← g4, Y5 hj, Num.VT]
        rfl
     ·rintro σ3 H3 ⟨c3, u6, u8, rfl, sm3, g1, g2, g3, g4⟩
      rw [Za, List.drop_length, Num.VT] at g4
      refine ⟨c3, _, _, _, _, rfl, sm3, g1, g2, g3, fun j => ?_, fun t ht => ?_⟩
      ·rw [g4, r2 j]; exact hP j
      ·rw [g4]
       by_cases e : t = k
       ·rw [e]; exact r3
       ·rw [r4 t (by omega)]; exact hz t (by omega)
    ·have h0 : co c2 k = 0 := by
      apply Classical.byContradiction
      intro hne
      apply hh
      rw [Yd]
      simp [hne]
     refine ⟨c2, _, _, _, _, rfl, sm2, hl1', hl2', hcl2, hP, fun t ht => ?_⟩
     by_cases e : t = k
     ·rw [e]; exact h0
     ·exact hz t (by omega)
   ·rintro σ'' H'' ⟨c2, v5', v6', v7', v8', rfl, sm2, hl1', hl2', hcl2, hP, hz⟩
    refine ⟨_, rfl, _, rfl, _, rfl, l, _, rfl, .of hl2', fun p1 h1 => ⟨p1, _, rfl, .inl ⟨.of Zm, fun qq hqq => ?_⟩⟩⟩
    rw [etop, Zgv _ (by rw [Za]; omega), ← List.map_take] at hqq ⊢
    refine q qq _ ((sm2.trans (Same.upd h1)).trans (Same.upd hqq)) ?_
    rw [Zm, Zg1 G hcl2 (fun t ht => hz t (by omega)) hP ws rfl]
end
abbrev Zir : Stmt := top 19
abbrev ZcO : Stmt := top 20
structure Bl3 (mg : Str → Option Value) : Prop where
 zip : mg "zip" = none
def Zif (K : PySem.W.Frag) (g : Int → Int → Int) : Sp := fun vs H Q _ => ∃ (a b : Addr) (xs ys : List Int), vs = [.ref a, .ref b] ∧ YW K H a (xs.map V.int) ∧ YW K H b (ys.map V.int) ∧ xs.length ≤ 100000 ∧
 ∀ q H', Same H H' → H' q = some (.tup ((List.zipWith g xs ys).map V.int)) → Q (.ref q) H'
def Zih (K : PySem.W.Frag) : Sp := fun vs H Q _ => ∃ (a : Addr) (k : Int) (xs : List Int), vs = [.ref a, .int k] ∧ YW K H a (xs.map V.int) ∧ xs.length ≤ 100000 ∧ (-(2 ^ 64) < k ∧ k < 2 ^ 64) ∧
 ∀ q H', Same H H' → H' q = some (.tup ((xs.map (· * k)).map V.int)) → Q (.ref q) H'
def ZjS (g : Int → Int → Int) : V → V → V
 | .int x, .int y => .int (g x y)
 | x, _ => x
theorem VB (g : Int → Int → Int) : ∀ xs ys : List Int, ((xs.map V.int).zip (ys.map V.int)).map (fun p => ZjS g p.1 p.2) = (List.zipWith g xs ys).map V.int
 | [], _ => rfl
 | _ :: _, [] => rfl
 | x :: xs, y :: ys => by
  exact congrArg (V.int (g x y) :: ·) (VB g xs ys)
theorem Zcq {xs ys : List Int} {i : Nat} {x y : V} (h : ((xs.map V.int).zip (ys.map V.int))[i]? = some (x, y)) : ∃ u v, x = .int u ∧ y = .int v := by
 rw [List.getElem?_zip_eq_some] at h
 obtain ⟨h1, h2⟩ := h
 obtain ⟨_, hu⟩ := Yu h1
 obtain ⟨_, hv⟩ := Yu h2
 exact ⟨_, _, hu, hv⟩
def ZjT (k : Int) : V → V
 | .int x => .int (x * k)
 | x => x
theorem Zbm (k : Int) (xs : List Int) : (xs.map V.int).map (ZjT k) = (xs.map (· * k)).map V.int := by
 rw [List.map_map, List.map_map]
 rfl
section
variable {P : Program} {w : World} {K : PySem.W.Frag} {mg : Str → Option Value} {base : Heap}
theorem Zhq {f : Addr} {fd : FuncData} (F : YL K "plus" "plus" Zir f fd) (T : Bl mg) (T3 : Bl3 mg) : ZH P w K mg base ZL 1 f fd ["one", "other"] (Zif K (· + ·)) := by
 refine F.ok (FS (N := ["one", "other"])) (fun vs H Q E h => ?_) (fun cdv A outer s H vs Q E hr h => ?_)
 ·obtain ⟨a, b, xs, ys, rfl, _⟩ := h; rfl
 ·obtain ⟨a, b, xs, ys, rfl, ha, hb, hx, q⟩ := h
  refine ⟨_, Zo (Zs (ct Zw T.tuple (pc (Xw ["x", "y"] [] ["x", "y"] rfl (Zdy K T3.zip (pc (vn 0) (pc (vn 1) Zl))) (fun _ _ _ _ _ => g2 K 0 1 rfl (gn 0) (gn 1)) (fun _ _ _ _ _ => ZK)
   (fun _ _ _ _ _ => Zq ZO (vn 0) (vn 1))) Zl))), ?_⟩
  refine ⟨_, rfl, _, rfl, a, b, true, true, _, _, H, rfl, .tup ha, .tup hb, Same.refl _, fun J At S hAt => ?_⟩
  refine Zbv S hAt (Same.refl _) [] rfl (ZjS (· + ·)) (by rw [List.length_zip, Za, Za]; omega) (fun i x y H' hxy s' R g => ?_) (fun D H' nD s' hD => ?_)
  ·obtain ⟨u, v, rfl, rfl⟩ := Zcq hxy
   exact ⟨_, rfl, _, rfl, _, _, rfl, rfl, g H' (Same.refl _)⟩
  ·rw [VB] at hD
   refine ⟨D, _, rfl, .inl ⟨.of hD, fun qq hqq => ?_⟩⟩
   exact q qq _ (s'.trans (Same.upd hqq)) Zm
theorem ZdQ {f : Addr} {fd : FuncData} (F : YL K "scaled" "scaled" ZcO f fd) (T : Bl mg) : ZH P w K mg base ZL 1 f fd ["one", "k"] (Zih K) := by
 refine F.ok (FS (N := ["one", "k"])) (fun vs H Q E h => ?_) (fun cdv A outer s H vs Q E hr h => ?_)
 ·obtain ⟨a, k, xs, rfl, _⟩ := h; rfl
 ·obtain ⟨a, k, xs, rfl, ha, hx, hk, q⟩ := h
  refine ⟨_, Zo (Zs (ct Zw T.tuple (pc (Xw ["x"] [1] ["x", "k"] rfl (itT K (vn 0)) (fun _ _ _ _ _ => gn 0) (fun _ _ _ _ _ => ZK)
   (fun _ _ _ _ _ => Zq Z0 (vn 0) (vn 1))) Zl))), ?_⟩
  refine ⟨_, rfl, a, rfl, ⟨_, ha⟩, ?_⟩
  refine YA (Yn ha) [some (.int k)] rfl (ZjT k) (by rw [Za]; omega) (fun i x H' hx' s' R g => ?_) (fun D H' nD s' hD => ?_)
  ·obtain ⟨_, rfl⟩ := Yu hx'
   exact ⟨_, rfl, _, rfl, _, _, rfl, rfl, .inr hk, g H' (Same.refl _)⟩
  ·rw [Zbm] at hD
   refine ⟨D, _, rfl, .inl ⟨.of hD, fun qq hqq => ?_⟩⟩
   exact q qq _ (s'.trans (Same.upd hqq)) Zm
end
abbrev Ze3 : Stmt := top 21
abbrev Ziv : Stmt := top 22
abbrev JY : Stmt := top 23
def Jp (xs : List Int) : Prop := ∀ x ∈ xs, -(2 ^ 64) < x ∧ x < 2 ^ 64
def ZgE (xs : List Int) : Prop := ∀ x ∈ xs, x.natAbs < 2 ^ 900
def Zcx (K : PySem.W.Frag) : Sp := fun vs H Q _ => ∃ (n : Nat) (a b : Addr) (xs ys : List Int), vs = [.int n, .ref a, .ref b] ∧ 1 ≤ n ∧ n ≤ 60 ∧ YW K H a (xs.map V.int) ∧ YW K H b (ys.map V.int) ∧ 1 ≤ xs.length ∧ xs.length ≤ 60 ∧ 1 ≤ ys.length ∧ ys.length ≤ 60 ∧ ((Jp xs ∨ Jp ys) ∨ (ZgE xs ∧ ZgE ys)) ∧
 ∀ q H', Same H H' → H' q = some (.tup ((Y1 n (Z2 n) (RN n) (ZdW xs ys)).map V.int)) → Q (.ref q) H'
def Wt (K : PySem.W.Frag) : Sp := fun vs H Q _ => ∃ (n : Nat) (a : Addr) (u : Int) (xs : List Int), vs = [.int n, .ref a, .int u] ∧ 1 ≤ n ∧ n ≤ 60 ∧ YW K H a (xs.map V.int) ∧ xs.length ≤ 60 ∧
 ∀ q H', Same H H' → H' q = some (.tup ((Y1 n (Z2 n) (RN n) (UM n u xs)).map V.int)) → Q (.ref q) H'
def ZeT (K : PySem.W.Frag) : Sp := fun vs H Q _ => ∃ (n : Nat) (a : Addr) (xs : List Int), vs = [.int n, .ref a] ∧ 1 ≤ n ∧ n ≤ 60 ∧ YW K H a (xs.map V.int) ∧ xs.length ≤ 60 ∧
 ∀ q H', Same H H' → H' q = some (.tup ((Y1 n (Z2 n) (RN n) (UM n (-1) xs)).map V.int)) → Q (.ref q) H'
section
variable {P : Program} {w : World} {K : PySem.W.Frag} {mg : Str → Option Value} {base : Heap}
theorem Xq {f : Addr} {fd : FuncData} (F : YL K "turned" "turned" JY f fd) (T : Bl mg) (T2 : Bl2 mg) (GN : Fn P w K mg base ZL 3 "number_of" ["n", "powers"] (XS K)) : ZH P w K mg base ZL 4 f fd ["n", "one", "k"] (Wt K) := by
 refine F.ok (FS (N := ["n", "one", "k", "powers", "j", "x"])) (fun vs H Q E h => ?_) (fun cdv A outer s H vs Q E hr h => ?_)
 ·obtain ⟨n, a, u, xs, rfl, _⟩ := h; rfl
 ·obtain ⟨n, a, u, xs, rfl, n1, n60, hS, hwl, q⟩ := h
  refine ⟨_, Zn (Zy 3 rfl (Zq Wc (ZD (pc Zp Zl)) (vn 0)))
   (Zn (ZI PassesOwn.never rfl (Zaf K T2.enumerate (pc (vn 1) Zl)) (g2 K 4 5 rfl (gn 4) (gn 5))
    (Zo (J3 (vn 3) (Zq Z5 (Zq Z0 (vn 4) (vn 2)) (vn 0)) J9 (vn 5) Xu Yr)))
   (Zo (Zs (Yc GN hr Zu (pc (vn 0) (pc (vn 3) Zl)))))), ?_⟩
  refine ⟨(by show 1 ≤ sizeLine; decide), fun l0 n0 => ?_⟩
  have s2 : Same H _ := Same.upd (o := .lst [.int 0]) n0
  refine ⟨_, rfl, l0, _, _, rfl, rfl, Zm, by omega, by omega, ?_, fun l nl => ?_⟩
  ·rw [Zj]
   show 1 * n ≤ sizeLine
   have e : (16777216 : Nat) = sizeLine := by decide
   omega
  rw [Zj, ZdH]
  have nl' : H l = none := s2.free nl
  have s3 := s2.trans (Same.upd (o := .lst ((List.replicate n (0 : Int)).map V.int)) nl)
  refine ⟨_, rfl, a, _, H, rfl, .inr hS, s3, fun J At S hAt => ?_⟩
  refine Wa S (fun i σ' H' => ∃ (cur : List Int) (v4 v5 : Option V), σ' = [some (.int n), some (.ref a), some (.int u), some (.ref l), v4, v5] ∧ Same H H' ∧ H' l = some (.lst (cur.map V.int)) ∧ cur.length = n ∧
    VX n u (xs.drop i) i cur = UM n u xs)
   ⟨_, _, _, rfl, s3, Zm, List.length_replicate .., rfl⟩ (fun i σ' H' h => hAt _ h.choose_spec.choose_spec.choose_spec.2.1) ?_ ?_
  ·rintro i y σ' H' T' hy ⟨cur, v4, v5, rfl, sm, hl2, hcl, hfo⟩ nT
   obtain ⟨hi, rfl⟩ := Yu hy
   have him : ti n u i < cur.length := by rw [hcl]; exact ZkB n1 u i
   have eM : V.int ((i : Int) * u % (n : Int)) = V.int ((ti n u i : Nat) : Int) := by rw [ZeF n1]
   have hlT := Same.upd (o := .tup [.int i, .int (co xs i)]) nT _ _ hl2
   refine ⟨T', _, rfl, .of Zm, rfl, _, _, rfl, _, _, rfl, rfl, _, rfl, _, rfl, _, rfl, _, _, rfl, rfl, .inl ⟨by omega, by omega⟩, _, rfl, _, _, rfl, rfl, (by show (0 : Int) < n; omega), l, _, ti n u i, .int (co cur (ti n u i)), rfl, eM, hlT, Vz him, _, rfl, _, _, rfl, rfl, l, _, _, ti n u i, rfl, eM, hlT, ?_, ?_⟩
   ·rw [Za]; exact YQ him
   ·refine ⟨cur.set (ti n u i) (co cur (ti n u i) + co xs i), _, _, rfl, (sm.trans (Same.upd nT)).updr nl', ?_, ?_, ?_⟩
    ·rw [Zm, YN]
    ·rw [List.length_set]; exact hcl
    ·rw [← hfo, Y5 hi, Num.VX]
  ·rintro σ' H' ⟨cur, v4, v5, rfl, sm, hl2, hcl, hfo⟩
   rw [Za, List.drop_length, Num.VX] at hfo
   subst hfo
   refine ⟨_, rfl, _, rfl, n, l, _, rfl, n1, n60, .inl (.of hl2), by omega, fun qq H2 sq hq => q qq H2 (sm.trans sq) hq⟩
theorem Zhw {f : Addr} {fd : FuncData} (F : YL K "flipped" "flipped" Ziv f fd) (GT : Fn P w K mg base ZL 4 "turned" ["n", "one", "k"] (Wt K)) : ZH P w K mg base ZL 5 f fd ["n", "one"] (ZeT K) := by
 refine F.ok (FS (N := ["n", "one"])) (fun vs H Q E h => ?_) (fun cdv A outer s H vs Q E hr h => ?_)
 ·obtain ⟨n, a, xs, rfl, _⟩ := h; rfl
 ·obtain ⟨n, a, xs, rfl, n1, n60, hS, hwl, q⟩ := h
  refine ⟨_, Zo (Zs (Yc GT hr Zu (pc (vn 0) (pc (vn 1) (pc (W9 Wq Zp) Zl))))), ?_⟩
  exact ⟨_, rfl, _, rfl, _, rfl, n, a, -1, xs, rfl, n1, n60, hS, hwl, q⟩
theorem Zfy {f : Addr} {fd : FuncData} (F : YL K "times" "times" Ze3 f fd) (T : Bl mg) (T2 : Bl2 mg) (GN : Fn P w K mg base ZL 3 "number_of" ["n", "powers"] (XS K)) : ZH P w K mg base ZL 4 f fd ["n", "one", "other"] (Zcx K) := by
 refine F.ok (FS (N := ["n", "one", "other", "powers", "i", "x", "j", "y"])) (fun vs H Q E h => ?_) (fun cdv A outer s H vs Q E hr h => ?_)
 ·obtain ⟨n, a, b, xs, ys, rfl, _⟩ := h; rfl
 ·obtain ⟨n, a, b, xs, ys, rfl, n1, n60, hS, hB, x1, x60, y1, y60, hsm, q⟩ := h
  refine ⟨_, Zn (Zy 3 rfl (Zq Wc (ZD (pc Zp Zl)) (Zq Yl (Zq ZO (cb (Z7 K) T.len (pc (vn 1) Zl)) (cb (Z7 K) T.len (pc (vn 2) Zl))) Zp)))
   (Zn (ZI PassesOwn.never rfl (Zaf K T2.enumerate (pc (vn 1) Zl)) (g2 K 4 5 rfl (gn 4) (gn 5))
    (Zo (Z4 (Zx WJ (vn 5) Zp (ZB _))
     (Zo (ZI PassesOwn.never rfl (Zaf K T2.enumerate (pc (vn 2) Zl)) (g2 K 6 7 rfl (gn 6) (gn 7))
      (Zo (J3 (vn 3) (Zq ZO (vn 4) (vn 6)) J9 (Zq Zhj (vn 5) (vn 7)) Xu Yr)))) ZC)))
   (Zo (Zs (Yc GN hr Zu (pc (vn 0) (pc (vn 3) Zl)))))), ?_⟩
  refine ⟨(by show 1 ≤ sizeLine; decide), fun l0 n0 => ?_⟩
  have s2 : Same H _ := Same.upd (o := .lst [.int 0]) n0
  refine ⟨_, rfl, a, _, rfl, .inr (s2.tup hS), _, rfl, b, _, rfl, .inr (s2.tup hB), _, _, rfl, rfl, _, _, rfl, rfl, l0, _, _, rfl, rfl, Zm, ?_, ?_, ?_, fun l nl => ?_⟩
  ·rw [Za, Za]; omega
  ·rw [Za, Za]; omega
  ·rw [Za, Za]
   show 1 * ((xs.length : Int) + (ys.length : Int) - 1).toNat ≤ sizeLine
   have e : (16777216 : Nat) = sizeLine := by decide
   omega
  have eN : (((xs.map V.int).length : Int) + ((ys.map V.int).length : Int) - 1).toNat = xs.length + ys.length - 1 := by
   rw [Za, Za]; omega
  rw [eN, ZdH]
  have nl' : H l = none := s2.free nl
  have s3 := s2.trans (Same.upd (o := .lst ((List.replicate (xs.length + ys.length - 1) (0 : Int)).map V.int)) nl)
  refine ⟨_, rfl, a, _, H, rfl, .inr hS, s3, fun J At S hAt => ?_⟩
  refine Wa S (fun i σ' H' => ∃ (cur : List Int) (v4 v5 v6 v7 : Option V), σ' = [some (.int n), some (.ref a), some (.ref b), some (.ref l), v4, v5, v6, v7] ∧ Same H H' ∧ H' l = some (.lst (cur.map V.int)) ∧ cur.length = xs.length + ys.length - 1 ∧
    Jc ys (xs.drop i) i cur = ZdW xs ys)
   ⟨_, _, _, _, _, rfl, s3, Zm, List.length_replicate .., rfl⟩ (fun i σ' H' h => hAt _ h.choose_spec.choose_spec.choose_spec.choose_spec.choose_spec.2.1) ?_ ?_
  ·rintro i y σ' H' T' hy ⟨cur, v4, v5, v6, v7, rfl, sm, hl2, hcl, hfo⟩ nT
   obtain ⟨hi, rfl⟩ := Yu hy
   have hlT := Same.upd (o := .tup [.int i, .int (co xs i)]) nT _ _ hl2
   have smT := sm.trans (Same.upd (o := .tup [.int i, .int (co xs i)]) nT)
   rw [Y5 hi, Num.Jc] at hfo
   refine ⟨T', _, rfl, .of Zm, rfl, _, _, rfl, _, _, rfl, rfl, _, rfl, rfl, _, rfl, YS (fun hh => ?_) (fun hh => ?_)⟩
   ·have hne : co xs i ≠ 0 := by
     intro e
     rw [Yd] at hh
     simp [e] at hh
    rw [if_neg hne] at hfo
    have hxs : ∀ j, j < ys.length → Zdv (co xs i) (co ys j) := fun j hj => hsm.elim (fun h => .inl (h.elim (fun h => .inl (h _ (List.mem_of_getElem? (Z8 hi)))) fun h => .inr (h _ (List.mem_of_getElem? (Z8 hj))))) fun h => .inr ⟨h.1 _ (List.mem_of_getElem? (Z8 hi)), h.2 _ (List.mem_of_getElem? (Z8 hj))⟩
    refine ⟨_, rfl, b, _, H, rfl, .inr hB, smT, fun J2 At2 S2 hAt2 => ?_⟩
    refine Wa S2 (fun j σ3 H3 => ∃ (c3 : List Int) (u6 u7 : Option V), σ3 = [some (.int n), some (.ref a), some (.ref b), some (.ref l), some (.int i), some (.int (co xs i)), u6, u7] ∧ Same H H3 ∧ H3 l = some (.lst (c3.map V.int)) ∧ c3.length = xs.length + ys.length - 1 ∧
      Jd (co xs i) (ys.drop j) (i + j) c3 = Jd (co xs i) ys i cur)
     ⟨cur, _, _, rfl, smT, hlT, hcl, rfl⟩ (fun j σ3 H3 h => hAt2 _ h.choose_spec.choose_spec.choose_spec.2.1) ?_ ?_
    ·rintro j z σ3 H3 T3 hz ⟨c3, u6, u7, rfl, sm3, g2, g3, g4⟩ nT3
     obtain ⟨hj, rfl⟩ := Yu hz
     have kj : i + j < c3.length := by omega
     have eI : V.int ((i : Int) + (j : Int)) = V.int ((i + j : Nat) : Int) := congrArg V.int (by omega)
     have hT2 := Same.upd (o := .tup [.int j, .int (co ys j)]) nT3 _ _ g2
     refine ⟨T3, _, rfl, .of Zm, rfl, _, _, rfl, _, _, rfl, rfl, _, rfl, _, rfl, _, rfl, _, _, rfl, rfl, l, _, i + j, .int (co c3 (i + j)), rfl, eI, hT2, Vz kj, _, rfl, _, rfl, _, _, rfl, rfl, hxs j hj, _, _, rfl, rfl, l, _, _, i + j, rfl, eI, hT2, ?_, ?_⟩
     ·rw [Za]; exact YQ kj
     ·refine ⟨c3.set (i + j) (co c3 (i + j) + co xs i * co ys j), _, _, rfl, (sm3.trans (Same.upd nT3)).updr nl', ?_, ?_, ?_⟩
      ·rw [Zm, YN]
      ·rw [List.length_set]; exact g3
      ·rw [← g4, Y5 hj, Num.Jd]
       rfl
    ·rintro σ3 H3 ⟨c3, u6, u7, rfl, sm3, g2, g3, g4⟩
     rw [Za, List.drop_length, Num.Jd] at g4
     refine ⟨c3, _, _, _, _, rfl, sm3, g2, g3, ?_⟩
     rw [g4]; exact hfo
   ·have h0 : co xs i = 0 := by
     apply Classical.byContradiction
     intro hne
     apply hh
     rw [Yd]
     simp [hne]
    rw [if_pos h0] at hfo
    exact ⟨cur, _, _, _, _, rfl, smT, hlT, hcl, hfo⟩
  ·rintro σ' H' ⟨cur, v4, v5, v6, v7, rfl, sm, hl2, hcl, hfo⟩
   rw [Za, List.drop_length, Num.Jc] at hfo
   subst hfo
   refine ⟨_, rfl, _, rfl, n, l, _, rfl, n1, n60, .inl (.of hl2), by omega, fun qq H2 sq hq => q qq H2 (sm.trans sq) hq⟩
end
end N24
namespace L2
open PySem PySem.Spec PyProof.Rows
def Zk2 (K : PySem.W.Frag) : R2 := fun x y H Q => ∃ p xs i v, x = .ref p ∧ y = .int i ∧ (Wp K H p xs ∨ YW K H p xs) ∧ VU xs i = some v ∧ Q v H
theorem ixS {X : Cx} (K : PySem.W.Frag) (hK : X.K = K := by rfl) : IxR X (Zk2 K) := by
 subst hK
 intro value slice pins s σ H x y v u Q I rx ry h hs
 obtain ⟨p, xs, i, z, rfl, rfl, hq, he, q⟩ := h
 rcases hq with hq | hq
 ·exact Zdc value slice pins s σ H _ _ v u Q I rx ry ⟨p, xs, i, z, rfl, rfl, hq, he, q⟩ hs
 ·exact Zf3 value slice pins s σ H _ _ v u Q I rx ry ⟨p, xs, i, z, rfl, rfl, hq, he, q⟩ hs
theorem ZjY {X : Cx} (K : PySem.W.Frag) (hu : X.A.units + 64 < cLine) (hK : X.K = K := by rfl) : JP X (compareOp .Eq) (fun x y H Q => ∃ dx dy, Xj K H x dx ∧ Xj K H y dy ∧ SeqAt.shaped dx = true ∧ SeqAt.shaped dy = true ∧ Q (.bl (PyData.eqv dx dy)) H) := hK ▸ Zjq hu
theorem Zll {X : Cx} (K : PySem.W.Frag) (hu : X.A.units + 64 < cLine) (hK : X.K = K := by rfl) : JP X (compareOp .NotEq) (fun x y H Q => ∃ dx dy, Xj K H x dx ∧ Xj K H y dy ∧ SeqAt.shaped dx = true ∧ SeqAt.shaped dy = true ∧ Q (.bl (!PyData.eqv dx dy)) H) := hK ▸ Zfv hu
end L2
namespace N24
open PySem L2 PySem.Spec PyProof.Rows
open Num
def Ui (p : Int) : Bool := ((Ya 2 (p - 2).toNat).filter fun k => decide (p % k = 0)).isEmpty
def ZiF (n : Nat) : List Int := ((Ya 2 ((n : Int) + 1 - 2).toNat).filter fun p => decide ((n : Int) % p = 0)).filter Ui
theorem Zd0 : ((List.range 61).all fun n => n == 0 || (decide (ZiF n = ZF n) && decide ((ZF n).length ≤ 3))) = true := by decide +kernel
theorem Zf0 {n : Nat} (h1 : 1 ≤ n) (h2 : n ≤ 60) : ZiF n = ZF n ∧ (ZF n).length ≤ 3 := by
 have h := List.all_eq_true.mp Zd0 n (List.mem_range.mpr (by omega))
 have h0 : (n == 0) = false := by simp; omega
 rw [h0, Bool.false_or, Bool.and_eq_true, decide_eq_true_eq, decide_eq_true_eq] at h
 exact h
theorem Zbl (p : V → Bool) (p' : Int → Bool) (h : ∀ i, p (.int i) = p' i) : ∀ xs : List Int, ((xs.map V.int).filter p).map (fun y => y) = (xs.filter p').map V.int
 | [] => rfl
 | x :: r => by
  have ih := Zbl p p' h r
  rw [List.map_cons, List.filter_cons, List.filter_cons, h x]
  cases p' x with
  | true => rw [if_pos rfl, if_pos rfl, List.map_cons, List.map_cons, ih]
  | false => rw [if_neg Bool.false_ne_true, if_neg Bool.false_ne_true, ih]
theorem YI {xs : List Int} {i : Nat} {x : V} (h : (xs.map V.int)[i]? = some x) : ∃ z, x = .int z ∧ z ∈ xs := by
 rw [Zc] at h
 cases e : xs[i]? with
 | none => rw [e] at h; cases h
 | some z =>
  rw [e] at h
  cases h
  exact ⟨z, rfl, List.mem_of_getElem? e⟩
theorem ZgT (ns : List Int) : SeqAt.shaped (.list (ns.map PyData.int)) = true := ZcK fun d hd => by
 obtain ⟨z, _, rfl⟩ := List.mem_map.mp hd
 exact ⟨rfl, Nat.zero_le _⟩
def fI (p : Int → Bool) : V → Bool
 | .int i => p i
 | _ => false
theorem ZcL {K : PySem.W.Frag} {H H' : Hp} {a : Addr} {xs : List V} (s : Same H H') (h : Wp K H a xs ∨ YW K H a xs) : Wp K H' a xs ∨ YW K H' a xs := h.elim (fun h => .inl (s.seq h)) fun h => .inr (s.tup h)
theorem Zmx {n k m : Nat} (hn : 0 < n) (hm : m ≤ n) : ((k : Int) - (m : Int)) % (n : Int) = (((k + (n - m)) % n : Nat) : Int) := by
 have e : (k : Int) - (m : Int) = ((k + (n - m) : Nat) : Int) + (-1) * (n : Int) := by omega
 rw [e, Int.add_mul_emod_self_right]
 omega
def Uh (n : Nat) (b : List Int) (s : Nat) : List Int := (List.range n).map fun k => co b k - co b ((k + (n - s)) % n)
theorem ZfO {n : Nat} {b : List Int} {s k : Nat} (h : k < n) : co (Uh n b s) k = lk n s (co b) k := by
 unfold Uh co
 rw [Zb, Zc, List.getElem?_range h]
 rfl
def ZhR (n : Nat) (b : List Int) (s : Nat) : V → V
 | .int z => .int (co b z.toNat - co b ((z.toNat + (n - s)) % n))
 | y => y
theorem Zgm (n : Nat) (b : List Int) (s : Nat) : ((Ya 0 n).map V.int).map (ZhR n b s) = (Uh n b s).map V.int := by
 unfold Ya Uh
 rw [List.map_map, List.map_map, List.map_map]
 refine List.map_congr_left fun k hk => ?_
 show ZhR n b s (.int (0 + (k : Int))) = V.int (co b k - co b ((k + (n - s)) % n))
 rw [show (0 : Int) + (k : Int) = (k : Int) by omega]
 show V.int (co b (k : Int).toNat - co b (((k : Int).toNat + (n - s)) % n)) = _
 rw [Zj]
def Zgt (n : Nat) (a b : List Int) : List Int := (List.range n).map fun k => co a k - co b k
theorem ZhV {n : Nat} {a b : List Int} {k : Nat} (h : k < n) : co (Zgt n a b) k = co a k - co b k := by
 unfold Zgt co
 rw [Zb, Zc, List.getElem?_range h]
 rfl
def fD (a b : List Int) : V → V
 | .int z => .int (co a z.toNat - co b z.toNat)
 | y => y
theorem ZjV (n : Nat) (a b : List Int) : ((Ya 0 n).map V.int).map (fD a b) = (Zgt n a b).map V.int := by
 unfold Ya Zgt
 rw [List.map_map, List.map_map, List.map_map]
 refine List.map_congr_left fun k hk => ?_
 show fD a b (.int (0 + (k : Int))) = V.int (co a k - co b k)
 rw [show (0 : Int) + (k : Int) = (k : Int) by omega]
 show V.int (co a (k : Int).toNat - co b (k : Int).toNat) = _
 rw [Zj]
abbrev ZkQ : Stmt := top 24
def ZeO (K : PySem.W.Frag) : Sp := fun vs H Q _ => ∃ (a : Addr) (ps : List Int) (st : Nat), vs = [.ref a, .int st] ∧ YW K H a (ps.map V.int) ∧ 1 ≤ ps.length ∧ (ps.length - 1) * st ≤ 100000 ∧ ps.length ≤ 1000 ∧ st ≤ 1000 ∧ ∀ l H', Same H H' → H' l = some (.lst ((stM ps st).map V.int)) → Q (.ref l) H'
def wid (n : Nat) (m : Nat) (xs : List Int) : List Int := Y1 m (Z2 m) (RN m) (stM xs (m / n))
def Zie (K : PySem.W.Frag) : Sp := fun vs H Q _ => ∃ (n m : Nat) (a : Addr) (xs : List Int), vs = [.int n, .ref a, .int m] ∧ 1 ≤ n ∧ n ≤ m ∧ m ≤ 60 ∧ YW K H a (xs.map V.int) ∧ 1 ≤ xs.length ∧ xs.length ≤ 60 ∧
 ∀ q H', Same H H' → H' q = some (.tup ((wid n m xs).map V.int)) → Q (.ref q) H'
section
variable {P : Program} {w : World} {K : PySem.W.Frag} {mg : Str → Option Value} {base : Heap}
theorem Zho {f : Addr} {fd : FuncData} (F : YL K "stretched" "stretched" Zi7 f fd) (T : Bl mg) (T2 : Bl2 mg) : ZH P w K mg base ZL 1 f fd ["powers", "step"] (ZeO K) := by
 refine F.ok (FS (N := ["powers", "step", "wide", "k", "x"])) (fun vs H Q E h => ?_) (fun cdv A outer s H vs Q E hr h => ?_)
 ·obtain ⟨a, ps, st, rfl, _⟩ := h; rfl
 ·obtain ⟨a, ps, st, rfl, hS, hl, hb, hl2, hst, q⟩ := h
  refine ⟨_, Zn (Zy 2 rfl (Zq Wc (ZD (pc Zp Zl)) (Zq ZO (Zq Z0 (Zq Yl (cb (Z7 K) T.len (pc (vn 0) Zl)) Zp) (vn 1)) Zp)))
   (Zn (ZI PassesOwn.never rfl (Zdi K T2.enumerate (pc (vn 0) Zl)) (g2 K 3 4 rfl (gn 3) (gn 4))
    (Zo (Xn (vn 4) (Xo (vn 2) (Zq Z0 (vn 3) (vn 1)) Yr))))
   (Zo (Zs (vn 2)))), ?_⟩
  refine ⟨(by show 1 ≤ sizeLine; decide), fun l0 n0 => ?_⟩
  have s0 : Same H (upd H l0 (.lst [.int 0])) := Same.upd n0
  refine ⟨_, rfl, a, _, rfl, .inr (s0.tup hS), _, _, rfl, rfl, _, rfl, _, _, rfl, rfl, .inl ⟨?_, ?_⟩, _, _, rfl, rfl, l0, _, _, rfl, rfl, Zm, ?_, ?_, ?_, fun l nl => ?_⟩
  ·rw [Za]; omega
  ·rw [Za]; omega
  ·rw [Za]; have : (0 : Int) ≤ ((ps.length : Int) - 1) * st := Int.mul_nonneg (by omega) (by omega); omega
  ·rw [Za]
   have : ((ps.length : Int) - 1) * st = (((ps.length - 1) * st : Nat) : Int) := by rw [Int.natCast_mul]; congr 1; omega
   omega
  ·rw [Za]
   have : ((ps.length : Int) - 1) * st = (((ps.length - 1) * st : Nat) : Int) := by rw [Int.natCast_mul]; congr 1; omega
   rw [this]
   show 1 * _ ≤ sizeLine
   have e : (16777216 : Nat) = sizeLine := by decide
   omega
  have eN : (((ps.map V.int).length : Int) - 1) * st + 1 = (((ps.length - 1) * st + 1 : Nat) : Int) := by
   rw [Za, Int.natCast_add, Int.natCast_mul]
   congr 2
   omega
  rw [eN, Zj, ZdH]
  have nl' : H l = none := s0.free nl
  have s1 := s0.trans (Same.upd (o := .lst ((List.replicate ((ps.length - 1) * st + 1) (0 : Int)).map V.int)) nl)
  refine ⟨_, rfl, a, rfl, .inr ⟨⟨_, s1.tup hS⟩, ?_⟩⟩
  refine Wa Zgp (fun i σ' H' => ∃ (cur : List Int) (v3 v4 : Option V), σ' = [some (.ref a), some (.int st), some (.ref l), v3, v4] ∧ Same H H' ∧ H' l = some (.lst (cur.map V.int)) ∧ cur.length = (ps.length - 1) * st + 1 ∧ UO st (ps.drop i) i cur = stM ps st)
   ⟨_, _, _, rfl, s1, Zm, List.length_replicate .., rfl⟩ (fun i σ' H' h => h.choose_spec.choose_spec.choose_spec.2.1.tup hS) ?_ ?_
  ·rintro i y σ' H' T' hy ⟨cur, v3, v4, rfl, sm, hl', hlen, hst'⟩ nT
   obtain ⟨hi, rfl⟩ := Yu hy
   refine ⟨T', _, rfl, .of Zm, rfl, _, _, rfl, _, _, rfl, rfl, _, rfl, _, rfl, _, rfl, _, rfl, _, _, rfl, rfl, .inl ⟨by omega, by omega⟩, l, _, _, i * st, rfl, rfl, Same.upd nT _ _ hl', ?_, ?_⟩
   rotate_left
   ·have hlt : i * st < cur.length := by
     rw [hlen]
     have : i * st ≤ (ps.length - 1) * st := Nat.mul_le_mul_right _ (by omega)
     omega
    refine ⟨cur.set (i * st) (co ps i), _, _, rfl, (sm.trans (Same.upd nT)).updr nl', ?_, ?_, ?_⟩
    ·rw [Zm, YN]
    ·rw [List.length_set]; exact hlen
    ·rw [← hst']
     have : ps.drop i = co ps i :: ps.drop (i + 1) := by
      rw [List.drop_eq_getElem_cons hi]
      congr 1
      have := Z8 hi
      rw [Zf hi] at this
      exact Option.some.inj this
     rw [this, Num.UO]
   ·rw [Za]
    have : ((i : Int) * (st : Int)) = ((i * st : Nat) : Int) := by rw [Int.natCast_mul]
    rw [this]
    refine YQ ?_
    rw [hlen]
    have : i * st ≤ (ps.length - 1) * st := Nat.mul_le_mul_right _ (by omega)
    omega
  ·rintro σ' H' ⟨cur, v3, v4, rfl, sm, hl', hlen, hst'⟩
   rw [Za, List.drop_length, Num.UO] at hst'
   rw [hst'] at hl'
   exact ⟨_, rfl, q l H' sm hl'⟩
theorem Zjr {f : Addr} {fd : FuncData} (F : YL K "widened" "widened" ZkQ f fd) (GS : Fn P w K mg base ZL 1 "stretched" ["powers", "step"] (ZeO K)) (GN : Fn P w K mg base ZL 3 "number_of" ["n", "powers"] (XS K)) : ZH P w K mg base ZL 4 f fd ["n", "one", "m"] (Zie K) := by
 refine F.ok (FS (N := ["n", "one", "m"])) (fun vs H Q E h => ?_) (fun cdv A outer s H vs Q E hr h => ?_)
 ·obtain ⟨n, m, a, xs, rfl, _⟩ := h; rfl
 ·obtain ⟨n, m, a, xs, rfl, n1, nm, m60, hS, x1, x60, q⟩ := h
  refine ⟨_, Zo (Zs (Yc GN hr Zu (pc (vn 2) (pc (Yc GS hr Zu (pc (vn 1) (pc (Zq YD (vn 2) (vn 0)) Zl))) Zl)))), ?_⟩
  have hst : m / n ≤ 60 := Nat.le_trans (Nat.div_le_self _ _) m60
  have hmul : (xs.length - 1) * (m / n) ≤ 59 * 60 := Nat.mul_le_mul (by omega) hst
  have eD : V.int ((m : Int) / (n : Int)) = V.int ((m / n : Nat) : Int) := congrArg V.int (by push_cast; rfl)
  refine ⟨_, rfl, _, rfl, _, rfl, _, rfl, _, _, rfl, rfl, ⟨(by show (0 : Int) < n; omega), (by show (n : Int) < 1073741824; omega)⟩, a, xs, m / n, congrArg (fun z => [V.ref a, z]) eD, hS, x1, by omega, by omega, by omega, fun l H1 s1 h1 => ?_⟩
  exact ⟨m, l, _, rfl, by omega, m60, .inl (.of h1), by rw [UP]; omega, fun qq H2 s2 h2 => q qq H2 (s1.trans s2) h2⟩
end
abbrev Ziq : Stmt := top 49
abbrev Zfh : Stmt := top 50
abbrev Zis : Stmt := top 51
abbrev sIs : Stmt := top 52
def Zik : Sp := fun vs H Q _ => ∃ (n : Nat) (r : Addr) (a : List Int), vs = [.int n, .ref r] ∧ 1 ≤ n ∧ n ≤ 60 ∧ H r = some (.lst (a.map V.int)) ∧ a.length = n ∧ (∀ k, k < n → J7 n (steps n (ZF n)) (co a) k = 0) ∧ ∀ H', Same H H' → Q (.bl true) H'
def prI (n i : Nat) : List Int := ((Ya 2 i).filter fun p => decide ((n : Int) % p = 0)).filter Ui
theorem Zfo (n i : Nat) : prI n (i + 1) = prI n i ++ if decide ((n : Int) % (2 + (i : Int)) = 0) && Ui (2 + (i : Int)) then [2 + (i : Int)] else [] := by
 have e : Ya 2 (i + 1) = Ya 2 i ++ [2 + (i : Int)] := by
  unfold Ya
  rw [List.range_succ, List.map_append]
  rfl
 unfold prI
 rw [e, List.filter_append, List.filter_append]
 congr 1
 generalize (2 : Int) + (i : Int) = p
 show List.filter Ui (List.filter (fun p => decide ((n : Int) % p = 0)) [p]) = _
 rw [List.filter_cons, List.filter_nil]
 cases hd : decide ((n : Int) % p = 0) with
 | true =>
  rw [if_pos rfl, Bool.true_and, List.filter_cons, List.filter_nil]
 | false =>
  rw [if_neg (by decide), Bool.false_and, if_neg (by decide)]
  rfl
section
variable {P : Program} {w : World} {K : PySem.W.Frag} {mg : Str → Option Value} {base : Heap}
theorem Zhs {f : Addr} {fd : FuncData} (F : YL K "_law_none" "_law_none" Zis f fd) (T : Bl mg) : ZH P w K mg base ZL 1 f fd ["_law_n", "_law_row"] Zik := by
 refine F.ok (FS (N := ["_law_n", "_law_row", "_law_p"])) (fun vs H Q E h => ?_) (fun cdv A outer s H vs Q E hr h => ?_)
 ·obtain ⟨n, r, a, rfl, _⟩ := h; rfl
 ·obtain ⟨n, r, a, rfl, n1, n60, hr0, hal, hz, q⟩ := h
  refine ⟨_, Zn (ZI PassesOwn.never rfl (Zjb T.range (pc Zp (pc (Zq ZO (vn 0) Zp) Zl))) (gnf 2 rfl)
    (Zo (Z4 (Zje (Zx XD (Zq Z5 (vn 0) (vn 2)) Zp (ZB _)) (Zg3 (Zx (ZjY K hr.units) (Xw ["_law_k"] [2] ["_law_k", "_law_p"] rfl (Zjb T.range (pc Zp (pc (vn 2) Zl))) (fun _ _ _ _ _ => gn 0) (fun _ _ _ _ _ => Jt (Zx XD (Zq Z5 (vn 1) (vn 0)) Zp (ZB _))) (fun _ _ _ _ _ => vn 0)) (ZD Zl) (ZB _)))).pt
     (Zo (Zy 1 rfl (Xw ["_law_k"] [0, 2, 1] ["_law_k", "_law_n", "_law_p", "_law_row"] rfl (WI T.range (pc (vn 0) Zl)) (fun _ _ _ _ _ => gn 0) (fun _ _ _ _ _ => ZK)
      (fun _ _ _ _ _ => Zq Yl (ZN (ixL K) (vn 3) (vn 0) (fun _ _ => rfl)) (ZN (ixL K) (vn 3) (Zq Z5 (Zq Yl (vn 0) (Zq YD (vn 1) (vn 2))) (vn 1)) (fun _ _ => rfl)))))) ZC)))
   (Zo (Zs (J4 (ZjY K hr.units) (Xw ["_law_one"] [] ["_law_one"] rfl (itL K (vn 1)) (fun _ _ _ _ _ => gn 0) (fun _ _ _ _ _ => Jt (Zx WJ (vn 0) Zp (ZB _))) (fun _ _ _ _ _ => vn 0)) (ZD Zl) (ZB _)))), ?_⟩
  refine ⟨_, rfl, _, _, rfl, rfl, 2, (n : Int) + 1, rfl, ⟨by decide, by decide, by omega, by omega⟩, ?_⟩
  refine ZR (fun i σ' H' => ∃ (b : List Int) (r' : Addr) (v2 : Option V), σ' = [some (.int n), some (.ref r'), v2] ∧ Same H H' ∧ H' r' = some (.lst (b.map V.int)) ∧ b.length = n ∧ ∀ k, k < n → co b k = J7 n (steps n (prI n i)) (co a) k)
   ⟨a, r, _, rfl, Same.refl _, hr0, hal, fun k hk => rfl⟩ ?_ ?_
  ·rintro i σ' H' hi ⟨b, r', v2, rfl, sm, hb, hbl, hco⟩
   have es := Zfo n i
   generalize hp : (2 : Int) + (i : Int) = p at es ⊢
   have p2 : 2 ≤ p := by omega
   have p60 : p ≤ n := by omega
   refine ⟨_, rfl, _, rfl, _, _, rfl, rfl, (by show (0 : Int) < p; omega), rfl, _, rfl, ?_⟩
   by_cases hc : (n : Int) % p = 0
   ·refine V0 (by rw [Yd, hc]; rfl) ?_
    refine ⟨_, rfl, 2, p, rfl, ⟨by decide, by decide, by omega, by omega⟩, ?_⟩
    refine Wo (Wh 2 (p - 2).toNat) [some (.int p)] rfl (fI fun k => decide (p % k = 0)) (fun y => y) (by rw [Za, Yf]; omega) ?_ ?_
    ·intro i2 x2 H2 hx2 s2 R2 R2' k1 k2
     obtain ⟨y, rfl, hy⟩ := YI hx2
     obtain ⟨y1, y2⟩ := JZ hy
     refine ⟨_, rfl, _, rfl, _, _, rfl, rfl, (by show (0 : Int) < y; omega), rfl, _, rfl, ?_⟩
     by_cases hc : p % y = 0
     ·refine V0 (by rw [Yd, hc]; rfl) ⟨_, rfl, k1 (decide_eq_true hc) H2 (Same.refl _)⟩
     ·refine YR (by rw [Yd]; simpa using hc) (k2 (decide_eq_false hc) H2 (Same.refl _))
    ·intro D2 H3 hD2 s3 hD3
     rw [Zbl _ (fun k => decide (p % k = 0)) (fun _ => rfl)] at hD3
     refine ⟨Nat.zero_le _, fun e0 he0 => ⟨_, _, .lst (.of (Same.upd he0 _ _ hD3)) (RdDs.ints _), .lst (.of Zm) .nil, ZgT _, rfl, _, rfl, ?_⟩⟩
     have e : PyData.eqv (.list ((List.filter (fun k => decide (p % k = 0)) (Ya 2 (p - 2).toNat)).map PyData.int)) (.list []) = Ui p := by
      rw [VC]
      unfold Ui
      exact Jf (List.length_map ..)
     rw [e]
     have s4 := s3.trans (Same.upd (o := .lst []) he0)
     have sm4 := sm.trans s4
     have hb4 := s4 _ _ hb
     generalize upd H3 e0 (.lst []) = H4 at s4 sm4 hb4 ⊢
     rw [decide_eq_true hc, Bool.true_and] at es
     refine YS (fun hn => ?_) (fun hn => ?_)
     ·rw [if_pos hn] at es
      refine ⟨_, rfl, n, rfl, by omega, by omega, ?_⟩
      have hs : n / p.toNat ≤ n := Nat.div_le_self _ _
      have eD : (n : Int) / p = ((n / p.toNat : Nat) : Int) := (congrArg (fun x : Int => (n : Int) / x) (show p = ((p.toNat : Nat) : Int) by omega)).trans rfl
      refine YA (Wh 0 (n : Int).toNat) [some (.int n), some (.int p), some (.ref r')] rfl (ZhR n b (n / p.toNat)) (by rw [Za, Yf]; omega) (fun j x H2 hx2 s2 R g => ?_) (fun l H2 nl s2 hl => ?_)
      ·obtain ⟨z, rfl, hz2⟩ := YI hx2
       obtain ⟨z1, z2⟩ := JZ hz2
       obtain ⟨k, rfl⟩ := Int.eq_ofNat_of_zero_le z1
       have hk : k < n := by omega
       have hb2 := s2 _ _ hb4
       have hm : (k + (n - n / p.toNat)) % n < b.length := by rw [hbl]; exact Nat.mod_lt _ n1
       refine ⟨_, rfl, _, rfl, r', _, _, _, rfl, rfl, .of hb2, YE (by omega), _, rfl, _, rfl, _, rfl, _, rfl, _, _, rfl, rfl, ⟨by omega, by omega⟩, _, _, rfl, rfl, _, rfl, _, _, rfl, rfl, (by show (0 : Int) < n; omega), r', _, _, .int (co b ((k + (n - n / p.toNat)) % n)), rfl, rfl, .of hb2, ?_, _, _, rfl, rfl, ?_⟩
       ·rw [eD, Zmx n1 hs]
        exact YE hm
       ·have := g H2 (Same.refl _)
        show R (.int (co b k - co b ((k + (n - n / p.toNat)) % n))) H2
        have e : ZhR n b (n / p.toNat) (.int (k : Int)) = V.int (co b k - co b ((k + (n - n / p.toNat)) % n)) := by
         show V.int (co b (k : Int).toNat - co b (((k : Int).toNat + (n - n / p.toNat)) % n)) = _
         rw [Zj]
        rw [← e]
        exact this
      ·rw [Zj, Zgm] at hl
       refine ⟨Uh n b (n / p.toNat), l, _, rfl, sm4.trans s2, hl, ?_, fun k hk => ?_⟩
       ·unfold Uh; rw [Za, Zg]
       ·rw [ZfO hk, es]
        unfold steps J7
        rw [List.map_append, List.foldl_append]
        show lk n (n / p.toNat) (co b) k = lk n (n / p.toNat) (J7 n (steps n (prI n i)) (co a)) k
        unfold lk
        rw [hco k hk, hco _ (Nat.mod_lt _ n1)]
     ·rw [if_neg hn, List.append_nil] at es
      exact ⟨b, r', _, rfl, sm4, hb4, hbl, by rw [es]; exact hco⟩
   ·rw [decide_eq_false hc, Bool.false_and, if_neg (by decide), List.append_nil] at es
    refine YR (by rw [Yd]; simpa using hc) ?_
    exact ⟨b, r', _, rfl, sm, hb, hbl, by rw [es]; exact hco⟩
  ·rintro σ' H' ⟨b, r', v2, rfl, sm, hb, hbl, hco⟩
   have ep : prI n ((n : Int) + 1 - 2).toNat = ZF n := (Zf0 n1 n60).1
   rw [ep] at hco
   have bz : ∀ x ∈ b, x = 0 := fun x hx => by
    obtain ⟨k, hk⟩ := List.getElem?_of_mem hx
    have hkl := (List.getElem?_eq_some_iff.mp hk).1
    rw [Z8 hkl] at hk
    have := Option.some.inj hk
    rw [← this, hco k (by omega), hz k (by omega)]
   refine ⟨_, rfl, r', rfl, ⟨_, .of hb⟩, ?_⟩
   refine Wo (WQ (K := K) (.of hb)) [] rfl (fun _ => false) (fun y => y) (by rw [Za]; omega) ?_ ?_
   ·intro i x H2 hx s2 R R' g1 g2
    obtain ⟨z, rfl, hz2⟩ := YI hx
    have := bz z hz2
    subst this
    exact ⟨_, rfl, rfl, _, rfl, YR (by decide) (g2 rfl H2 (Same.refl _))⟩
   ·intro D H2 hD s2 hD'
    have ee : ((b.map V.int).filter fun _ => false).map (fun y => y) = ([] : List V) := by simp
    rw [ee] at hD'
    refine ⟨by decide, fun e0 he0 => ⟨_, _, .lst (.of (Same.upd he0 _ _ hD')) .nil, .lst (.of Zm) .nil, rfl, rfl, q _ ((sm.trans s2).trans (Same.upd he0))⟩⟩
end
def ZkO : Sp := fun vs H Q _ => ∃ (n : Nat) (a b : Addr) (rs rs' : List Int), vs = [.int n, .ref a, .ref b] ∧ 1 ≤ n ∧ n ≤ 60 ∧ H a = some (.tup ((Y1 n (Z2 n) (RN n) rs).map V.int)) ∧ H b = some (.lst ((rs ++ rs').map V.int)) ∧ rs.length = n ∧ ∀ H', Same H H' → Q (.bl true) H'
section
variable {P : Program} {w : World} {K : PySem.W.Frag} {mg : Str → Option Value} {base : Heap}
theorem Zal (xs : List Int) (m t : Nat) : co (xs ++ List.replicate m 0) t = co xs t := by
 unfold co
 rw [Zb, Zb]
 by_cases h : t < xs.length
 ·rw [List.getElem?_append_left h]
 ·rw [List.getElem?_append_right (by omega), List.getElem?_eq_none (show xs.length ≤ t by omega), List.getElem?_replicate]
  split <;> rfl
theorem ZhY {xs ys : List Int} {t : Nat} (h : t < xs.length) : co (xs ++ ys) t = co xs t := by
 unfold co
 rw [Zb, Zb, List.getElem?_append_left h]
theorem Zlh {f : Addr} {fd : FuncData} (F : YL K "_law_is" "_law_is" sIs f fd) (T : Bl mg) (GL : Fn P w K mg base ZL 2 "_law_places" ["_law_n"] XT) (GN : Fn P w K mg base ZL 1 "_law_none" ["_law_n", "_law_row"] Zik) : ZH P w K mg base ZL 3 f fd ["_law_n", "_law_number", "_law_row"] ZkO := by
 refine F.ok (FS (N := ["_law_n", "_law_number", "_law_row", "_law_full"])) (fun vs H Q E h => ?_) (fun cdv A outer s H vs Q E hr h => ?_)
 ·obtain ⟨n, a, b, rs, rs', rfl, _⟩ := h; rfl
 ·obtain ⟨n, a, b, rs, rs', rfl, n1, n60, hA, hB, hl, q⟩ := h
  obtain ⟨G, ht⟩ := Vy n1 n60
  have hphi := (Vp n1 n60).2.2.1
  have tn := G.tn
  refine ⟨_, Zn (Z4 (JD (Y0 (Yw (cb (Vx K "tuple") T.isi (pc (vn 1) (pc (tyv "tuple" T.tuple) Zl))))) (WS (Zx WJ (cb (Z7 K) T.len (pc (vn 1) Zl)) (Yc GL hr Zu (pc (vn 0) Zl)) (ZB _)))).pt (Zo (Zs YH)) ZC)
   (Zn (Z4 (Zx (Zll K hr.units) (Xw ["_law_one"] [] ["_law_one"] rfl (itT K (vn 1)) (fun _ _ _ _ _ => gn 0)
     (fun _ _ _ _ _ => Jt (JD (Y0 (Yw (cb (Vx K "int") (by exact T.isi) (pc (vn 0) (pc (tyv "int" (by exact T.int)) Zl))))) (WS (Yw (cb (Vx K "bool") (by exact T.isi) (pc (vn 0) (pc (tyv "bool" (by exact T.bool)) Zl)))))).pt)
     (fun _ _ _ _ _ => vn 0)) (ZD Zl) (ZB _)) (Zo (Zs YH)) ZC)
   (Zn (Zy 3 rfl (Zq Xp (ct ZZ T.list (pc (vn 1) Zl)) (Zq Wc (ZD (pc Zp Zl)) (vn 0))))
   (Zo (Zs (Yc GN hr Zu (pc (vn 0) (pc (Xw ["_law_k"] [3, 2] ["_law_k", "_law_full", "_law_row"] rfl (WI T.range (pc (vn 0) Zl)) (fun _ _ _ _ _ => gn 0) (fun _ _ _ _ _ => ZK)
    (fun _ _ _ _ _ => Zq Yl (ZN (ixL K) (vn 1) (vn 0) (fun _ _ => rfl)) (ZN (ixL K) (vn 2) (vn 0) (fun _ _ => rfl)))) Zl))))))), ?_⟩
  have sz : (16777216 : Nat) = sizeLine := by decide
  generalize hnum : Y1 n (Z2 n) (RN n) rs = num at hA
  have nl : num.length = Z2 n := by rw [← hnum, Yg]
  have hT : Th K H (.ref a) (some (num.map V.int)) := .tup hA (by rw [Za]; omega) Zah
  obtain ⟨t, hk, htt⟩ := hT.kd
  refine ⟨_, rfl, .ref a, t, rfl, hk, _, rfl, ?_⟩
  rw [htt]
  refine YR (by simp) ?_
  refine ⟨_, rfl, a, _, rfl, .inr (.of hA), _, rfl, n, rfl, n1, n60, fun H1 s1 => ⟨rfl, _, rfl, ?_⟩⟩
  refine YR ?_ ?_
  ·rw [Za, nl, ht, hphi]
   simp
  have hA1 := s1 _ _ hA
  refine ⟨_, rfl, a, rfl, ⟨_, .of hA1⟩, ?_⟩
  refine Wo (Yn (YW.of hA1)) [] rfl (fun _ => false) (fun y => y) (by rw [Za]; omega) ?_ ?_
  ·intro i y H' hy s' R R' g1 g2
   obtain ⟨z, rfl, _⟩ := YI hy
   obtain ⟨n', d, hk', _⟩ := (Zah (K := K) (H := H') (ns := num) (.int z) (List.mem_of_getElem? hy))
   have e := Vw hk'
   unfold UJ at e
   have e : (JL n' "int" && !JL n' "bool") = true := e
   rw [Bool.and_eq_true] at e
   refine ⟨_, rfl, _, n', rfl, hk', _, rfl, YR (by rw [e.1]; decide) ?_⟩
   refine ⟨_, rfl, _, n', rfl, hk', _, rfl, YR (by have := e.2; simpa using this) (g2 rfl H' (Same.refl _))⟩
  intro D H2 hD s2 hD'
  have ee : ((num.map V.int).filter fun _ => false).map (fun y => y) = ([] : List V) := by simp
  rw [ee] at hD'
  refine ⟨by decide, fun e0 he0 => ⟨_, _, .lst (.of (Same.upd he0 _ _ hD')) .nil, .lst (.of Zm) .nil, rfl, rfl, _, rfl, YR (by decide) ?_⟩⟩
  have s3 := (s1.trans s2).trans (Same.upd (o := .lst []) he0)
  generalize upd H2 e0 (.lst []) = H3 at s3 ⊢
  refine ⟨_, rfl, a, _, rfl, .inr (.of (s3 _ _ hA)), fun l1 nl1 => ?_⟩
  have s4 := Same.upd (H := H3) (o := .lst (num.map V.int)) nl1
  refine ⟨(by show 1 ≤ sizeLine; decide), fun l2 nl2 => ?_⟩
  have s5 := Same.upd (o := .lst [.int 0]) nl2
  refine ⟨_, rfl, l2, _, _, rfl, rfl, Zm, by omega, by omega, by show 1 * ((n : Int)).toNat ≤ sizeLine; omega, fun l3 nl3 => ?_⟩
  rw [Zj, Wu]
  have s6 := Same.upd (o := .lst ((List.replicate n (0 : Int)).map V.int)) nl3
  refine ⟨l1, l3, _, _, rfl, rfl, s6 _ _ (s5 _ _ Zm), Zm, by rw [Za, Za, Ze]; omega, fun l4 nl4 => ?_⟩
  rw [← List.map_append]
  have s7 := Same.upd (o := .lst ((num ++ List.replicate n (0 : Int)).map V.int)) nl4
  have sA := s3.trans (((s4.trans s5).trans s6).trans s7)
  have h4 := Zm (H := upd (upd (upd H3 l1 (.lst (num.map V.int))) l2 (.lst [.int 0])) l3 (.lst ((List.replicate n (0 : Int)).map V.int))) (a := l4) (o := .lst ((num ++ List.replicate n (0 : Int)).map V.int))
  generalize upd (upd (upd (upd H3 l1 (.lst (num.map V.int))) l2 (.lst [.int 0])) l3 (.lst ((List.replicate n (0 : Int)).map V.int))) l4 (.lst ((num ++ List.replicate n (0 : Int)).map V.int)) = H8 at sA h4 ⊢
  refine ⟨_, rfl, _, rfl, n, rfl, by omega, by omega, ?_⟩
  refine YA (Wh 0 (n : Int).toNat) [some (.ref l4), some (.ref b)] rfl (fD (num ++ List.replicate n 0) (rs ++ rs')) (by rw [Za, Yf]; omega) (fun j x H9 hx s9 R g => ?_) (fun l H9 nl9 s9 hl9 => ?_)
  ·obtain ⟨z, rfl, hz⟩ := YI hx
   obtain ⟨z1, z2⟩ := JZ hz
   obtain ⟨k, rfl⟩ := Int.eq_ofNat_of_zero_le z1
   have hk : k < n := by omega
   refine ⟨_, rfl, _, rfl, l4, _, _, _, rfl, rfl, .of (s9 _ _ h4), YE (by rw [Zd, Ze]; omega), _, rfl, _, rfl, b, _, _, _, rfl, rfl, .of (s9 _ _ (sA _ _ hB)), YE (by rw [Zd]; omega), _, _, rfl, rfl, ?_⟩
   have := g H9 (Same.refl _)
   have e : fD (num ++ List.replicate n 0) (rs ++ rs') (.int (k : Int)) = V.int (co (num ++ List.replicate n 0) k - co (rs ++ rs') k) := by
    show V.int (co _ (k : Int).toNat - co _ (k : Int).toNat) = _
    rw [Zj]
   rw [e] at this
   exact this
  ·rw [Zj, ZjV] at hl9
   refine ⟨n, l, _, rfl, n1, n60, hl9, by unfold Zgt; rw [Za, Zg], fun k hk => ?_, fun H10 s10 => q H10 ((sA.trans s9).trans s10)⟩
   refine Eq.trans ?_ (ZfX G rs k hk)
   refine YJ n n1 _ _ _ (fun t ht' => ?_) k hk
   rw [ZhV ht', Zal, ZhY (by omega), hnum, Ji (by omega), Ji (by omega)]
def ZeP (K : PySem.W.Frag) : Sp := fun vs H Q _ => ∃ (n : Nat) (a b : Addr) (xs ys : List Int), vs = [.int n, .ref a, .ref b] ∧ 1 ≤ n ∧ n ≤ 60 ∧ YW K H a (xs.map V.int) ∧ (Wp K H b (ys.map V.int) ∨ YW K H b (ys.map V.int)) ∧ xs.length ≤ 60 ∧ ys.length ≤ 60 ∧ Jp xs ∧
 ∀ l H', Same H H' → H' l = some (.lst ((Za8 n xs ys).map V.int)) → Q (.ref l) H'
theorem Zhp {f : Addr} {fd : FuncData} (F : YL K "_law_product" "_law_product" Ziq f fd) (T : Bl mg) : ZH P w K mg base ZL 1 f fd ["_law_n", "_law_one", "_law_other"] (ZeP K) := by
 refine F.ok (FS (N := ["_law_n", "_law_one", "_law_other", "_law_found", "_law_j", "_law_k", "_law_at"])) (fun vs H Q E h => ?_) (fun cdv A outer s H vs Q E hr h => ?_)
 ·obtain ⟨n, a, b, xs, ys, rfl, _⟩ := h; rfl
 ·obtain ⟨n, a, b, xs, ys, rfl, n1, n60, hS, hB, hwl, hyl, hsm, q⟩ := h
  refine ⟨_, Zn (Zy 3 rfl (Zq Wc (ZD (pc Zp Zl)) (vn 0)))
   (Zn (ZI PassesOwn.never rfl (WI T.range (pc (cb (Z7 K) T.len (pc (vn 1) Zl)) Zl)) (gn 4)
    (Zo (ZI PassesOwn.never rfl (WI T.range (pc (cb (Z7 K) T.len (pc (vn 2) Zl)) Zl)) (gn 5)
     (Zn (Zy 6 rfl (Zq Z5 (Zq ZO (vn 4) (vn 5)) (vn 0)))
     (Zo (Xn (Zq ZO (ZN (ixL K) (vn 3) (vn 6) (fun _ _ => rfl)) (Zq Z0 (ZN (Us K) (vn 1) (vn 4) (fun _ _ => rfl)) (ZN (ixS K) (vn 2) (vn 5) (fun _ _ => rfl)))) (Xo (vn 3) (vn 6) Yr)))))))
   (Zo (Zs (vn 3)))), ?_⟩
  have sz : (16777216 : Nat) = sizeLine := by decide
  refine ⟨(by show 1 ≤ sizeLine; decide), fun l0 nl0 => ?_⟩
  have s0 := Same.upd (H := H) (o := .lst [.int 0]) nl0
  refine ⟨_, rfl, l0, _, _, rfl, rfl, Zm, by omega, by omega, by show 1 * ((n : Int)).toNat ≤ sizeLine; omega, fun l nl' => ?_⟩
  rw [Zj, Wu]
  have nl : H l = none := s0.free nl'
  have s1 := s0.trans (Same.upd (o := .lst ((List.replicate n (0 : Int)).map V.int)) nl')
  have hl := Zm (H := upd H l0 (.lst [.int 0])) (a := l) (o := .lst ((List.replicate n (0 : Int)).map V.int))
  generalize upd (upd H l0 (.lst [.int 0])) l (.lst ((List.replicate n (0 : Int)).map V.int)) = H1 at s1 hl ⊢
  refine ⟨_, rfl, a, _, rfl, .inr (s1.tup hS), _, rfl, by omega, by rw [Za]; omega, ?_⟩
  rw [Zj, Za]
  refine ZR (fun i σ' H' => ∃ (cur : List Int) (v4 v5 v6 : Option V), σ' = [some (.int n), some (.ref a), some (.ref b), some (.ref l), v4, v5, v6] ∧ Same H H' ∧ H' l = some (.lst (cur.map V.int)) ∧ cur.length = n ∧ JC n ys (xs.drop i) i cur = Za8 n xs ys)
   ⟨_, _, _, _, rfl, s1, hl, List.length_replicate .., rfl⟩ ?_ ?_
  ·rintro i σ' H' hi ⟨cur, v4, v5, v6, rfl, sm, hl', hcl, hfo⟩
   rw [show (0 : Int) + (i : Int) = (i : Int) by omega]
   rw [Y5 hi, Num.JC] at hfo
   have hxs := hsm (co xs i) (List.mem_of_getElem? (Z8 hi))
   refine ⟨_, rfl, b, _, rfl, ZcL sm hB, _, rfl, by omega, by rw [Za]; omega, ?_⟩
   rw [Zj, Za]
   refine ZR (fun j σ3 H3 => ∃ (c3 : List Int) (u5 u6 : Option V), σ3 = [some (.int n), some (.ref a), some (.ref b), some (.ref l), some (.int i), u5, u6] ∧ Same H H3 ∧ H3 l = some (.lst (c3.map V.int)) ∧ c3.length = n ∧ Vk n (co xs i) (ys.drop j) (i + j) c3 = Vk n (co xs i) ys i cur)
    ⟨cur, _, _, rfl, sm, hl', hcl, rfl⟩ ?_ ?_
   ·rintro j σ3 H3 hj ⟨c3, u5, u6, rfl, sm3, g2, g3, g4⟩
    rw [show (0 : Int) + (j : Int) = (j : Int) by omega]
    have him : (i + j) % n < c3.length := by rw [g3]; exact Nat.mod_lt _ n1
    have eM : ((i : Int) + (j : Int)) % (n : Int) = (((i + j) % n : Nat) : Int) := by push_cast; rfl
    refine ⟨_, rfl, _, rfl, _, _, rfl, rfl, _, rfl, _, _, rfl, rfl, (by show (0 : Int) < n; omega), ?_⟩
    dsimp only
    rw [eM]
    refine ⟨_, rfl, _, rfl, l, _, _, _, rfl, rfl, .of g2, YE him, _, rfl, _, rfl, a, _, _, _, rfl, rfl, sm3.tup hS, YE hi, _, rfl, _, rfl, b, _, _, _, rfl, rfl, ZcL sm3 hB, YE hj, _, _, rfl, rfl, .inl hxs, _, _, rfl, rfl, _, rfl, _, rfl, l, _, _, (i + j) % n, rfl, rfl, g2, ?_, ?_⟩
    ·rw [Za]; exact YQ him
    ·refine ⟨c3.set ((i + j) % n) (co c3 ((i + j) % n) + co xs i * co ys j), _, _, rfl, sm3.updr nl, ?_, ?_, ?_⟩
     ·rw [Zm, YN]
     ·rw [List.length_set]; exact g3
     ·rw [← g4, Y5 hj, Num.Vk]
      rfl
   ·rintro σ3 H3 ⟨c3, u5, u6, rfl, sm3, g2, g3, g4⟩
    rw [List.drop_length, Num.Vk] at g4
    refine ⟨c3, _, _, _, rfl, sm3, g2, g3, ?_⟩
    rw [g4]; exact hfo
  ·rintro σ' H' ⟨cur, v4, v5, v6, rfl, sm, hl', hcl, hfo⟩
   rw [List.drop_length, Num.JC] at hfo
   rw [hfo] at hl'
   exact ⟨_, rfl, q l H' sm hl'⟩
def flR (n : Nat) (xs : List Int) : List Int := (List.range n).map fun t => co xs ((n - t) % n)
theorem Zgx {n t : Nat} {xs : List Int} (h : t < n) : co (flR n xs) t = co xs ((n - t) % n) := by
 unfold flR co
 rw [Zb, Zc, List.getElem?_range h]
 rfl
theorem Zdn {a : List Int} {i t : Nat} {v : Int} (h : i < a.length) : co (a.set i v) t = if t = i then v else co a t := by
 unfold co
 rw [Zb, List.getElem?_set]
 by_cases e : i = t
 ·rw [if_pos e, if_pos e.symm, if_pos h]
  rfl
 ·rw [if_neg e, if_neg (fun z => e z.symm), Zb]
theorem XV {n i t : Nat} (hi : i < n) (ht : t < n) : t = (n - i) % n ↔ (n - t) % n = i := by
 constructor
 ·rintro rfl
  by_cases h : i = 0
  ·subst h
   rw [Nat.sub_zero, Nat.mod_self, Nat.sub_zero, Nat.mod_self]
  ·rw [Nat.mod_eq_of_lt (show n - i < n by omega), show n - (n - i) = i by omega, Nat.mod_eq_of_lt hi]
 ·rintro rfl
  by_cases h : t = 0
  ·subst h
   rw [Nat.sub_zero, Nat.mod_self, Nat.sub_zero, Nat.mod_self]
  ·rw [Nat.mod_eq_of_lt (show n - t < n by omega), show n - (n - t) = t by omega, Nat.mod_eq_of_lt ht]
def ZcH (K : PySem.W.Frag) : Sp := fun vs H Q _ => ∃ (n : Nat) (a : Addr) (xs : List Int), vs = [.int n, .ref a] ∧ 1 ≤ n ∧ n ≤ 60 ∧ YW K H a (xs.map V.int) ∧ xs.length ≤ n ∧ ∀ l H', Same H H' → H' l = some (.lst ((flR n xs).map V.int)) → Q (.ref l) H'
theorem ZfL {f : Addr} {fd : FuncData} (F : YL K "_law_flip" "_law_flip" Zfh f fd) (T : Bl mg) : ZH P w K mg base ZL 1 f fd ["_law_n", "_law_one"] (ZcH K) := by
 refine F.ok (FS (N := ["_law_n", "_law_one", "_law_found", "_law_k"])) (fun vs H Q E h => ?_) (fun cdv A outer s H vs Q E hr h => ?_)
 ·obtain ⟨n, a, xs, rfl, _⟩ := h; rfl
 ·obtain ⟨n, a, xs, rfl, n1, n60, hS, hwl, q⟩ := h
  refine ⟨_, Zn (Zy 2 rfl (Zq Wc (ZD (pc Zp Zl)) (vn 0)))
   (Zn (ZI PassesOwn.never rfl (WI T.range (pc (cb (Z7 K) T.len (pc (vn 1) Zl)) Zl)) (gn 3)
    (Zo (Xn (ZN (Us K) (vn 1) (vn 3) (fun _ _ => rfl)) (Xo (vn 2) (Zq Z5 (Zq Yl (vn 0) (vn 3)) (vn 0)) Yr))))
   (Zo (Zs (vn 2)))), ?_⟩
  have sz : (16777216 : Nat) = sizeLine := by decide
  refine ⟨(by show 1 ≤ sizeLine; decide), fun l0 nl0 => ?_⟩
  have s0 := Same.upd (H := H) (o := .lst [.int 0]) nl0
  refine ⟨_, rfl, l0, _, _, rfl, rfl, Zm, by omega, by omega, by show 1 * ((n : Int)).toNat ≤ sizeLine; omega, fun l nl' => ?_⟩
  rw [Zj, Wu]
  have nl : H l = none := s0.free nl'
  have s1 := s0.trans (Same.upd (o := .lst ((List.replicate n (0 : Int)).map V.int)) nl')
  have hl := Zm (H := upd H l0 (.lst [.int 0])) (a := l) (o := .lst ((List.replicate n (0 : Int)).map V.int))
  generalize upd (upd H l0 (.lst [.int 0])) l (.lst ((List.replicate n (0 : Int)).map V.int)) = H1 at s1 hl ⊢
  refine ⟨_, rfl, a, _, rfl, .inr (s1.tup hS), _, rfl, by omega, by rw [Za]; omega, ?_⟩
  rw [Zj, Za]
  refine ZR (fun i σ' H' => ∃ (cur : List Int) (v3 : Option V), σ' = [some (.int n), some (.ref a), some (.ref l), v3] ∧ Same H H' ∧ H' l = some (.lst (cur.map V.int)) ∧ cur.length = n ∧ ∀ t, t < n → co cur t = if (n - t) % n < i then co xs ((n - t) % n) else 0)
   ⟨_, _, rfl, s1, hl, List.length_replicate .., fun t ht => by
    rw [if_neg (Nat.not_lt_zero _)]
    unfold co
    rw [Zb, List.getElem?_replicate, if_pos ht]
    rfl⟩ ?_ ?_
  ·rintro i σ' H' hi ⟨cur, v3, rfl, sm, hl', hcl, hco⟩
   rw [show (0 : Int) + (i : Int) = (i : Int) by omega]
   have hin : i < n := by omega
   have hm : (n - i) % n < n := Nat.mod_lt _ n1
   have eM : ((n : Int) - (i : Int)) % (n : Int) = (((n - i) % n : Nat) : Int) := by
    rw [← Int.ofNat_sub (by omega)]
    push_cast
    rfl
   have eV : V.int (((n : Int) - (i : Int)) % (n : Int)) = V.int (((n - i) % n : Nat) : Int) := by rw [eM]
   refine ⟨_, rfl, _, rfl, a, _, _, _, rfl, rfl, sm.tup hS, YE hi, _, rfl, _, rfl, _, rfl, _, _, rfl, rfl, _, rfl, _, _, rfl, rfl, (by show (0 : Int) < n; omega), l, _, _, (n - i) % n, rfl, eV, hl', ?_, ?_⟩
   ·rw [Za]; exact YQ (by omega)
   ·refine ⟨cur.set ((n - i) % n) (co xs i), _, rfl, sm.updr nl, by rw [Zm, YN], by rw [List.length_set]; exact hcl, fun t ht => ?_⟩
    rw [Zdn (by omega)]
    by_cases e : t = (n - i) % n
    ·have e2 := (XV hin ht).mp e
     rw [if_pos e, e2, if_pos (by omega)]
    ·have e2 : (n - t) % n ≠ i := fun z => e ((XV hin ht).mpr z)
     rw [if_neg e, hco t ht]
     by_cases h : (n - t) % n < i
     ·rw [if_pos h, if_pos (by omega)]
     ·rw [if_neg h, if_neg (by omega)]
  ·rintro σ' H' ⟨cur, v3, rfl, sm, hl', hcl, hco⟩
   have e : cur = flR n xs := by
    refine Xv (by rw [hcl]; unfold flR; rw [Za, Zg]) fun t ht => ?_
    rw [hcl] at ht
    rw [hco t ht, Zgx ht]
    by_cases h : (n - t) % n < xs.length
    ·rw [if_pos h]
    ·rw [if_neg h, YK (by omega)]
   rw [e] at hl'
   exact ⟨_, rfl, q l H' sm hl'⟩
end
end N24
namespace C24
open PySem L2 PySem.Spec PyProof.Rows
open Tb Pm
abbrev ZcQ : Stmt := top 46
abbrev ZcN : Stmt := top 48
theorem Zbj : ∀ (f a b : Nat), b < f → N24.Zd9 f (a : Int) (b : Int) = (Nat.gcd a b : Nat)
 | 0, a, b, h => by omega
 | f + 1, a, b, h => by
  rw [N24.Zd9]
  by_cases h0 : (0 : Int) < (b : Int)
  ·rw [if_pos h0]
   have hb : 0 < b := by omega
   have e : (a : Int) % (b : Int) = ((a % b : Nat) : Int) := by push_cast; rfl
   rw [e, Zbj f b (a % b) (by have := Nat.mod_lt a hb; omega), Nat.gcd_comm b (a % b), ← Nat.gcd_rec, Nat.gcd_comm]
  ·rw [if_neg h0]
   have : b = 0 := by omega
   subst this
   rw [Nat.gcd_zero_right]
theorem Zgf {a b : Nat} (h : b < 100) : N24.V1 (a : Int) (b : Int) = (Nat.gcd a b : Nat) := Zbj 100 a b h
theorem Zg2 {t : List (List Nat)} {a r r' : Nat} (R : Rd t a r) (R' : Rd t a r') : r = r' := by
 apply Classical.byContradiction
 intro z
 rcases Nat.lt_or_gt_of_ne z with h | h
 ·exact R'.nz r R.r1 h R.z
 ·exact R.nz r' R'.r1 h R'.z
def ZaG : Sp := fun vs H Q _ => ∃ (g : Addr) (t : List (List Nat)), vs = [.ref g] ∧ GT H g t ∧ PW t ∧ ∀ (m : Nat) H', Same H H' → 1 ≤ m → m ≤ 60 → (∀ a, a < t.length → ∀ r, Rd t a r → r ∣ m) → Q (.int m) H'
section
variable {P : Program} {w : World} {K : PySem.W.Frag} {mg : Str → Option Value} {base : Heap}
theorem ZdS {f : Addr} {fd : FuncData} (F : YL K "_law_round" "_law_round" ZcQ f fd) (T : Bl mg) (GS : Fn P w K mg base ZL 1 "_law_shared" ["_law_one", "_law_other"] N24.ZeR) : ZH P w K mg base ZL 2 f fd ["_law_group_here"] ZaG := by
 refine F.ok (FS (N := ["_law_group_here", "_law_found", "_law_a", "_law_here", "_law_many"])) (fun vs H Q E h => ?_) (fun cdv A outer s H vs Q E hr h => ?_)
 ·obtain ⟨g, t, rfl, _⟩ := h; rfl
 ·obtain ⟨g, t, rfl, G, Pt, q⟩ := h
  refine ⟨_, Zn (Zy 1 rfl Zp)
   (Zn (ZI PassesOwn.never rfl (WI T.range (pc (cb (Z7 K) T.len (pc (vn 0) Zl)) Zl)) (gn 2)
    (Zn (Zy 3 rfl (vn 2))
    (Zn (Zy 4 rfl Zp)
    (Zn (Y8 PassesOwn.never (Zx WJ (vn 3) Zp (ZB _))
     (Zn (Zy 3 rfl (ZN (Us K) (ZN (Us K) (vn 0) (vn 3) (fun _ _ => rfl)) (vn 2) (fun _ _ => rfl)))
     (Zo (Zy 4 rfl (Zq ZO (vn 4) Zp)))))
    (Zo (Zy 1 rfl (Zq YD (Zq Z0 (vn 1) (vn 4)) (Yc GS hr Zu (pc (vn 1) (pc (vn 4) Zl))))))))))
   (Zo (Zs (vn 1)))), ?_⟩
  have n60 := Pt.n60
  have n1 := Pt.n1
  obtain ⟨gs, u1, u2, _⟩ := id G
  have el : (gs.map V.ref).length = t.length := by rw [Za, u2]
  refine ⟨_, rfl, g, _, rfl, .inr (.of u1), _, rfl, by rw [el]; omega, by rw [el]; omega, ?_⟩
  rw [el, Zj]
  refine ZR (fun i σ' H' => ∃ (m : Nat) (v2 v3 v4 : Option V), σ' = [some (.ref g), some (.int (m : Nat)), v2, v3, v4] ∧ Same H H' ∧ 1 ≤ m ∧ m ∣ t.length ∧ ∀ b, b < i → ∀ r, Rd t b r → r ∣ m) ⟨1, _, _, _, rfl, Same.refl _, Nat.le_refl _, Nat.one_dvd _, fun b hb => absurd hb (Nat.not_lt_zero _)⟩ ?_ ?_
  ·rintro a σ' H1 ha ⟨m, v2, v3, v4, rfl, s1, m1, md, mr⟩
   rw [show (0 : Int) + (a : Int) = (a : Int) by omega]
   obtain ⟨r, R⟩ := Pt.rd a ha
   have r1 := R.r1
   have rn := R.rn
   refine ⟨_, rfl, ?_⟩
   refine YM (fun x σ' H' => ∃ k : Nat, σ' = [some (.ref g), some (.int (m : Nat)), some (.int (a : Nat)), some (.int (it t a k : Nat)), some (.int (k : Nat))] ∧ Same H H' ∧ 1 ≤ k ∧ k ≤ r ∧ x = r - k)
    (fun σ' H' => ∃ v3 : Option V, σ' = [some (.ref g), some (.int (m : Nat)), some (.int (a : Nat)), v3, some (.int (r : Nat))] ∧ Same H H') ?hend ⟨r - 1, 1, by rw [Zf6 Pt ha]; rfl, s1, Nat.le_refl _, r1, rfl⟩ ?turn
   case hend =>
    rintro σ' H' ⟨v3', rfl, sm⟩
    have mle : m ≤ 60 := Nat.le_trans (Nat.le_of_dvd n1 md) n60
    have gp : 0 < Nat.gcd m r := Nat.gcd_pos_of_pos_left _ m1
    have gle : Nat.gcd m r ≤ m := Nat.gcd_le_left _ m1
    have eL : ((m : Int) * (r : Int)) / ((Nat.gcd m r : Nat) : Int) = ((Nat.lcm m r : Nat) : Int) := by
     unfold Nat.lcm
     push_cast
     rfl
    refine ⟨_, rfl, _, rfl, _, _, rfl, rfl, .inl ⟨by omega, by omega⟩, _, rfl, _, rfl, _, _, rfl, by omega, by omega, ?_⟩
    rw [Zgf (by omega)]
    refine ⟨_, _, rfl, rfl, ⟨by omega, by omega⟩, ?_⟩
    dsimp only
    rw [eL]
    refine ⟨_, _, _, _, rfl, sm, Nat.lcm_pos m1 r1, Nat.lcm_dvd md (Nat.dvd_of_mod_eq_zero R.dv), fun b hb r' R' => ?_⟩
    by_cases e : b = a
    ·subst e
     rw [Zg2 R' R]
     exact Nat.dvd_lcm_right _ _
    ·exact Nat.dvd_trans (mr b (by omega) r' R') (Nat.dvd_lcm_left _ _)
   case turn =>
    rintro hend x σ' H' ⟨k, rfl, sm, k1, kr, hx⟩
    refine ⟨_, rfl, rfl, _, rfl, ?_⟩
    refine YS (fun h1 => ?_) (fun h1 => ?_)
    ·have h1 : it t a k ≠ 0 := fun z => by
      rw [Yd, z] at h1
      simp at h1
     have kr' : k < r := Nat.lt_of_le_of_ne kr fun z => h1 (z ▸ R.z)
     obtain ⟨rs, r2, g1, _, g2, g3, g4⟩ := (G.mono sm).at Pt (XF Pt ha k)
     refine ⟨_, fun _ _ z => z, _, rfl, _, rfl, g, _, _, _, rfl, rfl, .of g1, g2, _, rfl, r2, _, _, _, rfl, rfl, g3.sq, g4 a ha, _, rfl, _, _, rfl, rfl, r - (k + 1), by omega, k + 1, rfl, sm, by omega, by omega, rfl⟩
    ·have h1 : it t a k = 0 := by
      apply Classical.byContradiction
      intro z
      apply h1
      rw [Yd]
      simp [z]
     have : k = r := by
      apply Classical.byContradiction
      intro z
      exact R.nz k k1 (by omega) h1
     subst this
     exact hend _ _ ⟨_, rfl, sm⟩
  ·rintro σ' H1 ⟨m, v2, v3, v4, rfl, s1, m1, md, mr⟩
   exact ⟨_, rfl, q m H1 s1 m1 (Nat.le_trans (Nat.le_of_dvd n1 md) n60) mr⟩
end
def Jo (H : Hp) (L : Addr) (bs : List Addr) (xss : List (List Int)) : Prop := H L = some (.lst (bs.map V.ref)) ∧ bs.length = xss.length ∧ ∀ (i : Nat) b, bs[i]? = some b → H b = some (.tup ((xss.getD i []).map V.int))
theorem Jo.mono {H H' : Hp} {L : Addr} {bs : List Addr} {yss : List (List Int)} (s : Same H H') (R : Jo H L bs yss) : Jo H' L bs yss := ⟨s _ _ R.1, R.2.1, fun i b hb => s _ _ (R.2.2 i b hb)⟩
theorem Jo.tk {H H' : Hp} {p L : Addr} {b : Nat} {bs : List Addr} {yss : List (List Int)} (T : Yb H p b) (d : Tk p H H') (R : Jo H L bs yss) : Jo H' L bs yss := ⟨d.lst T R.1, R.2.1, fun i b hb => d.tup T (R.2.2 i b hb)⟩
theorem Jo.push {H : Hp} {L : Addr} {bs : List Addr} {yss : List (List Int)} {b : Addr} {ys : List Int} (R : Jo H L bs yss) (h : H b = some (.tup (ys.map V.int))) : Jo (upd H L (.lst (bs.map V.ref ++ [.ref b]))) L (bs ++ [b]) (yss ++ [ys]) := by
 refine ⟨by rw [Zm, List.map_append]; rfl, by rw [Zd, Zd, R.2.1]; rfl, fun i c hc => ?_⟩
 have nb : c ≠ L → upd H L (.lst (bs.map V.ref ++ [.ref b])) c = H c := fun z => Zt z
 by_cases hi : i < bs.length
 ·rw [List.getElem?_append_left hi] at hc
  have := R.2.2 i c hc
  rw [nb (fun z => by rw [z, R.1] at this; cases this), Zb, List.getElem?_append_left (by rw [← R.2.1]; exact hi), ← Zb]
  exact this
 ·rw [List.getElem?_append_right (by omega)] at hc
  have e0 : i - bs.length = 0 := by
   apply Classical.byContradiction
   intro z
   rw [List.getElem?_eq_none (by rw [Zk]; omega)] at hc
   cases hc
  rw [e0] at hc
  cases hc
  have : i = yss.length := by rw [← R.2.1]; omega
  rw [nb (fun z => by rw [z, R.1] at h; cases h), this, Zb, List.getElem?_append_right (Nat.le_refl _), Nat.sub_self]
  exact h
def YV (H : Hp) (r : Addr) (xss : List (List Int)) : Prop := ∃ rs : List Addr, H r = some (.tup (rs.map V.ref)) ∧ rs.length = xss.length ∧ ∀ (i : Nat) b, rs[i]? = some b → H b = some (.tup ((xss.getD i []).map V.int))
theorem YV.mono {H H' : Hp} {r : Addr} {xss : List (List Int)} (s : Same H H') (h : YV H r xss) : YV H' r xss := by
 obtain ⟨rs, h1, h2, h3⟩ := h
 exact ⟨rs, s _ _ h1, h2, fun i b hb => s _ _ (h3 i b hb)⟩
theorem YV.tk {H H' : Hp} {p r : Addr} {b : Nat} {xss : List (List Int)} (T : Yb H p b) (d : Tk p H H') (h : YV H r xss) : YV H' r xss := by
 obtain ⟨rs, h1, h2, h3⟩ := h
 exact ⟨rs, d.tup T h1, h2, fun i b hb => d.tup T (h3 i b hb)⟩
def V4 (n : Nat) (xss : List (List Int)) : Prop := ∀ xs ∈ xss, xs.length = N24.Z2 n ∧ N24.Jp xs
def ZaE : Sp := fun vs H Q _ => ∃ (p : Addr) (b m n : Nat), vs = [.ref p, .int m, .int n] ∧ Yb H p b ∧ b + 5000 < 2 ^ 60 ∧ m ≤ 60 ∧ 1 ≤ n ∧ n ≤ 60 ∧ ∀ r xss H', Tk p H H' → Yb H' p (b + 4000) → YV H' r xss → xss.length = m → V4 n xss → Q (.ref r) H'
def men : List Int := [0, 0, 1, -1, 2, -3, 7, 10 ^ (19 : Int).toNat]
theorem ZdY : ∀ x ∈ men, -(2 ^ 64) < x ∧ x < 2 ^ 64 := by decide +kernel
section
variable {P : Program} {w : World} {K : PySem.W.Frag} {mg : Str → Option Value} {base : Heap}
theorem ZdP {f : Addr} {fd : FuncData} (F : YL K "_law_spread" "_law_spread" ZcN f fd) (T : Bl mg) (GP : Fn P w K mg base ZL 1 "_law_pick" ["_law_tape_here", "_law_many"] Xl) (GL : Fn P w K mg base ZL 2 "_law_places" ["_law_n"] N24.XT) : ZH P w K mg base ZL 3 f fd ["_law_tape_here", "_law_many", "_law_n"] ZaE := by
 refine F.ok (FS (N := ["_law_tape_here", "_law_many", "_law_n", "_law_found", "_law_k", "_law_row"])) (fun vs H Q E h => ?_) (fun cdv A outer s H vs Q E hr h => ?_)
 ·obtain ⟨p, b, m, n, rfl, _⟩ := h; rfl
 ·obtain ⟨p, b, m, n, rfl, T0, hb, m60, n1, n60, q⟩ := h
  refine ⟨_, Zn (Zy 3 rfl (ZD Zl))
   (Zn (ZI PassesOwn.never rfl (WI T.range (pc (vn 1) Zl)) (gn 4)
    (Zn (Zi6 5 ["_law_j"] [0] ["_law_j", "_law_tape_here"] rfl rfl (WI T.range (pc (Yc GL hr Zu (pc (vn 2) Zl)) Zl)) (fun _ _ _ _ _ => gn 0) (fun _ _ _ _ _ => ZK)
     (fun _ _ _ _ _ => ZN (ixL K) (ZD (pc Zp (pc Zp (pc Zp (pc (W9 Wq Zp) (pc Zp (pc (W9 Wq Zp) (pc Zp (pc (Zq Zfu Zp Zp) Zl))))))))) (Yc GP hr Zu (pc (vn 1) (pc Zp Zl))) (fun _ _ => rfl)))
    (Zn (Z4 (Zx XD (Yc GP hr Zu (pc (vn 0) (pc Zp Zl))) Zp (ZB _))
     (Zo (Zy 5 rfl (Zq Xp (ZW JW (vn 5) Yp (Yo Zp)) (Zq Wc (ZD (pc Zp Zl)) (Zq Yl (cb (Z7 K) T.len (pc (vn 5) Zl)) Zp))))) ZC)
    (Zo (YC (WZ PySem.F.plainAttrs_list PySem.F.slot_list_append PySem.F.type_list_append ZV (vn 3) (pc (ct Zw T.tuple (pc (vn 5) Zl)) Zl)))))))
   (Zo (Zs (ct Zw T.tuple (pc (vn 3) Zl))))), ?_⟩
  have sz : (16777216 : Nat) = sizeLine := by decide
  obtain ⟨_, ht⟩ := N24.Vy n1 n60
  obtain ⟨_, _, hphi, p1, p60⟩ := N24.Vp n1 n60
  have tpL : N24.Vv (n : Int) = (N24.Z2 n : Nat) := by rw [ht, hphi]
  have t1 : 1 ≤ N24.Z2 n := by omega
  have t60 : N24.Z2 n ≤ 60 := by omega
  unfold V4 at q
  generalize N24.Z2 n = tp at *
  refine ⟨(by show 0 ≤ sizeLine; decide), fun L nL => ?_⟩
  have s1 := Same.upd (H := H) (o := .lst []) nL
  have nLp : L ≠ p := T0.neN nL
  refine ⟨_, rfl, _, rfl, by omega, by omega, ?_⟩
  rw [Zj]
  refine ZR (fun i σ' H' => ∃ (v4 v5 : Option V) (bs : List Addr) (xss : List (List Int)), σ' = [some (.ref p), some (.int (m : Nat)), some (.int (n : Nat)), some (.ref L), v4, v5] ∧ Tk p H H' ∧ Yb H' p (b + 62 * i) ∧ Jo H' L bs xss ∧ xss.length = i ∧ ∀ xs ∈ xss, xs.length = tp ∧ N24.Jp xs)
   ⟨_, _, [], [], rfl, Tk.of s1, T0.mono s1, ⟨Zm, rfl, fun i b hb => by cases hb⟩, rfl, fun xs hx => by cases hx⟩ ?_ ?_
  ·rintro i σ' H2 hi ⟨v4, v5, bs, xss, rfl, k2, T2, R2, xl, hx⟩
   refine ⟨_, rfl, n, rfl, n1, n60, fun H3 s3 => ?_⟩
   have T3 := T2.mono s3
   have k3 := k2.same s3
   have R3 := R2.mono s3
   rw [tpL]
   refine ⟨_, rfl, by omega, by omega, ?_⟩
   rw [Zj]
   have rl : ((Ya 0 tp).map V.int).length = tp := by rw [Za, Yf]
   refine Xe (xs := (Ya 0 tp).map V.int) (fun D j ys H' => Tk p H3 H' ∧ Yb H' p (b + 62 * i + j) ∧ ∃ ns : List Int, ys = ns.map V.int ∧ ns.length = j ∧ N24.Jp ns) [some (.ref p)] rfl (by rw [rl]; omega) ?_ ?_ ?_ ?_
   ·intro D j ys H' hD hD' _
    have S := Wh (H := H') 0 tp
    exact ⟨fun hj => ⟨S.go j H' (Same.refl _) hj, fun x H3' y => S.yld j H' x H3' (Same.refl _) hj y⟩, fun e => e ▸ S.stop H' (Same.refl _)⟩
   ·intro D hD
    exact ⟨Tk.of (Same.upd hD), (T3.mono (Same.upd hD)), [], rfl, rfl, fun x hx => by cases hx⟩
   ·rintro D j y ys H' hD hD' hy ⟨kD, TD, ns, rfl, nl, sm⟩ R k
    have hj : j < tp := by
     have := (List.getElem?_eq_some_iff.mp hy).1
     rw [rl] at this
     exact this
    refine ⟨_, rfl, _, rfl, _, _, rfl, rfl, ⟨by decide, by decide, by decide⟩, (by show 8 ≤ sizeLine; decide), fun l1 nl1 => ?_⟩
    have s4 := Same.upd (H := H') (o := .lst (men.map V.int)) nl1
    have h4 : upd H' l1 (.lst (men.map V.int)) l1 = some (.lst (men.map V.int)) := Zm
    have T4 := TD.mono s4
    have hD4 := s4 _ _ hD'
    have k4 := kD.same s4
    refine ⟨_, rfl, p, 8, b + 62 * i + j, rfl, T4, by omega, by decide, by decide, fun r5 H5 c0 c1 k5 T5 => ?_⟩
    have h5 := k5.lst T4 h4
    have hD5 := k5.lst T4 hD4
    obtain ⟨e, rfl⟩ := Int.eq_ofNat_of_zero_le c0
    have he : e < men.length := by show e < 8; omega
    have at5 : VU (men.map V.int) (e : Int) = some (.int men[e]) := YG (by rw [Zc, Zf he]; rfl)
    refine ⟨l1, _, _, _, rfl, rfl, .of h5, at5, ?_⟩
    have nDp : D ≠ p := TD.ne hD' fun _ z => by cases z
    refine k _ H5 hD5 ⟨(k4.trans k5).updN hD, (T5.updN nDp).le (by omega), ns ++ [men[e]], by rw [List.map_append]; rfl, by rw [Zd, nl]; rfl, fun x hx => ?_⟩
    rcases List.mem_append.mp hx with z | z
    ·exact sm x z
    ·rw [List.mem_singleton.mp z]
     exact ZdY _ (List.getElem_mem he)
   ·rintro D ys H4 hD hD' hyl ⟨k4, T4, ns, rfl, nl, sm⟩
    rw [rl] at nl T4
    have R4 := R3.tk T3 k4
    refine ⟨_, rfl, p, 3, b + 62 * i + tp, rfl, T4, by omega, by decide, by decide, fun r5 H5 c0 c1 k5 T5 => ⟨rfl, _, rfl, ?_⟩⟩
    have R5 := R4.tk T4 k5
    have hD5 := k5.lst T4 hD'
    have k35 := (k3.trans k4).trans k5
    have fin : ∀ (D9 : Addr) (ns9 : List Int) (H9 : Hp), Same H5 H9 → H9 D9 = some (.lst (ns9.map V.int)) → ns9.length = tp → N24.Jp ns9 → ∀ (Gl : Prop), ((∀ r, H9 r = none → ∃ (v4 v5 : Option V) (bs' : List Addr) (xss' : List (List Int)), [some (.ref p), some (.int (m : Nat)), some (.int (n : Nat)), some (.ref L), some (.int (0 + (i : Int))), some (.ref D9)] = [some (.ref p), some (.int (m : Nat)), some (.int (n : Nat)), some (.ref L), v4, v5] ∧ Tk p H (upd (upd H9 r (.tup (ns9.map V.int))) L (.lst (bs.map V.ref ++ [.ref r]))) ∧ Yb (upd (upd H9 r (.tup (ns9.map V.int))) L (.lst (bs.map V.ref ++ [.ref r]))) p (b + 62 * (i + 1)) ∧ Jo (upd (upd H9 r (.tup (ns9.map V.int))) L (.lst (bs.map V.ref ++ [.ref r]))) L bs' xss' ∧ xss'.length = i + 1 ∧ ∀ xs ∈ xss', xs.length = tp ∧ N24.Jp xs) → Gl) → Gl := fun D9 ns9 H9 s9 h9 l9 sm9 Gl g => by
     refine g fun r nr => ?_
     have s10 := Same.upd (H := H9) (o := .tup (ns9.map V.int)) nr
     have R10 := R5.mono (s9.trans s10)
     refine ⟨_, _, bs ++ [r], xss ++ [ns9], rfl, (k35.same (s9.trans s10)).updN nL, ((T5.mono (s9.trans s10)).updN nLp).le (by omega), R10.push Zm, by rw [Zd, xl]; rfl, fun xs hxs => ?_⟩
     rcases List.mem_append.mp hxs with z | z
     ·exact hx xs z
     ·rw [List.mem_singleton.mp z]
      exact ⟨l9, sm9⟩
    have bl := R5.2.1
    refine YS (fun _ => ?_) (fun _ => ?_)
    ·refine ⟨_, rfl, _, rfl, D, _, rfl, .of hD5, fun l1 nl1 => ?_⟩
     have ml : (ns.map V.int).length = tp := by rw [Za, nl]
     rw [Zgu (by omega), ← List.map_take]
     have s6 := Same.upd (H := H5) (o := .lst ((ns.take 1).map V.int)) nl1
     refine ⟨(by show 1 ≤ sizeLine; decide), fun l2 nl2 => ?_⟩
     have s7 := Same.upd (o := .lst [.int 0]) nl2
     refine ⟨_, rfl, D, _, rfl, .inl (.of ((s6.trans s7) _ _ hD5)), ?_⟩
     rw [ml]
     refine ⟨_, _, rfl, rfl, l2, _, _, rfl, rfl, Zm, by omega, by omega, by show 1 * ((tp : Int) - 1).toNat ≤ sizeLine; omega, fun l3 nl3 => ?_⟩
     rw [show ((tp : Int) - 1).toNat = tp - 1 by omega, N24.Wu]
     have s8 := Same.upd (o := .lst ((List.replicate (tp - 1) (0 : Int)).map V.int)) nl3
     refine ⟨l1, l3, _, _, rfl, rfl, s8 _ _ (s7 _ _ Zm), Zm, by rw [Za, Za, List.length_take, Ze]; omega, fun l4 nl4 => ?_⟩
     rw [← List.map_append]
     have s9 := Same.upd (o := .lst ((ns.take 1 ++ List.replicate (tp - 1) (0 : Int)).map V.int)) nl4
     refine fin l4 (ns.take 1 ++ List.replicate (tp - 1) 0) _ (((s6.trans s7).trans s8).trans s9) Zm (by rw [Zd, List.length_take, Ze]; omega) (fun x hx' => ?_) _ fun g => ?_
     ·rcases List.mem_append.mp hx' with z | z
      ·exact sm x (List.mem_of_mem_take z)
      ·rw [(List.mem_replicate.mp z).2]
       decide
     ·have RL := R5.mono (((s6.trans s7).trans s8).trans s9)
      refine ⟨_, rfl, .inl ⟨rfl, _, .of RL.1⟩, _, rfl, l4, _, rfl, .inl ⟨.of Zm, fun r nr => ⟨L, _, _, rfl, rfl, Same.upd nr _ _ RL.1, by rw [Za]; omega, g r nr⟩⟩⟩
    ·refine fin D ns H5 (Same.refl _) hD5 nl sm _ fun g => ?_
     exact ⟨_, rfl, .inl ⟨rfl, _, .of R5.1⟩, _, rfl, D, _, rfl, .inl ⟨.of hD5, fun r nr => ⟨L, _, _, rfl, rfl, Same.upd nr _ _ R5.1, by rw [Za]; omega, g r nr⟩⟩⟩
  ·rintro σ' H2 ⟨v4, v5, bs, xss, rfl, k2, T2, R2, xl, hx⟩
   refine ⟨_, rfl, L, _, rfl, .inl ⟨.of R2.1, fun r nr => ?_⟩⟩
   have s3 := Same.upd (H := H2) (o := .tup (bs.map V.ref)) nr
   exact q r xss _ (k2.same s3) ((T2.mono s3).le (by omega)) ⟨bs, Zm, R2.2.1, fun i b hb => s3 _ _ (R2.2.2 i b hb)⟩ xl hx
end
theorem UA {K : PySem.W.Frag} {J : It} {At : Hp → Prop} {own : List Str} {caps : List Nat} {te : TE} {σ : L2.St} {H Hx : Hp} {Q : VK} {ps : List (V × V)} (S : Zeu J At ps) (hAt : ∀ H', Same Hx H' → At H') (sx : Same Hx H) (cs : L2.St) (hcs : JO own caps σ = none :: none :: cs) (F : Nat → List Int) (hz : ps.length ≤ 1000)
  (hs : ∀ (i : Nat) x y H', ps[i]? = some (x, y) → Same H H' → ∀ R : VK, (∀ r H5, Same H' H5 → H5 r = some (.tup ((F i).map V.int)) → R (.ref r) H5) → te (some x :: some y :: cs) H' R)
  (hd : ∀ D (rs : List Addr) H', H D = none → Same H H' → H' D = some (.lst (rs.map V.ref)) → rs.length = ps.length → (∀ (i : Nat) r, rs[i]? = some r → H' r = some (.tup ((F i).map V.int))) → Q (.ref D) H') : W0 own caps (Zgg K 2 (Xb (Yh 0) (Xb (Yh 1) Zgh))) tTrue te σ Q J H := by
 have sz : (16777216 : Nat) = sizeLine := by decide
 intro D hD
 refine ⟨fun i m σ' H' => m = ps.length - i ∧ i ≤ ps.length ∧ (∃ v0 v1, σ' = v0 :: v1 :: cs) ∧ Same H H' ∧ ∃ rs : List Addr, H' D = some (.lst (rs.map V.ref)) ∧ rs.length = i ∧ ∀ (i : Nat) r, rs[i]? = some r → H' r = some (.tup ((F i).map V.int)), ⟨_, rfl, Nat.zero_le _, ⟨none, none, hcs⟩, Same.upd hD, [], Zm, rfl, fun i r hr => by cases hr⟩, ?_⟩
 rintro i m σ' H' ⟨rfl, hi, ⟨v0, v1, rfl⟩, s, rs, hl, rl, hr⟩
 have at' := hAt H' (sx.trans s)
 by_cases hlt : i < ps.length
 ·refine .inr ⟨S.go i H' at' hlt, fun σ2 H2 => (∃ v0 v1, σ2 = v0 :: v1 :: cs) ∧ Same H H2 ∧ ∃ rs : List Addr, H2 D = some (.lst (rs.map V.ref)) ∧ rs.length = i + 1 ∧ ∀ (i : Nat) r, rs[i]? = some r → H2 r = some (.tup ((F i).map V.int)), fun σ2 H2 z => ⟨ps.length - (i + 1), by omega, rfl, hlt, z.1, z.2.1, z.2.2⟩, fun x H2 hy => ?_⟩
  obtain ⟨T, y, z, rfl, hT, rfl, hx⟩ := S.yld i H' x H2 at' hy
  refine ⟨T, _, rfl, .of Zm, rfl, _, _, rfl, _, _, rfl, rfl, ?_⟩
  refine tT (A := fun H4 => te (some y :: some z :: cs) H4 fun v H5 => ∃ xs, H5 D = some (.lst xs) ∧ xs.length < sizeLine ∧ (∃ v0 v1, (some y :: some z :: cs : L2.St) = v0 :: v1 :: cs) ∧ Same H (upd H5 D (.lst (xs ++ [v]))) ∧ ∃ rs : List Addr, (upd H5 D (.lst (xs ++ [v]))) D = some (.lst (rs.map V.ref)) ∧ rs.length = i + 1 ∧ ∀ (i : Nat) r, rs[i]? = some r → (upd H5 D (.lst (xs ++ [v]))) r = some (.tup ((F i).map V.int))) ?_
  refine hs i y z _ hx (s.trans (Same.upd hT)) _ fun r H5 s5 h5 => ?_
  have s4 := (Same.upd (H := H') (o := .tup [y, z]) hT).trans s5
  have hD5 := s4 _ _ hl
  refine ⟨_, hD5, by rw [Za]; omega, ⟨_, _, rfl⟩, (s.trans s4).updr hD, rs ++ [r], by rw [Zm, List.map_append]; rfl, by rw [Zd, rl]; rfl, fun j c hc => ?_⟩
  have nt : ∀ {c : Addr} {ws : List V}, H5 c = some (.tup ws) → upd H5 D (.lst (rs.map V.ref ++ [.ref r])) c = some (.tup ws) := fun {c ws} h => by
   rw [Zt (fun z => by rw [z, hD5] at h; cases h)]
   exact h
  by_cases hj : j < rs.length
  ·rw [List.getElem?_append_left hj] at hc
   exact nt (s4 _ _ (hr j c hc))
  ·rw [List.getElem?_append_right (by omega)] at hc
   have e0 : j - rs.length = 0 := by
    apply Classical.byContradiction
    intro z
    rw [List.getElem?_eq_none (by rw [Zk]; omega)] at hc
    cases hc
   rw [e0] at hc
   cases hc
   have : j = i := by omega
   subst this
   exact nt h5
 ·have e : i = ps.length := by omega
  subst e
  exact .inl ⟨S.stop _ H' at' (Nat.le_refl _), hd D rs H' hD s hl rl hr⟩
abbrev Ze6 : Stmt := top 29
abbrev ZcP : Stmt := top 30
abbrev Ze7 : Stmt := top 31
theorem J5 {rs rs' : List Addr} {i : Nat} {x y : V} (h : ((rs.map V.ref).zip (rs'.map V.ref))[i]? = some (x, y)) : ∃ a b, rs[i]? = some a ∧ rs'[i]? = some b ∧ x = .ref a ∧ y = .ref b := by
 rw [List.getElem?_zip_eq_some, Zc, Zc] at h
 obtain ⟨h1, h2⟩ := h
 cases e1 : rs[i]? with
 | none => rw [e1] at h1; cases h1
 | some a =>
  cases e2 : rs'[i]? with
  | none => rw [e2] at h2; cases h2
  | some b =>
   rw [e1] at h1
   rw [e2] at h2
   cases h1
   cases h2
   exact ⟨a, b, rfl, rfl, rfl, rfl⟩
def VZ (m : Nat) (F : Nat → List Int) : List (List Int) := (List.range m).map F
theorem WK (m : Nat) (F : Nat → List Int) : (VZ m F).length = m := by unfold VZ; rw [Za, Zg]
theorem WL {m i : Nat} {F : Nat → List Int} (h : i < m) : (VZ m F).getD i [] = F i := by
 unfold VZ
 rw [Zb, Zc, List.getElem?_range h]
 rfl
theorem JU {H H' : Hp} {D r : Addr} {rs : List Addr} {m : Nat} {F : Nat → List Int} (s : Same H H') (h' : H' r = some (.tup (rs.map V.ref))) (rl : rs.length = m) (hr : ∀ (i : Nat) r, rs[i]? = some r → H r = some (.tup ((F i).map V.int))) : YV H' r (VZ m F) := by
 refine ⟨rs, h', by rw [WK]; exact rl, fun i b hb => ?_⟩
 have hi : i < m := by rw [← rl]; exact (List.getElem?_eq_some_iff.mp hb).1
 rw [WL hi]
 exact s _ _ (hr i b hb)
def ZcA : Sp := fun vs H Q _ => ∃ (a b : Addr) (xss yss : List (List Int)), vs = [.ref a, .ref b] ∧ YV H a xss ∧ YV H b yss ∧ xss.length = yss.length ∧ xss.length ≤ 60 ∧ (∀ xs ∈ xss, xs.length ≤ 60) ∧ ∀ r H', Same H H' → YV H' r (VZ xss.length fun i => List.zipWith (· + ·) (xss.getD i []) (yss.getD i [])) → Q (.ref r) H'
def ZaF : Sp := fun vs H Q _ => ∃ (n : Nat) (a b : Addr) (xss yss : List (List Int)), vs = [.int n, .ref a, .ref b] ∧ 1 ≤ n ∧ n ≤ 60 ∧ YV H a xss ∧ YV H b yss ∧ xss.length = yss.length ∧ xss.length ≤ 60 ∧ (∀ xs ∈ xss, 1 ≤ xs.length ∧ xs.length ≤ 60 ∧ N24.ZgE xs) ∧ (∀ ys ∈ yss, 1 ≤ ys.length ∧ ys.length ≤ 60 ∧ N24.ZgE ys) ∧
 ∀ r H', Same H H' → YV H' r (VZ xss.length fun i => Num.Y1 n (N24.Z2 n) (N24.RN n) (Num.ZdW (xss.getD i []) (yss.getD i []))) → Q (.ref r) H'
def ZcB : Sp := fun vs H Q _ => ∃ (n : Nat) (a : Addr) (xss : List (List Int)), vs = [.int n, .ref a] ∧ 1 ≤ n ∧ n ≤ 60 ∧ YV H a xss ∧ xss.length ≤ 60 ∧ (∀ xs ∈ xss, xs.length ≤ 60) ∧
 ∀ r H', Same H H' → YV H' r (VZ xss.length fun i => Num.Y1 n (N24.Z2 n) (N24.RN n) (Num.UM n (-1) (xss.getD i []))) → Q (.ref r) H'
theorem XN {yss : List (List Int)} {i : Nat} (h : i < yss.length) : yss.getD i [] ∈ yss := by
 rw [Zb, Zf h]
 exact List.getElem_mem h
section
variable {P : Program} {w : World} {K : PySem.W.Frag} {mg : Str → Option Value} {base : Heap}
theorem ZfB {f : Addr} {fd : FuncData} (F : YL K "spread_plus" "spread_plus" Ze6 f fd) (T : Bl mg) (T3 : N24.Bl3 mg) (GP : Fn P w K mg base ZL 1 "plus" ["one", "other"] (N24.Zif K (· + ·))) : ZH P w K mg base ZL 2 f fd ["one", "other"] ZcA := by
 refine F.ok (FS (N := ["one", "other"])) (fun vs H Q E h => ?_) (fun cdv A outer s H vs Q E hr h => ?_)
 ·obtain ⟨a, b, xss, yss, rfl, _⟩ := h; rfl
 ·obtain ⟨a, b, xss, yss, rfl, ⟨rs, a1, a2, a3⟩, ⟨rs', b1, b2, b3⟩, hl, h60, hx, q⟩ := h
  refine ⟨_, Zo (Zs (ct Zw T.tuple (pc (Xw ["x", "y"] [] ["x", "y"] rfl (Zdy K T3.zip (pc (vn 0) (pc (vn 1) Zl))) (fun _ _ _ _ _ => g2 K 0 1 rfl (gn 0) (gn 1)) (fun _ _ _ _ _ => ZK)
   (fun _ _ _ _ _ => Yc GP hr Zu (pc (vn 0) (pc (vn 1) Zl)))) Zl))), ?_⟩
  have pl : ((rs.map V.ref).zip (rs'.map V.ref)).length = xss.length := by rw [List.length_zip, Za, Za, a2, b2]; omega
  refine ⟨_, rfl, _, rfl, a, b, true, true, _, _, H, rfl, .tup (.of a1), .tup (.of b1), Same.refl _, fun J At S hAt => ?_⟩
  refine UA S hAt (Same.refl _) [] rfl (fun i => List.zipWith (· + ·) (xss.getD i []) (yss.getD i [])) (by omega) (fun i x y H' hxy s' R g => ?_) (fun D rs2 H' nD s' hD rl hr2 => ?_)
  ·obtain ⟨c, d, e1, e2, rfl, rfl⟩ := J5 hxy
   have hi : i < xss.length := by rw [← a2]; exact (List.getElem?_eq_some_iff.mp e1).1
   exact ⟨_, rfl, _, rfl, c, d, _, _, rfl, .of (s' _ _ (a3 i c e1)), .of (s' _ _ (b3 i d e2)), Nat.le_trans (hx _ (XN hi)) (by decide), fun r H5 s5 h5 => g r H5 s5 h5⟩
  ·refine ⟨D, _, rfl, .inl ⟨.of hD, fun r nr => ?_⟩⟩
   exact q r _ (s'.trans (Same.upd nr)) (JU (D := D) (Same.upd nr) Zm (by rw [rl, pl]) hr2)
theorem ZdR {f : Addr} {fd : FuncData} (F : YL K "spread_times" "spread_times" ZcP f fd) (T : Bl mg) (T3 : N24.Bl3 mg) (GT' : Fn P w K mg base ZL 4 "times" ["n", "one", "other"] (N24.Zcx K)) : ZH P w K mg base ZL 5 f fd ["n", "one", "other"] ZaF := by
 refine F.ok (FS (N := ["n", "one", "other"])) (fun vs H Q E h => ?_) (fun cdv A outer s H vs Q E hr h => ?_)
 ·obtain ⟨n, a, b, xss, yss, rfl, _⟩ := h; rfl
 ·obtain ⟨n, a, b, xss, yss, rfl, n1, n60, ⟨rs, a1, a2, a3⟩, ⟨rs', b1, b2, b3⟩, hl, h60, hx, hy, q⟩ := h
  refine ⟨_, Zo (Zs (ct Zw T.tuple (pc (Xw ["x", "y"] [0] ["x", "y", "n"] rfl (Zdy K T3.zip (pc (vn 1) (pc (vn 2) Zl))) (fun _ _ _ _ _ => g2 K 0 1 rfl (gn 0) (gn 1)) (fun _ _ _ _ _ => ZK)
   (fun _ _ _ _ _ => Yc GT' hr Zu (pc (vn 2) (pc (vn 0) (pc (vn 1) Zl))))) Zl))), ?_⟩
  have pl : ((rs.map V.ref).zip (rs'.map V.ref)).length = xss.length := by rw [List.length_zip, Za, Za, a2, b2]; omega
  refine ⟨_, rfl, _, rfl, a, b, true, true, _, _, H, rfl, .tup (.of a1), .tup (.of b1), Same.refl _, fun J At S hAt => ?_⟩
  refine UA S hAt (Same.refl _) [some (.int (n : Nat))] rfl (fun i => Num.Y1 n (N24.Z2 n) (N24.RN n) (Num.ZdW (xss.getD i []) (yss.getD i []))) (by omega) (fun i x y H' hxy s' R g => ?_) (fun D rs2 H' nD s' hD rl hr2 => ?_)
  ·obtain ⟨c, d, e1, e2, rfl, rfl⟩ := J5 hxy
   have hi : i < xss.length := by rw [← a2]; exact (List.getElem?_eq_some_iff.mp e1).1
   obtain ⟨x1, x2, x3⟩ := hx _ (XN hi)
   obtain ⟨y1, y2, y3⟩ := hy _ (XN (yss := yss) (i := i) (by omega))
   exact ⟨_, rfl, _, rfl, _, rfl, n, c, d, _, _, rfl, n1, n60, .of (s' _ _ (a3 i c e1)), .of (s' _ _ (b3 i d e2)), x1, x2, y1, y2, .inr ⟨x3, y3⟩, fun r H5 s5 h5 => g r H5 s5 h5⟩
  ·refine ⟨D, _, rfl, .inl ⟨.of hD, fun r nr => ?_⟩⟩
   exact q r _ (s'.trans (Same.upd nr)) (JU (D := D) (Same.upd nr) Zm (by rw [rl, pl]) hr2)
theorem ZfC {f : Addr} {fd : FuncData} (F : YL K "spread_flipped" "spread_flipped" Ze7 f fd) (T : Bl mg) (GF : Fn P w K mg base ZL 5 "flipped" ["n", "one"] (N24.ZeT K)) : ZH P w K mg base ZL 6 f fd ["n", "one"] ZcB := by
 refine F.ok (FS (N := ["n", "one"])) (fun vs H Q E h => ?_) (fun cdv A outer s H vs Q E hr h => ?_)
 ·obtain ⟨n, a, xss, rfl, _⟩ := h; rfl
 ·obtain ⟨n, a, xss, rfl, n1, n60, ⟨rs, a1, a2, a3⟩, h60, hx, q⟩ := h
  refine ⟨_, Zo (Zs (ct Zw T.tuple (pc (Xw ["x"] [0] ["x", "n"] rfl (itT K (vn 1)) (fun _ _ _ _ _ => gn 0) (fun _ _ _ _ _ => ZK)
   (fun _ _ _ _ _ => Yc GF hr Zu (pc (vn 1) (pc (vn 0) Zl)))) Zl))), ?_⟩
  have pl : (rs.map V.ref).length = xss.length := by rw [Za, a2]
  refine ⟨_, rfl, a, rfl, ⟨_, .of a1⟩, ?_⟩
  refine Xd (W := Addr) id (fun i r H => H r = some (.tup ((Num.Y1 n (N24.Z2 n) (N24.RN n) (Num.UM n (-1) (xss.getD i []))).map V.int))) (fun _ _ => True) (Yn (K := K) (.of a1)) [some (.int (n : Nat))] rfl (by omega) (fun i w H H' s h => s _ _ h) (fun w H H' s h => trivial) (fun i w H0 H1 D o ys ys' h h0 h1 h2 => ?_) (fun i y hy H' s' R k => ?_) (fun D ws H' nD s' hD wl hw hp => ?_)
  ·rw [Zt fun z => by rw [z, h2] at h; cases h]
   exact h
  ·rw [Zc] at hy
   cases e : rs[i]? with
   | none => rw [e] at hy; cases hy
   | some c =>
    rw [e] at hy
    cases hy
    have hi : i < xss.length := by rw [← a2]; exact (List.getElem?_eq_some_iff.mp e).1
    exact ⟨_, rfl, _, rfl, n, c, _, rfl, n1, n60, .of (s' _ _ (a3 i c e)), hx _ (XN hi), fun r H5 s5 h5 => k r H5 s5 h5 trivial⟩
  ·refine ⟨D, _, rfl, .inl ⟨.of hD, fun r nr => ?_⟩⟩
   exact q r _ (s'.trans (Same.upd nr)) (JU (D := D) (rs := ws) (Same.upd nr) Zm (by rw [wl, pl]) fun i r hr => (hw i r hr).1)
end
end C24
namespace N24
open Num
theorem ZiV {n i : Nat} (hi : i < n) : ti n (-1) i = (n - i) % n := by
 have h1 := ZeF (n := n) (by omega) (-1) i
 have h2 : ((i : Int) * -1) % (n : Int) = (((n - i) % n : Nat) : Int) := by
  rw [show (i : Int) * -1 = ((n - i : Nat) : Int) + (n : Int) * (-1) by omega, Int.add_mul_emod_self_left]
  push_cast
  rfl
 rw [h2] at h1
 omega
theorem ZeE {n : Nat} {ys : List Int} (n1 : 0 < n) : ∀ (r : List Int) (i : Nat) (acc : List Int), acc.length = n → ys.drop i = r → ys.length ≤ n → (∀ t, t < n → co acc t = if (n - t) % n < i then co ys ((n - t) % n) else 0) → ∀ t, t < n → co (VX n (-1) r i acc) t = co ys ((n - t) % n)
 | [], i, acc, _, hd, hl, h, t, ht => by
  rw [VX, h t ht]
  have : ys.length ≤ i := List.drop_eq_nil_iff.mp hd
  split
  ·rfl
  ·rw [YK (by omega)]
 | x :: r, i, acc, ha, hd, hl, h, t, ht => by
  have hi : i < ys.length := by
   apply Classical.byContradiction
   intro z
   rw [List.drop_eq_nil_iff.mpr (by omega)] at hd
   cases hd
  have hx : co ys i = x ∧ ys.drop (i + 1) = r := by
   have := Y5 hi
   rw [hd] at this
   injection this with e1 e2
   exact ⟨e1.symm, e2.symm⟩
  rw [VX]
  have hm : (n - i) % n < n := Nat.mod_lt _ n1
  rw [ZiV (by omega)]
  refine ZeE n1 r (i + 1) _ (by rw [List.length_set]; exact ha) hx.2 hl (fun t' ht' => ?_) t ht
  rw [Zdn (by omega)]
  by_cases e : t' = (n - i) % n
  ·have e2 := (XV (by omega) ht').mp e
   rw [if_pos e, ← e, h t' ht', e2, if_neg (by omega), if_pos (by omega), hx.1]
   omega
  ·have e2 : (n - t') % n ≠ i := fun z => e ((XV (by omega) ht').mpr z)
   rw [if_neg e, h t' ht']
   by_cases h' : (n - t') % n < i
   ·rw [if_pos h', if_pos (by omega)]
   ·rw [if_neg h', if_neg (by omega)]
theorem ZgJ {n : Nat} {ys : List Int} (n1 : 0 < n) (hl : ys.length ≤ n) : UM n (-1) ys = flR n ys := by
 refine Xv (by rw [Zaw]; unfold flR; rw [Za, Zg]) fun t ht => ?_
 rw [Zaw] at ht
 rw [Zgx ht]
 unfold UM
 refine ZeE n1 ys 0 _ (List.length_replicate ..) rfl hl (fun t ht => ?_) t ht
 rw [if_neg (Nat.not_lt_zero _)]
 unfold co
 rw [Zb, List.getElem?_replicate, if_pos ht]
 rfl
end N24
namespace L2
open PySem PySem.Spec PyProof.Rows
section
variable {X : Cx}
theorem ZdN : JP X (compareOp .IsNot) (fun x y H Q => ∃ a b, x = .bl a ∧ y = .bl b ∧ Q (.bl (!decide (a = b))) H) := by
 intro pins s σ H x y v u Q I rx ry h
 obtain ⟨a, b, rfl, rfl, q⟩ := h
 cases rx
 cases ry
 exact isnot_bool (ZJ I q (by cases a <;> cases b <;> rfl))
def Zmp : V → Option Int → Option Int → Hp → VK → Prop := fun x lo hi H Q => ∃ a xs, x = .ref a ∧ H a = some (.tup xs) ∧ ∀ p H', Same H H' → H' p = some (.tup (W1 xs lo hi)) → Q (.ref p) H'
theorem Wg : SlR X Zmp := by
 intro pins s σ H x v vl vu lo hi sl Q I rx hs pl pu h
 obtain ⟨a, xs, rfl, hx, q⟩ := h
 by_cases hw : HT.Yv xs.length 0 lo = 0 ∧ HT.Yv xs.length xs.length hi = xs.length
 ·refine ZeY (X := X) pins s σ H _ v vl vu lo hi sl Q I rx hs pl pu ⟨a, xs, rfl, .of hx, hw, q a H (Same.refl _) ?_⟩
  rw [hx]
  unfold W1
  rw [hw.1, hw.2, List.drop_zero, Nat.sub_zero, List.take_length]
 ·exact Zi5 (X := X) pins s σ H _ v vl vu lo hi sl Q I rx hs pl pu ⟨a, xs, rfl, .of hx, hw, fun p hp => q p _ (Same.upd hp) Zm⟩
theorem ZgS {k : Int} (h : k.natAbs < 2 ^ 200) : Sml 0 0 (.int k) := by
 obtain ⟨h1, _, _, h4, _, _⟩ := JX (ns := [k]) (fun n hn => by
  rw [List.mem_singleton.mp hn]
  exact h)
 simp only [List.map_cons, List.map_nil, PyData.showableAll, PyData.leavesShortAll, Bool.and_true] at h1 h4
 exact ⟨h1, rfl, Nat.zero_le _, h4, Nat.zero_le _⟩
end
end L2
namespace N24
open PySem L2 PySem.Spec PyProof.Rows
open Num
inductive Ths (K : PySem.W.Frag) (H : Hp) : List V → List (Option (List V)) → Prop where
 | nil : Ths K H [] []
 | cons {x : V} {o : Option (List V)} {xs : List V} {os : List (Option (List V))} (h : Th K H x o) (r : Ths K H xs os) : Ths K H (x :: xs) (o :: os)
theorem Ths.mono {K : PySem.W.Frag} {H H' : Hp} (s : Same H H') {xs : List V} {os : List (Option (List V))} (h : Ths K H xs os) : Ths K H' xs os := by
 induction h with
 | nil => exact .nil
 | cons h _ ih => exact .cons (h.mono s) ih
theorem Ths.len {K : PySem.W.Frag} {H : Hp} {xs : List V} {os : List (Option (List V))} (h : Ths K H xs os) : os.length = xs.length := by
 induction h with
 | nil => rfl
 | cons _ _ ih => rw [Zi, Zi, ih]
theorem Ths.get {K : PySem.W.Frag} {H : Hp} {xs : List V} {os : List (Option (List V))} (h : Ths K H xs os) : ∀ {i : Nat} {x : V}, xs[i]? = some x → Th K H x (os.getD i none) := by
 induction h with
 | nil => intro i x h; cases h
 | cons h _ ih =>
  intro i x hx
  cases i with
  | zero => cases hx; exact h
  | succ i => exact ih hx
theorem Ths.ex {K : PySem.W.Frag} {H : Hp} : ∀ {xs : List V}, (∀ x ∈ xs, ∃ o, Th K H x o) → ∃ os, Ths K H xs os
 | [], _ => ⟨[], .nil⟩
 | x :: xs, h => by
  obtain ⟨o, ho⟩ := h x List.mem_cons_self
  obtain ⟨os, hos⟩ := Ths.ex (xs := xs) fun y hy => h y (List.mem_cons_of_mem _ hy)
  exact ⟨_, .cons ho hos⟩
inductive Thg (K : PySem.W.Frag) (H : Hp) : V → Option (List (Option (List V))) → Prop where
 | tup {a : Addr} {xs : List V} {os : List (Option (List V))} (h : H a = some (.tup xs)) (hl : xs.length ≤ 200) (he : Ths K H xs os) : Thg K H (.ref a) (some os)
 | other {x : V} {n : String} (h : Kd K H x n) (hn : n ≠ "tuple") : Thg K H x none
theorem Thg.mono {K : PySem.W.Frag} {H H' : Hp} {x : V} {o : Option (List (Option (List V)))} (s : Same H H') (h : Thg K H x o) : Thg K H' x o := by
 cases h with
 | tup h hl he => exact .tup (s _ _ h) hl (he.mono s)
 | other h hn => exact .other (h.mono s) hn
theorem Thg.kd {K : PySem.W.Frag} {H : Hp} {x : V} {o : Option (List (Option (List V)))} (h : Thg K H x o) : ∃ n, Kd K H x n ∧ (JL n "tuple" = o.isSome) := by
 cases h with
 | tup h hl he => exact ⟨"tuple", ⟨.tup h, by decide⟩, rfl⟩
 | other h hn => exact ⟨_, h, by rw [Zbg h]; simp [hn]⟩
def spB (m n : Nat) (o : Option (List (Option (List V)))) : Bool := match o with
 | none => false
 | some os => decide (os.length = m) && os.all fun o => JH o (YX n)
theorem W7 (m n : Nat) (os : List (Option (List V))) : spB m n (some os) = (decide (os.length = m) && os.all fun o => JH o (YX n)) := rfl
theorem Xm {α : Type} (p : α → Bool) (d : α) (os : List α) : ((List.range os.length).map fun i => p (os.getD i d)).all id = os.all p := by
 rw [List.all_map]
 apply Bool.eq_iff_iff.mpr
 rw [List.all_eq_true, List.all_eq_true]
 constructor
 ·intro h x hx
  obtain ⟨i, hi, rfl⟩ := List.getElem_of_mem hx
  have := h i (List.mem_range.mpr hi)
  simpa [Zb, Zf hi] using this
 ·intro h i hi
  have hi := List.mem_range.mp hi
  have := h _ (List.getElem_mem hi)
  simpa [Zb, Zf hi] using this
abbrev ZkW : Stmt := top 27
abbrev Zit : Stmt := top 54
def Zim (K : PySem.W.Frag) : Sp := fun vs H Q _ => ∃ (n m : Nat) (x : V) (o : Option (List (Option (List V)))), vs = [.int n, .int m, x] ∧ 1 ≤ n ∧ n ≤ 60 ∧ Thg K H x o ∧ ∀ H', Same H H' → Q (.bl (spB m n o)) H'
def ZeQ (K : PySem.W.Frag) : Sp := fun vs H Q _ => ∃ (m n : Nat) (x : V) (o : Option (List (Option (List V)))), vs = [.int m, .int n, x] ∧ 1 ≤ n ∧ n ≤ 60 ∧ Thg K H x o ∧ ∀ H', Same H H' → Q (.bl (spB m n o)) H'
section
variable {P : Program} {w : World} {K : PySem.W.Frag} {mg : Str → Option Value} {base : Heap}
theorem Zjx {f : Addr} {fd : FuncData} (F : YL K "are_numbers" "are_numbers" ZkW f fd) (T : Bl mg) (GN : Fn P w K mg base ZL 3 "is_number" ["n", "thing"] (Zij K)) : ZH P w K mg base ZL 4 f fd ["n", "length", "thing"] (Zim K) := by
 refine F.ok (FS (N := ["n", "length", "thing"])) (fun vs H Q E h => ?_) (fun cdv A outer s H vs Q E hr h => ?_)
 ·obtain ⟨n, m, x, o, rfl, _⟩ := h; rfl
 ·obtain ⟨n, m, x, o, rfl, n1, n60, hx, q⟩ := h
  refine ⟨_, Zo (Zs (Vo (cb (Vx K "tuple") T.isi (pc (vn 2) (pc (tyv "tuple" T.tuple) Zl))) (Vo (J4 XD (cb (Z7 K) T.len (pc (vn 2) Zl)) (vn 1) (ZB _))
   (Zb2 (cb (ZbD rfl) T.all (pc (Xw ["x"] [0] ["x", "n"] rfl (itT K (vn 2)) (fun _ _ _ _ _ => gn 0) (fun _ _ _ _ _ => ZK) (fun _ _ _ _ _ => Yc GN hr Zu (pc (vn 1) (pc (vn 0) Zl)))) Zl)))))), ?_⟩
  obtain ⟨t, hk, ht⟩ := hx.kd
  refine ⟨_, rfl, x, t, rfl, hk, _, rfl, ?_⟩
  rw [ht]
  cases hx with
  | other h hn => exact YR (by simp) (q H (Same.refl H))
  | @tup a xs os ha hl he =>
   refine V0 rfl ?_
   refine ⟨_, rfl, a, xs, rfl, .inr (.of ha), _, rfl, rfl, _, rfl, ?_⟩
   have el := he.len
   refine YS (fun h1 => ?_) (fun h1 => ?_)
   ·have h1 : (xs.length : Int) = (m : Int) := V.int.inj (of_decide_eq_true h1)
    refine ⟨_, rfl, a, rfl, ⟨xs, .of ha⟩, ?_⟩
    refine Pm.Zbx (Yn (YW.of ha)) [some (.int (n : Nat))] rfl (fun i => .bl (JH (os.getD i none) (YX n))) (by omega) ?_ ?_
    ·intro i y hy H' s' R g1
     exact ⟨_, rfl, _, rfl, n, y, _, rfl, n1, n60, (he.get hy).mono s', fun H5 s5 => g1 H5 s5⟩
    ·intro D H' hD s' hD'
     refine ⟨D, (List.range os.length).map fun i => JH (os.getD i none) (YX n), rfl, .of (by rw [hD', List.map_map, el]; rfl), ?_⟩
     rw [Xm (fun o => JH o (YX n))]
     have := q H' s'
     rw [W7, decide_eq_true (show os.length = m by omega), Bool.true_and] at this
     exact this
   ·have h1 : ¬ (xs.length : Int) = (m : Int) := fun z => h1 (decide_eq_true (congrArg V.int z))
    have := q H (Same.refl _)
    rw [W7, decide_eq_false (show ¬ os.length = m by omega), Bool.false_and] at this
    exact this
theorem Zhu {f : Addr} {fd : FuncData} (F : YL K "_law_is_spread" "_law_is_spread" Zit f fd) (T : Bl mg) (GL : Fn P w K mg base ZL 2 "_law_places" ["_law_n"] XT) : ZH P w K mg base ZL 3 f fd ["_law_many", "_law_n", "_law_thing"] (ZeQ K) := by
 refine F.ok (FS (N := ["_law_many", "_law_n", "_law_thing", "_law_number"])) (fun vs H Q E h => ?_) (fun cdv A outer s H vs Q E hr h => ?_)
 ·obtain ⟨m, n, x, o, rfl, _⟩ := h; rfl
 ·obtain ⟨m, n, x, o, rfl, n1, n60, hx, q⟩ := h
  have hphi := (Vp n1 n60).2.2.1
  refine ⟨_, Zn (Z4 (JD (Y0 (Yw (cb (Vx K "tuple") T.isi (pc (vn 2) (pc (tyv "tuple" T.tuple) Zl))))) (WS (Zx WJ (cb (Z7 K) T.len (pc (vn 2) Zl)) (vn 0) (ZB _)))).pt (Zo (Zs YH)) ZC)
   (Zn (ZI PassesOwn.never rfl (itT K (vn 2)) (gn 3)
    (Zn (Z4 (JD (Y0 (Yw (cb (Vx K "tuple") T.isi (pc (vn 3) (pc (tyv "tuple" T.tuple) Zl))))) (WS (Zx WJ (cb (Z7 K) T.len (pc (vn 3) Zl)) (Yc GL hr Zu (pc (vn 1) Zl)) (ZB _)))).pt (Zo (Zs YH)) ZC)
    (Zo (Z4 (Zx (Zll K hr.units) (Xw ["_law_one"] [] ["_law_one"] rfl (itT K (vn 3)) (fun _ _ _ _ _ => gn 0)
     (fun _ _ _ _ _ => Jt (JD (Y0 (Yw (cb (Vx K "int") (by exact T.isi) (pc (vn 0) (pc (tyv "int" (by exact T.int)) Zl))))) (WS (Yw (cb (Vx K "bool") (by exact T.isi) (pc (vn 0) (pc (tyv "bool" (by exact T.bool)) Zl)))))).pt)
     (fun _ _ _ _ _ => vn 0)) (ZD Zl) (ZB _)) (Zo (Zs YH)) ZC))))
   (Zo (Zs YH))), ?_⟩
  obtain ⟨t, hk, ht⟩ := hx.kd
  refine ⟨_, rfl, x, t, rfl, hk, _, rfl, ?_⟩
  rw [ht]
  cases hx with
  | other h hn => exact V0 rfl (V0 rfl (q H (Same.refl H)))
  | @tup a xs os ha hl he =>
   refine YR (by simp) ?_
   have el := he.len
   refine ⟨_, rfl, a, xs, rfl, .inr (.of ha), _, rfl, rfl, _, rfl, ?_⟩
   refine YS (fun h1 => ?_) (fun h1 => ?_)
   ·have h1 : ¬ (xs.length : Int) = (m : Int) := fun z => by
     have : (!decide (V.int (xs.length : Int) = V.int (m : Int))) = true := h1
     rw [decide_eq_true (congrArg V.int z)] at this; cases this
    have := q H (Same.refl _)
    rw [W7, decide_eq_false (show ¬ os.length = m by omega), Bool.false_and] at this
    exact this
   have h1 : (xs.length : Int) = (m : Int) := by
    apply Classical.byContradiction
    intro z
    apply h1
    show (!decide (V.int (xs.length : Int) = V.int (m : Int))) = true
    rw [decide_eq_false (fun e => z (V.int.inj e))]; rfl
   have em : spB m n (some os) = os.all fun o => JH o (YX n) := by rw [W7, decide_eq_true (show os.length = m by omega), Bool.true_and]
   refine ⟨_, rfl, a, rfl, ⟨xs, .of ha⟩, ?_⟩
   refine Xc (H0 := H) (Yn (K := K) (.of ha)) (fun i σ' H' => ∃ v3 : Option V, σ' = [some (.int (m : Nat)), some (.int (n : Nat)), some (.ref a), v3] ∧ Same H H' ∧ ∀ j, j < i → JH (os.getD j none) (YX n) = true) ⟨_, rfl, Same.refl _, fun j hj => absurd hj (Nat.not_lt_zero _)⟩ (fun i σ' H' h => h.choose_spec.2.1) ?_ ?_
   ·rintro i y σ' H1 hy ⟨v3, rfl, s1, hall⟩
    have hi : i < os.length := by rw [el]; exact (List.getElem?_eq_some_iff.mp hy).1
    have fin : ∀ H2, Same H H2 → JH (os.getD i none) (YX n) = false → Q (.bl false) H2 := fun H2 s2 e => by
     have := q H2 s2
     rw [em] at this
     have e2 : (os.all fun o => JH o (YX n)) = false := by
      rw [List.all_eq_false]
      refine ⟨os.getD i none, ?_, by rw [e]; decide⟩
      rw [Zb, Zf hi]
      exact List.getElem_mem hi
     rw [e2] at this
     exact this
    have go : ∀ H2, Same H H2 → JH (os.getD i none) (YX n) = true → ∃ v3 : Option V, [some (.int (m : Nat)), some (.int (n : Nat)), some (.ref a), some y] = [some (.int (m : Nat)), some (.int (n : Nat)), some (.ref a), v3] ∧ Same H H2 ∧ ∀ j, j < i + 1 → JH (os.getD j none) (YX n) = true := fun H2 s2 e => ⟨_, rfl, s2, fun j hj => by
     rcases Nat.lt_or_eq_of_le (Nat.le_of_lt_succ hj) with h | h
     ·exact hall j h
     ·rw [h]; exact e⟩
    have hx := (he.get hy).mono s1
    generalize os.getD i none = o at fin go hx
    obtain ⟨t', hk', ht'⟩ := hx.kd
    refine ⟨_, rfl, y, t', rfl, hk', _, rfl, ?_⟩
    rw [ht']
    cases hx with
    | other h hn => exact V0 rfl (V0 rfl (fin H1 s1 rfl))
    | @tup b ys hb hl2 he2 =>
     refine YR (by simp) ?_
     refine ⟨_, rfl, b, ys, rfl, .inr (.of hb), _, rfl, n, rfl, n1, n60, fun H2 s2 => ⟨rfl, _, rfl, ?_⟩⟩
     have s12 := s1.trans s2
     refine YS (fun h1 => ?_) (fun h1 => ?_)
     ·have h1 : ¬ (ys.length : Int) = YX n := fun z => by
       have : (!decide (V.int (ys.length : Int) = V.int (Vv n))) = true := h1
       rw [decide_eq_true (congrArg V.int (z.trans hphi))] at this; cases this
      exact fin H2 s12 (by rw [Wn, decide_eq_false h1, Bool.false_and])
     have h1 : (ys.length : Int) = YX n := by
      apply Classical.byContradiction
      intro z
      apply h1
      show (!decide (V.int (ys.length : Int) = V.int (Vv n))) = true
      rw [decide_eq_false (fun e => z ((V.int.inj e).trans hphi.symm))]; rfl
     have hb2 := s2 _ _ hb
     refine ⟨_, rfl, b, rfl, ⟨ys, .of hb2⟩, ?_⟩
     refine Wo (Yn (YW.of hb2)) [] rfl (fun y => !isI y) (fun y => y) (by omega) ?_ ?_
     ·intro i y H' hy s' R R' g1 g2
      obtain ⟨n', d, hk', _⟩ := (he2 y (List.mem_of_getElem? hy)).mono (s2.trans s')
      have e := Vw hk'
      unfold UJ at e
      refine ⟨_, rfl, y, n', rfl, hk', _, rfl, ?_⟩
      refine YS (fun b1 => ?_) (fun b1 => ?_)
      ·have b1 : JL n' "int" = false := by simpa using b1
       rw [b1] at e
       have e' : isI y = false := by rw [← e]; simp
       exact V0 rfl ⟨_, rfl, g1 (by simp [e']) H' (Same.refl _)⟩
      ·have b1 : JL n' "int" = true := by simpa using b1
       rw [b1] at e
       refine ⟨_, rfl, y, n', rfl, hk', _, rfl, ?_⟩
       refine YS (fun b2 => ?_) (fun b2 => ?_)
       ·have e' : isI y = false := by rw [← e, b2]; rfl
        exact ⟨_, rfl, g1 (by simp [e']) H' (Same.refl _)⟩
       ·have b2 : JL n' "bool" = false := by simpa using b2
        have e' : isI y = true := by rw [← e, b2]; rfl
        exact g2 (by simp [e']) H' (Same.refl _)
     intro D H' hD s' hD'
     refine ⟨by decide, fun e0 he0 => ?_⟩
     have s3 : Same H1 (upd H' e0 (.lst [])) := (s2.trans s').trans (Same.upd he0)
     obtain ⟨ds, r1, r2, r3⟩ := Zbp (K := K) (H := upd H' e0 (.lst [])) (xs := (ys.filter fun y => !isI y).map fun y => y) fun y hy => by
      rw [List.map_id'] at hy
      exact (he2 y (List.mem_filter.mp hy).1).mono s3
     refine ⟨_, _, .lst (.of (Same.upd he0 _ _ hD')) r1, .lst (.of Zm) .nil, ZcK r3, rfl, _, rfl, ?_⟩
     rw [VC, Jf r2, List.map_id', VA]
     refine YS (fun h3 => ?_) (fun h3 => ?_)
     ·exact fin _ (s1.trans s3) (by rw [Wn, decide_eq_true h1, Bool.true_and]; simpa using h3)
     ·exact go _ (s1.trans s3) (by rw [Wn, decide_eq_true h1, Bool.true_and]; simpa using h3)
   ·rintro σ' H1 ⟨v3, rfl, s1, hall⟩
    have := q H1 s1
    rw [em] at this
    have e2 : (os.all fun o => JH o (YX n)) = true := by
     rw [List.all_eq_true]
     intro o ho
     obtain ⟨i, hi, rfl⟩ := List.getElem_of_mem ho
     have := hall i (by omega)
     rw [Zb, Zf hi] at this
     exact this
    rw [e2] at this
    exact this
end
end N24
namespace C24
open PySem L2 PySem.Spec PyProof.Rows
open Tb Pm
abbrev Ud : Stmt := top 28
abbrev Ze5 : Stmt := top 32
abbrev Ze1 : Stmt := top 33
abbrev ZkX : Stmt := top 55
def Vd (K : PySem.W.Frag) : Sp := fun vs H Q _ => ∃ (g : Addr) (t : List (List Nat)) (n : Nat) (x : V) (o : Option (List (Option (List V)))), vs = [.ref g, .int n, x] ∧ GT H g t ∧ PW t ∧ 1 ≤ n ∧ n ≤ 60 ∧ (∀ a, a < t.length → ∀ r, Rd t a r → r ∣ n) ∧ N24.Thg K H x o ∧ ∀ H', Same H H' → Q (.bl (N24.spB (Z1 t t.length).length n o)) H'
def Zcz : Sp := fun vs H Q _ => ∃ (a : Addr) (k : Int) (xss : List (List Int)), vs = [.ref a, .int k] ∧ (-(2 ^ 64) < k ∧ k < 2 ^ 64) ∧ YV H a xss ∧ xss.length ≤ 60 ∧ (∀ xs ∈ xss, xs.length ≤ 60) ∧
 ∀ r H', Same H H' → YV H' r (VZ xss.length fun i => (xss.getD i []).map (· * k)) → Q (.ref r) H'
def Zcv : Sp := fun vs H Q _ => ∃ (n m : Nat) (a : Addr) (xss : List (List Int)), vs = [.int n, .ref a, .int m] ∧ 1 ≤ n ∧ n ≤ m ∧ m ≤ 60 ∧ YV H a xss ∧ xss.length ≤ 60 ∧ (∀ xs ∈ xss, 1 ≤ xs.length ∧ xs.length ≤ 60) ∧
 ∀ r H', Same H H' → YV H' r (VZ xss.length fun i => N24.wid n m (xss.getD i [])) → Q (.ref r) H'
def Jq (H : Hp) (b : Addr) (m : Nat) (F : Nat → List Int) : Prop := ∃ bs : List Addr, H b = some (.lst (bs.map V.ref)) ∧ bs.length = m ∧ ∀ (i : Nat) c, bs[i]? = some c → H c = some (.lst ((F i).map V.int))
theorem Jq.mono {H H' : Hp} {b : Addr} {m : Nat} {F : Nat → List Int} (s : Same H H') (h : Jq H b m F) : Jq H' b m F := by
 obtain ⟨bs, h1, h2, h3⟩ := h
 exact ⟨bs, s _ _ h1, h2, fun i c hc => s _ _ (h3 i c hc)⟩
def ZeW : Sp := fun vs H Q _ => ∃ (n m : Nat) (a b : Addr) (R R' : Nat → List Int) (S : List (List Int)), vs = [.int n, .ref a, .ref b] ∧ 1 ≤ n ∧ n ≤ 60 ∧ m ≤ 60 ∧ YV H a S ∧ S.length = m ∧ Jq H b m (fun i => R i ++ R' i) ∧ (∀ i, i < m → (R i).length = n ∧ S.getD i [] = Num.Y1 n (N24.Z2 n) (N24.RN n) (R i)) ∧ ∀ H', Same H H' → Q (.bl true) H'
theorem Zeb (xs : List V) : (xs.filter fun _ => false).map (fun y => y) = ([] : List V) := by simp
section
variable {P : Program} {w : World} {K : PySem.W.Frag} {mg : Str → Option Value} {base : Heap}
theorem Za0 {f : Addr} {fd : FuncData} {tok : Tok} (F : YL K "is_spread" "is_spread" Ud f fd) (T : Bl mg) (hM : mg "MOST_N" = some (.int 60 tok)) (GF : Fn P w K mg base ZL 2 "full_round" ["group"] ZeS) (GS : Fn P w K mg base ZL 5 "sizes_of" ["group"] Zcy) (GA : Fn P w K mg base ZL 4 "are_numbers" ["n", "length", "thing"] (N24.Zim K)) : ZH P w K mg base ZL 6 f fd ["group", "n", "thing"] (Vd K) := by
 refine F.ok (FS (N := ["group", "n", "thing"])) (fun vs H Q E h => ?_) (fun cdv A outer s H vs Q E hr h => ?_)
 ·obtain ⟨g, t, n, x, o, rfl, _⟩ := h; rfl
 ·obtain ⟨g, t, n, x, o, rfl, G, Pt, n1, n60, hn, hx, q⟩ := h
  refine ⟨_, Zn (Z4 (JD (Zx Zc2 (vn 1) Zp (ZB _)) (JD (Zx ZaY (vn 1) (ZmE hM) (ZB _)) (WS (Zx WJ (Zq Z5 (vn 1) (Yc GF hr Zu (pc (vn 0) Zl))) Zp (ZB _))))).pt (Zo (Zs YH)) ZC)
   (Zo (Zs (Yc GA hr Zu (pc (vn 1) (pc (cb (Z7 K) T.len (pc (Yc GS hr Zu (pc (vn 0) Zl)) Zl)) (pc (vn 2) Zl)))))), ?_⟩
  obtain ⟨rs, hrs⟩ : ∃ rs : Nat → Nat, ∀ a, a < t.length → Rd t a (rs a) := by
   refine ⟨fun a => if h : a < t.length then (Pt.rd a h).choose else 0, fun a ha => ?_⟩
   show Rd t a (if h : a < t.length then (Pt.rd a h).choose else 0)
   rw [dif_pos ha]
   exact (Pt.rd a ha).choose_spec
  refine ⟨_, rfl, _, _, rfl, rfl, _, rfl, YR (by simp; omega) ?_⟩
  refine ⟨_, rfl, _, _, rfl, rfl, _, rfl, YR (by simp; omega) ?_⟩
  refine ⟨_, rfl, _, rfl, g, t, rs, rfl, G, Pt, hrs, fun f1 H1 s1 L1 => ?_⟩
  have hf : n % f1 = 0 := L1.mn n fun a ha => Nat.mod_eq_zero_of_dvd (hn a ha _ (hrs a ha))
  have f1p := L1.f1
  refine ⟨_, _, rfl, rfl, (by show (0 : Int) < (f1 : Int); omega), rfl, _, rfl, YR ?_ ?_⟩
  ·have : (n : Int) % (f1 : Int) = ((n % f1 : Nat) : Int) := by push_cast; rfl
   show ¬(!decide (V.int ((n : Int) % (f1 : Int)) = V.int 0)) = true
   rw [this, hf]
   decide
  refine ⟨_, rfl, _, rfl, g, t, rfl, G.mono s1, Pt, fun r H2 s2 h2 => ?_⟩
  refine ⟨r, _, rfl, .inr (.of h2), _, rfl, n, _, x, o, rfl, n1, n60, hx.mono (s1.trans s2), fun H3 s3 => ?_⟩
  have := q H3 ((s1.trans s2).trans s3)
  rw [Za, Za]
  exact this
theorem ZfA {f : Addr} {fd : FuncData} (F : YL K "spread_scaled" "spread_scaled" Ze5 f fd) (T : Bl mg) (GF : Fn P w K mg base ZL 1 "scaled" ["one", "k"] (N24.Zih K)) : ZH P w K mg base ZL 2 f fd ["one", "k"] Zcz := by
 refine F.ok (FS (N := ["one", "k"])) (fun vs H Q E h => ?_) (fun cdv A outer s H vs Q E hr h => ?_)
 ·obtain ⟨a, k, xss, rfl, _⟩ := h; rfl
 ·obtain ⟨a, k, xss, rfl, hk, ⟨rs, a1, a2, a3⟩, h60, hx, q⟩ := h
  refine ⟨_, Zo (Zs (ct Zw T.tuple (pc (Xw ["x"] [1] ["x", "k"] rfl (itT K (vn 0)) (fun _ _ _ _ _ => gn 0) (fun _ _ _ _ _ => ZK)
   (fun _ _ _ _ _ => Yc GF hr Zu (pc (vn 0) (pc (vn 1) Zl)))) Zl))), ?_⟩
  have pl : (rs.map V.ref).length = xss.length := by rw [Za, a2]
  refine ⟨_, rfl, a, rfl, ⟨_, .of a1⟩, ?_⟩
  refine Xd (W := Addr) id (fun i r H => H r = some (.tup (((xss.getD i []).map (· * k)).map V.int))) (fun _ _ => True) (Yn (K := K) (.of a1)) [some (.int k)] rfl (by omega) (fun i w H H' s h => s _ _ h) (fun w H H' s h => trivial) (fun i w H0 H1 D o ys ys' h h0 h1 h2 => ?_) (fun i y hy H' s' R k' => ?_) (fun D ws H' nD s' hD wl hw hp => ?_)
  ·rw [Zt fun z => by rw [z, h2] at h; cases h]
   exact h
  ·rw [Zc] at hy
   cases e : rs[i]? with
   | none => rw [e] at hy; cases hy
   | some c =>
    rw [e] at hy
    cases hy
    have hi : i < xss.length := by rw [← a2]; exact (List.getElem?_eq_some_iff.mp e).1
    exact ⟨_, rfl, _, rfl, c, k, _, rfl, .of (s' _ _ (a3 i c e)), Nat.le_trans (hx _ (XN hi)) (by decide), hk, fun r H5 s5 h5 => k' r H5 s5 h5 trivial⟩
  ·refine ⟨D, _, rfl, .inl ⟨.of hD, fun r nr => ?_⟩⟩
   exact q r _ (s'.trans (Same.upd nr)) (JU (D := D) (rs := ws) (Same.upd nr) Zm (by rw [wl, pl]) fun i r hr => (hw i r hr).1)
theorem Zfw {f : Addr} {fd : FuncData} (F : YL K "widened_spread" "widened_spread" Ze1 f fd) (T : Bl mg) (GF : Fn P w K mg base ZL 4 "widened" ["n", "one", "m"] (N24.Zie K)) : ZH P w K mg base ZL 5 f fd ["n", "one", "m"] Zcv := by
 refine F.ok (FS (N := ["n", "one", "m"])) (fun vs H Q E h => ?_) (fun cdv A outer s H vs Q E hr h => ?_)
 ·obtain ⟨n, m, a, xss, rfl, _⟩ := h; rfl
 ·obtain ⟨n, m, a, xss, rfl, n1, nm, m60, ⟨rs, a1, a2, a3⟩, h60, hx, q⟩ := h
  refine ⟨_, Zo (Zs (ct Zw T.tuple (pc (Xw ["x"] [0, 2] ["x", "n", "m"] rfl (itT K (vn 1)) (fun _ _ _ _ _ => gn 0) (fun _ _ _ _ _ => ZK)
   (fun _ _ _ _ _ => Yc GF hr Zu (pc (vn 1) (pc (vn 0) (pc (vn 2) Zl))))) Zl))), ?_⟩
  have pl : (rs.map V.ref).length = xss.length := by rw [Za, a2]
  refine ⟨_, rfl, a, rfl, ⟨_, .of a1⟩, ?_⟩
  refine Xd (W := Addr) id (fun i r H => H r = some (.tup ((N24.wid n m (xss.getD i [])).map V.int))) (fun _ _ => True) (Yn (K := K) (.of a1)) [some (.int (n : Nat)), some (.int (m : Nat))] rfl (by omega) (fun i w H H' s h => s _ _ h) (fun w H H' s h => trivial) (fun i w H0 H1 D o ys ys' h h0 h1 h2 => ?_) (fun i y hy H' s' R k' => ?_) (fun D ws H' nD s' hD wl hw hp => ?_)
  ·rw [Zt fun z => by rw [z, h2] at h; cases h]
   exact h
  ·rw [Zc] at hy
   cases e : rs[i]? with
   | none => rw [e] at hy; cases hy
   | some c =>
    rw [e] at hy
    cases hy
    have hi : i < xss.length := by rw [← a2]; exact (List.getElem?_eq_some_iff.mp e).1
    obtain ⟨x1, x2⟩ := hx _ (XN hi)
    exact ⟨_, rfl, _, rfl, _, rfl, n, m, c, _, rfl, n1, nm, m60, .of (s' _ _ (a3 i c e)), x1, x2, fun r H5 s5 h5 => k' r H5 s5 h5 trivial⟩
  ·refine ⟨D, _, rfl, .inl ⟨.of hD, fun r nr => ?_⟩⟩
   exact q r _ (s'.trans (Same.upd nr)) (JU (D := D) (rs := ws) (Same.upd nr) Zm (by rw [wl, pl]) fun i r hr => (hw i r hr).1)
theorem Zjy {f : Addr} {fd : FuncData} (F : YL K "_law_all" "_law_all" ZkX f fd) (T : Bl mg) (GI : Fn P w K mg base ZL 3 "_law_is" ["_law_n", "_law_number", "_law_row"] N24.ZkO) : ZH P w K mg base ZL 4 f fd ["_law_n", "_law_found", "_law_rows"] ZeW := by
 refine F.ok (FS (N := ["_law_n", "_law_found", "_law_rows"])) (fun vs H Q E h => ?_) (fun cdv A outer s H vs Q E hr h => ?_)
 ·obtain ⟨n, m, a, b, R, R', S, rfl, _⟩ := h; rfl
 ·obtain ⟨n, m, a, b, R, R', S, rfl, n1, n60, m60, ⟨rs, a1, a2, a3⟩, sl, ⟨bs, b1, b2, b3⟩, hR, q⟩ := h
  refine ⟨_, Zn (Z4 (JD (Y0 (Yw (cb (Vx K "tuple") T.isi (pc (vn 1) (pc (tyv "tuple" T.tuple) Zl))))) (WS (Zx WJ (cb (Z7 K) T.len (pc (vn 1) Zl)) (cb (Z7 K) T.len (pc (vn 2) Zl)) (ZB _)))).pt (Zo (Zs YH)) ZC)
   (Zo (Zs (J4 (ZjY K hr.units) (Xw ["_law_k"] [0, 1, 2] ["_law_k", "_law_n", "_law_found", "_law_rows"] rfl (WI T.range (pc (cb (Z7 K) T.len (pc (vn 2) Zl)) Zl)) (fun _ _ _ _ _ => gn 0)
     (fun _ _ _ _ _ => Jt (Y0 (Yw (Yc GI hr Zu (pc (vn 1) (pc (ZN (Us K) (vn 2) (vn 0) (fun _ _ => rfl)) (pc (ZN (ixL K) (vn 3) (vn 0) (fun _ _ => rfl)) Zl)))))))
     (fun _ _ _ _ _ => vn 0)) (ZD Zl) (ZB _)))), ?_⟩
  have al : (rs.map V.ref).length = m := by rw [Za, a2, sl]
  have bl : (bs.map V.ref).length = m := by rw [Za, b2]
  refine ⟨_, rfl, .ref a, "tuple", rfl, ⟨.tup a1, by decide⟩, _, rfl, YR (by decide) ?_⟩
  refine ⟨_, rfl, a, _, rfl, .inr (.of a1), _, rfl, b, _, rfl, .inl (.of b1), rfl, _, rfl, YR ?_ ?_⟩
  ·rw [al, bl]; simp
  refine ⟨_, rfl, b, _, rfl, .inl (.of b1), _, rfl, by rw [bl]; omega, by rw [bl]; omega, ?_⟩
  rw [bl, Zj]
  refine Wo (Wh 0 m) [some (.int (n : Nat)), some (.ref a), some (.ref b)] rfl (fun _ => false) (fun y => y) (by rw [Za, Yf]; omega) ?_ ?_
  ·intro i y H' hy s' R1 R1' g1 g2
   obtain ⟨z, rfl, hz⟩ := N24.YI hy
   obtain ⟨z1, z2⟩ := N24.JZ hz
   obtain ⟨k, rfl⟩ := Int.eq_ofNat_of_zero_le z1
   have hk : k < m := by omega
   have hkr : k < rs.length := by omega
   have hkb : k < bs.length := by omega
   have ax : VU (rs.map V.ref) (k : Int) = some (.ref rs[k]) := YG (by rw [Zc, Zf hkr]; rfl)
   have ay : VU (bs.map V.ref) (k : Int) = some (.ref bs[k]) := YG (by rw [Zc, Zf hkb]; rfl)
   obtain ⟨rl, re⟩ := hR k hk
   have h3 := a3 k _ (Zf hkr)
   rw [re] at h3
   refine ⟨_, rfl, _, rfl, _, rfl, a, _, _, _, rfl, rfl, .of (s' _ _ a1), ax, _, rfl, _, rfl, b, _, _, _, rfl, rfl, .of (s' _ _ b1), ay, n, rs[k], bs[k], R k, R' k, rfl, n1, n60, s' _ _ h3, s' _ _ (b3 k _ (Zf hkb)), rl, fun H2 s2 => ⟨_, rfl, YR (by decide) (g2 rfl H2 s2)⟩⟩
  ·intro D H' hD s' hD'
   rw [Zeb] at hD'
   refine ⟨by decide, fun e0 he0 => ⟨_, _, .lst (.of (Same.upd he0 _ _ hD')) .nil, .lst (.of Zm) .nil, rfl, rfl, ?_⟩⟩
   exact q _ (s'.trans (Same.upd he0))
end
end C24
namespace Num
section
variable {n top : Nat} {least : List Int} {R : List (List Int)} {ps : List Int}
theorem ZcJ (j : Nat) : ∀ (xs : List Int) (k : Nat), JG n R j xs k = ZU xs.length fun t => co xs t * rh n R (k + t) j
 | [], k => rfl
 | x :: xs, k => by
  rw [JG, ZcJ j xs (k + 1), Zi, ZU]
  congr 1
  refine Yq _ _ _ fun t _ => ?_
  rw [YF, show k + 1 + t = k + (t + 1) by omega]
end
section
variable {n top : Nat} {ps least : List Int} {R : List (List Int)}
theorem Za2 (G : Good n ps least top R) {xs qs : List Int} (hx : xs.length = top) (hq : qs.length = n) (h : ∀ t, t < n → co qs t = co xs t) : Y1 n top R qs = xs := by
 have tn := G.tn
 refine Xv (by rw [Yg, hx]) fun j hj => ?_
 rw [Yg] at hj
 rw [WY hj, ZcJ, hq, JS n j _ (by omega) fun t ht hne => ?_]
 ·rw [h j (by omega), Nat.zero_add]
  unfold rh
  rw [Nat.mod_eq_of_lt (show j < n by omega), G.un j hj, WX hj, if_pos rfl, Int.mul_one]
 ·by_cases htt : t < top
  ·unfold rh
   rw [Nat.zero_add, Nat.mod_eq_of_lt ht, G.un t htt, WX hj, if_neg (fun z => hne z.symm), Int.mul_zero]
  ·rw [h t ht, YK (show xs.length ≤ t by omega), Int.zero_mul]
theorem ZhB (qs : List Int) (m : Nat) : Y1 n top R (qs ++ List.replicate m 0) = Y1 n top R qs := by
 refine Xv (by rw [Yg, Yg]) fun j hj => ?_
 rw [Yg] at hj
 rw [WY hj, WY hj, Vf, Js, Int.add_zero]
theorem Zcu (st : Nat) (z : List Int) : ∀ (xs : List Int) (i : Nat) (acc : List Int), (∀ k, k < xs.length → (i + k) * st < acc.length) → UO st xs i (acc ++ z) = UO st xs i acc ++ z
 | [], i, acc, _ => rfl
 | x :: r, i, acc, h => by
  have h0 := h 0 (by rw [Zi]; omega)
  rw [Nat.add_zero] at h0
  rw [UO, UO, List.set_append_left _ _ h0]
  exact Zcu st z r (i + 1) _ fun k hk => by
   rw [List.length_set]
   have := h (k + 1) (by rw [Zi]; omega)
   rw [show i + 1 + k = i + (k + 1) by omega]
   exact this
theorem ZgQ {xs : List Int} {st m : Nat} (x1 : 1 ≤ xs.length) (h : (xs.length - 1) * st + 1 ≤ m) : UO st xs 0 (List.replicate m 0) = stM xs st ++ List.replicate (m - ((xs.length - 1) * st + 1)) 0 := by
 have e : List.replicate m (0 : Int) = List.replicate ((xs.length - 1) * st + 1) 0 ++ List.replicate (m - ((xs.length - 1) * st + 1)) 0 := by
  rw [List.replicate_append_replicate]
  congr 1
  omega
 rw [e, Zcu]
 ·rfl
 ·intro k hk
  rw [Ze, Nat.zero_add]
  have : k * st ≤ (xs.length - 1) * st := Nat.mul_le_mul_right _ (by omega)
  omega
theorem Zby {xs : List Int} {n t : Nat} (h : t < n) : co (xs.take n) t = co xs t := by
 unfold co
 rw [Zb, Zb, List.getElem?_take_of_lt h]
theorem ZiP {u v : List Int} (h : u.length = v.length) (t : Nat) : co (List.zipWith (· + ·) u v) t = co u t + co v t := by
 by_cases ht : t < u.length
 ·unfold co
  rw [Zb, Zb, Zb, List.getElem?_zipWith, Zf ht, Zf (show t < v.length by omega)]
  rfl
 ·rw [YK (by rw [List.length_zipWith]; omega), YK (by omega), YK (by omega)]
  rfl
theorem Zdo (k : Int) (u : List Int) (t : Nat) : co (u.map (· * k)) t = co u t * k := by
 by_cases ht : t < u.length
 ·unfold co
  rw [Zb, Zb, Zc, Zf ht]
  rfl
 ·rw [YK (by rw [Za]; omega), YK (by omega), Int.zero_mul]
end
end Num
namespace C24
open PySem L2 PySem.Spec PyProof.Rows
open Tb Pm
theorem Zg0 {ws : List Addr} {xs : List Int} (h : ws.map V.ref = xs.map V.int) : xs = [] := by
 cases ws with
 | nil => exact List.map_eq_nil_iff.mp h.symm
 | cons w ws =>
  cases xs with
  | nil => rfl
  | cons x xs => injection h with h1 h2; cases h1
theorem ZhF {α : Type} {ws : List α} {w v : α} {b : Nat} (hb : (ws ++ [w])[b]? = some v) : (b < ws.length ∧ ws[b]? = some v) ∨ (b = ws.length ∧ v = w) := by
 by_cases hbl : b < ws.length
 ·rw [List.getElem?_append_left hbl] at hb
  exact .inl ⟨hbl, hb⟩
 ·rw [List.getElem?_append_right (by omega)] at hb
  have hb0 : b - ws.length = 0 := by
   apply Classical.byContradiction
   intro z
   rw [List.getElem?_eq_none (by rw [Zk]; omega)] at hb
   cases hb
  rw [hb0] at hb
  cases hb
  exact .inr ⟨by omega, rfl⟩
theorem Jq.push {H : Hp} {b r : Addr} {m : Nat} {F : Nat → List Int} {bs : List Addr} (h1 : H b = some (.lst (bs.map V.ref))) (h2 : bs.length = m) (h3 : ∀ (i : Nat) c, bs[i]? = some c → H c = some (.lst ((F i).map V.int))) (hr : H r = some (.lst ((F m).map V.int))) (hF : ∀ i, F i ≠ []) : Jq (upd H b (.lst (bs.map V.ref ++ [.ref r]))) b (m + 1) F := by
 refine ⟨bs ++ [r], by rw [Zm, List.map_append]; rfl, by rw [Zd, h2]; rfl, fun i c hc => ?_⟩
 have nb : ∀ {j : Nat} {c : Addr}, H c = some (.lst ((F j).map V.int)) → upd H b (.lst (bs.map V.ref ++ [.ref r])) c = some (.lst ((F j).map V.int)) := fun {j c} h => by
  rw [Zt fun z => by
   rw [z, h1] at h
   injection h with h
   injection h with h
   exact hF j (Zg0 h)]
  exact h
 rcases ZhF hc with ⟨_, hc⟩ | ⟨e, rfl⟩
 ·exact nb (h3 i c hc)
 ·rw [e, h2]
  exact nb hr
theorem UB {J : It} {own : List Str} {caps : List Nat} {te : TE} {σ : L2.St} {H : Hp} {Q : VK} {xs : List V} (S : WN J H xs) (cs : L2.St) (hcs : JO own caps σ = none :: cs) (hn : xs.length ≤ 1000) (F : Nat → List Int) (hF : ∀ i, F i ≠ [])
  (hs : ∀ (i : Nat) y, xs[i]? = some y → ∀ H', Same H H' → ∀ R : VK, (∀ r H5, Same H' H5 → H5 r = some (.lst ((F i).map V.int)) → R (.ref r) H5) → te (some y :: cs) H' R)
  (hd : ∀ D H', H D = none → Same H H' → Jq H' D xs.length F → Q (.ref D) H') : W0 own caps (Yh 0) tTrue te σ Q J H := by
 refine Xe (xs := xs) (fun D i ys H' => Same H H' ∧ ∃ bs : List Addr, ys = bs.map V.ref ∧ bs.length = i ∧ ∀ (i : Nat) c, bs[i]? = some c → H' c = some (.lst ((F i).map V.int))) cs hcs (by omega) ?_ ?_ ?_ ?_
 ·intro D i ys H' hD hD' p
  have S' := S.mono p.1
  exact ⟨fun hi => ⟨S'.go i H' (Same.refl _) hi, fun x H3 y => S'.yld i H' x H3 (Same.refl _) hi y⟩, fun e => e ▸ S'.stop H' (Same.refl _)⟩
 ·intro D hD
  exact ⟨Same.upd hD, [], rfl, rfl, fun i w hw => by cases hw⟩
 ·rintro D i y ys H' hD hD' hy ⟨sm, bs, rfl, wl, hw⟩ R k
  refine hs i y hy H' sm R fun r H5 s5 h5 => ?_
  have hD5 := s5 _ _ hD'
  subst wl
  obtain ⟨bs', e1, e2, e3⟩ := Jq.push (F := F) hD5 rfl (fun i c hc => s5 _ _ (hw i c hc)) h5 hF
  rw [Zm] at e1
  injection e1 with e1
  injection e1 with e1
  exact k _ H5 hD5 ⟨(sm.trans s5).updr hD, bs', e1, e2, e3⟩
 ·rintro D ys H5 hD hD' hyl ⟨sm, bs, rfl, wl, hw⟩
  rw [Za] at hyl
  exact hd D H5 hD sm ⟨bs, hD', hyl, hw⟩
theorem Zek {K : PySem.W.Frag} {J : It} {At : Hp → Prop} {own : List Str} {caps : List Nat} {te : TE} {σ : L2.St} {H Hx : Hp} {Q : VK} {ps : List (V × V)} (S : Zeu J At ps) (hAt : ∀ H', Same Hx H' → At H') (sx : Same Hx H) (cs : L2.St) (hcs : JO own caps σ = none :: none :: cs) (F : Nat → List Int) (hF : ∀ i, F i ≠ []) (hz : ps.length ≤ 1000)
  (hs : ∀ (i : Nat) x y H', ps[i]? = some (x, y) → Same H H' → ∀ R : VK, (∀ r H5, Same H' H5 → H5 r = some (.lst ((F i).map V.int)) → R (.ref r) H5) → te (some x :: some y :: cs) H' R)
  (hd : ∀ D H', H D = none → Same H H' → Jq H' D ps.length F → Q (.ref D) H') : W0 own caps (Zgg K 2 (Xb (Yh 0) (Xb (Yh 1) Zgh))) tTrue te σ Q J H := by
 have sz : (16777216 : Nat) = sizeLine := by decide
 intro D hD
 refine ⟨fun i m σ' H' => m = ps.length - i ∧ i ≤ ps.length ∧ (∃ v0 v1, σ' = v0 :: v1 :: cs) ∧ Same H H' ∧ Jq H' D i F, ⟨_, rfl, Nat.zero_le _, ⟨none, none, hcs⟩, Same.upd hD, [], Zm, rfl, fun i r hr => by cases hr⟩, ?_⟩
 rintro i m σ' H' ⟨rfl, hi, ⟨v0, v1, rfl⟩, s, rs, hl, rl, hr⟩
 have at' := hAt H' (sx.trans s)
 by_cases hlt : i < ps.length
 ·refine .inr ⟨S.go i H' at' hlt, fun σ2 H2 => (∃ v0 v1, σ2 = v0 :: v1 :: cs) ∧ Same H H2 ∧ Jq H2 D (i + 1) F, fun σ2 H2 z => ⟨ps.length - (i + 1), by omega, rfl, hlt, z.1, z.2.1, z.2.2⟩, fun x H2 hy => ?_⟩
  obtain ⟨T, y, z, rfl, hT, rfl, hx⟩ := S.yld i H' x H2 at' hy
  refine ⟨T, _, rfl, .of Zm, rfl, _, _, rfl, _, _, rfl, rfl, ?_⟩
  refine tT (A := fun H4 => te (some y :: some z :: cs) H4 fun v H5 => ∃ xs, H5 D = some (.lst xs) ∧ xs.length < sizeLine ∧ (∃ v0 v1, (some y :: some z :: cs : L2.St) = v0 :: v1 :: cs) ∧ Same H (upd H5 D (.lst (xs ++ [v]))) ∧ Jq (upd H5 D (.lst (xs ++ [v]))) D (i + 1) F) ?_
  refine hs i y z _ hx (s.trans (Same.upd hT)) _ fun r H5 s5 h5 => ?_
  have s4 := (Same.upd (H := H') (o := .tup [y, z]) hT).trans s5
  have hD5 := s4 _ _ hl
  subst rl
  exact ⟨_, hD5, by rw [Za]; omega, ⟨_, _, rfl⟩, (s.trans s4).updr hD, Jq.push hD5 rfl (fun i c hc => s4 _ _ (hr i c hc)) h5 hF⟩
 ·have e : i = ps.length := by omega
  subst e
  exact .inl ⟨S.stop _ H' at' (Nat.le_refl _), hd D H' hD s ⟨rs, hl, rl, hr⟩⟩
end C24
namespace L2
open PySem PySem.Spec PyProof.Rows
theorem Zln {X : Cx} (K : PySem.W.Frag) (hK : X.K = K := by rfl) : Yi X (.type "list") (fun xs H Q => ∃ p ys, xs = [.ref p] ∧ (Wp K H p ys ∨ YW K H p ys) ∧ ∀ l, H l = none → Q (.ref l) (upd H l (.lst ys))) := hK ▸ ZZ
end L2
namespace C24
open PySem L2 PySem.Spec PyProof.Rows
open Tb Pm
theorem ZhP {J : It} {g : TG} {tb : TS} {D : Xi} {σ : L2.St} {H : Hp} {At : Hp → Prop} {ps : List (V × V)} (S : Zeu J At ps) (Pv : Nat → L2.St → Hp → Prop) (h0 : Pv 0 σ H) (hS : ∀ i σ H, Pv i σ H → At H)
  (hs : ∀ (i : Nat) y z σ H T, ps[i]? = some (y, z) → Pv i σ H → H T = none → g (.ref T) σ (upd H T (.tup [y, z])) fun σ2 H2 => tb { D with nx := Pv (i + 1), ct := Pv (i + 1), bk := D.nx } σ2 H2) (hd : ∀ σ H, Pv ps.length σ H → D.nx σ H) :
  ∃ W : Nat → Nat → L2.St → Hp → Prop, (∃ m, W 0 m σ H) ∧ ∀ i m σ H, W i m σ H →
   (J.stop i H ∧ D.nx σ H) ∨ (J.go i H ∧ ∃ N : L2.St → Hp → Prop, (∀ σ' H', N σ' H' → ∃ m', m' < m ∧ W (i + 1) m' σ' H') ∧ ∀ x H', J.yld i H x H' → g x σ H' fun σ2 H2 => tb { D with nx := N, ct := N, bk := D.nx } σ2 H2) := by
 refine ⟨fun i m σ H => m = ps.length - i ∧ i ≤ ps.length ∧ Pv i σ H, ⟨_, rfl, Nat.zero_le _, h0⟩, ?_⟩
 rintro i m σ H ⟨rfl, hi, p⟩
 have s := hS i σ H p
 by_cases hlt : i < ps.length
 ·refine .inr ⟨S.go i H s hlt, Pv (i + 1), fun σ' H' p' => ⟨ps.length - (i + 1), by omega, rfl, hlt, p'⟩, fun x H' hy => ?_⟩
  obtain ⟨T, y, z, rfl, hT, rfl, hx⟩ := S.yld i H x H' s hy
  exact hs i y z σ H T hx p hT
 ·have e : i = ps.length := by omega
  subst e
  exact .inl ⟨S.stop _ H s (Nat.le_refl _), hd σ H p⟩
abbrev Zip : Stmt := top 56
def UX (n : Nat) (xs ys : List Int) : List Int := List.zipWith (· + ·) (xs ++ List.replicate n 0) (ys ++ List.replicate n 0)
def UY (n : Nat) (k : Int) (xs : List Int) : List Int := (xs ++ List.replicate n 0).map (· * k)
theorem ZgW {n : Nat} (n1 : 1 ≤ n) (xs ys : List Int) : UX n xs ys ≠ [] := fun z => by
 have := congrArg List.length z
 unfold UX at this
 rw [List.length_zipWith, Zd, Zd, Ze, List.length_nil] at this
 omega
theorem ZgX {n : Nat} (n1 : 1 ≤ n) (k : Int) (xs : List Int) : UY n k xs ≠ [] := fun z => by
 have := congrArg List.length z
 unfold UY at this
 rw [Za, Zd, Ze, List.length_nil] at this
 omega
theorem Zb6 {n : Nat} {xs : List Int} (n1 : 1 ≤ n) (h : xs.length = n) : xs ≠ [] := fun z => by rw [z] at h; simp at h; omega
theorem ZaR {n : Nat} {xs ys : List Int} (h : xs.length = ys.length) : (UX n xs ys).length = xs.length + n := by
 unfold UX
 rw [List.length_zipWith, Zd, Zd, Ze]
 omega
theorem ZaS {n : Nat} {k : Int} {xs : List Int} : (UY n k xs).length = xs.length + n := by
 unfold UY
 rw [Za, Zd, Ze]
theorem ZfQ {n : Nat} {ps least : List Int} {R : List (List Int)} {top : Nat} (G : Num.Good n ps least top R) {xs ys : List Int} (hx : xs.length = top) (hy : ys.length = top) : Num.Y1 n top R ((UX n xs ys).take n) = List.zipWith (· + ·) xs ys := by
 refine Num.Za2 G (by rw [List.length_zipWith]; omega) (by rw [List.length_take, ZaR (by omega)]; omega) fun t ht => ?_
 rw [Num.Zby ht, Num.ZiP (by omega)]
 unfold UX
 rw [Num.ZiP (by rw [Zd, Zd]; omega), N24.Zal, N24.Zal]
theorem ZfR {n : Nat} {ps least : List Int} {R : List (List Int)} {top : Nat} (G : Num.Good n ps least top R) {xs : List Int} (k : Int) (hx : xs.length = top) : Num.Y1 n top R ((UY n k xs).take n) = xs.map (· * k) := by
 refine Num.Za2 G (by rw [Za]; exact hx) (by rw [List.length_take, ZaS]; omega) fun t ht => ?_
 rw [Num.Zby ht, Num.Zdo]
 unfold UY
 rw [Num.Zdo, N24.Zal]
theorem Ul {n : Nat} (xs ys : List Int) : (Num.Za8 n xs ys).length = n := by
 unfold Num.Za8
 rw [Num.Ue, Ze]
def ZeN : Sp := fun vs H Q _ => ∃ (n : Nat) (a b : Addr) (k : Int) (xss yss : List (List Int)), vs = [.int n, .ref a, .ref b, .int k] ∧ 1 ≤ n ∧ n ≤ 60 ∧ (-(2 ^ 64) < k ∧ k < 2 ^ 64) ∧ YV H a xss ∧ YV H b yss ∧ xss.length = yss.length ∧ xss.length ≤ 60 ∧ V4 n xss ∧ V4 n yss ∧ ∀ H', Same H H' → Q (.bl true) H'
section
variable {P : Program} {w : World} {K : PySem.W.Frag} {mg : Str → Option Value} {base : Heap}
theorem Zhn {f : Addr} {fd : FuncData} (F : YL K "_law_sums_right" "_law_sums_right" Zip f fd) (T : Bl mg) (T3 : N24.Bl3 mg) (GA : Fn P w K mg base ZL 4 "_law_all" ["_law_n", "_law_found", "_law_rows"] ZeW) (GSP : Fn P w K mg base ZL 2 "spread_plus" ["one", "other"] ZcA) (GSC : Fn P w K mg base ZL 2 "spread_scaled" ["one", "k"] Zcz) (GST : Fn P w K mg base ZL 5 "spread_times" ["n", "one", "other"] ZaF) (GSF : Fn P w K mg base ZL 6 "spread_flipped" ["n", "one"] ZcB)
  (GP : Fn P w K mg base ZL 1 "_law_product" ["_law_n", "_law_one", "_law_other"] (N24.ZeP K)) (GF : Fn P w K mg base ZL 1 "_law_flip" ["_law_n", "_law_one"] (N24.ZcH K)) : ZH P w K mg base ZL 7 f fd ["_law_n", "_law_one", "_law_other", "_law_k"] ZeN := by
 refine F.ok (FS (N := ["_law_n", "_law_one", "_law_other", "_law_k", "_law_pad", "_law_rows", "_law_first", "_law_second"])) (fun vs H Q E h => ?_) (fun cdv A outer s H vs Q E hr h => ?_)
 ·obtain ⟨n, a, b, k, xss, yss, rfl, _⟩ := h; rfl
 ·obtain ⟨n, a, b, k, xss, yss, rfl, n1, n60, hk, X, Y, hxy, h60, okx, oky, q⟩ := h
  refine ⟨_, Zn (Zy 4 rfl (Zq Wc (ZD (pc Zp Zl)) (vn 0)))
   (Zn (Zy 5 rfl (ZD Zl))
   (Zn (ZI PassesOwn.never rfl (Zdy K T3.zip (pc (vn 1) (pc (vn 2) Zl))) (g2 K 6 7 rfl (gn 6) (gn 7))
    (Zo (YC (WZ PySem.F.plainAttrs_list PySem.F.slot_list_append PySem.F.type_list_append ZV (vn 5) (pc (Xw ["_law_a", "_law_b"] [] ["_law_a", "_law_b"] rfl
     (Zdy K T3.zip (pc (Zq Xp (ct ZZ T.list (pc (vn 6) Zl)) (vn 4)) (pc (Zq Xp (ct ZZ T.list (pc (vn 7) Zl)) (vn 4)) Zl))) (fun _ _ _ _ _ => g2 K 0 1 rfl (gn 0) (gn 1)) (fun _ _ _ _ _ => ZK) (fun _ _ _ _ _ => Zq ZO (vn 0) (vn 1))) Zl)))))
   (Zn (Z4 (Y0 (Yw (Yc GA hr Zu (pc (vn 0) (pc (Yc GSP hr Zu (pc (vn 1) (pc (vn 2) Zl))) (pc (vn 5) Zl)))))) (Zo (Zs YH)) ZC)
   (Zn (Zi6 5 ["_law_first"] [3, 4] ["_law_first", "_law_k", "_law_pad"] rfl rfl (itT K (vn 1)) (fun _ _ _ _ _ => gn 0) (fun _ _ _ _ _ => ZK)
    (fun _ _ _ _ _ => Xw ["_law_a"] [1] ["_law_a", "_law_k"] rfl (itL K (Zq Xp (ct (Zln K) (by exact T.list) (pc (vn 0) Zl)) (vn 2))) (fun _ _ _ _ _ => gn 0) (fun _ _ _ _ _ => ZK) (fun _ _ _ _ _ => Zq Z0 (vn 0) (vn 1))))
   (Zn (Z4 (Y0 (Yw (Yc GA hr Zu (pc (vn 0) (pc (Yc GSC hr Zu (pc (vn 1) (pc (vn 3) Zl))) (pc (vn 5) Zl)))))) (Zo (Zs YH)) ZC)
   (Zn (Zi6 5 ["_law_first", "_law_second"] [0] ["_law_first", "_law_second", "_law_n"] rfl rfl (Zdy K T3.zip (pc (vn 1) (pc (vn 2) Zl))) (fun _ _ _ _ _ => g2 K 0 1 rfl (gn 0) (gn 1)) (fun _ _ _ _ _ => ZK)
    (fun _ _ _ _ _ => Yc GP hr Zu (pc (vn 2) (pc (vn 0) (pc (vn 1) Zl)))))
   (Zn (Z4 (Y0 (Yw (Yc GA hr Zu (pc (vn 0) (pc (Yc GST hr Zu (pc (vn 0) (pc (vn 1) (pc (vn 2) Zl)))) (pc (vn 5) Zl)))))) (Zo (Zs YH)) ZC)
   (Zo (Zs (Yc GA hr Zu (pc (vn 0) (pc (Yc GSF hr Zu (pc (vn 0) (pc (vn 1) Zl))) (pc (Xw ["_law_first"] [0] ["_law_first", "_law_n"] rfl (itT K (vn 1)) (fun _ _ _ _ _ => gn 0) (fun _ _ _ _ _ => ZK)
    (fun _ _ _ _ _ => Yc GF hr Zu (pc (vn 1) (pc (vn 0) Zl)))) Zl))))))))))))), ?_⟩
  have sz : (16777216 : Nat) = sizeLine := by decide
  obtain ⟨G, _⟩ := N24.Vy n1 n60
  have tn := G.tn
  obtain ⟨rx, x1, x2, x3⟩ := id X
  obtain ⟨ry, y1, y2, y3⟩ := id Y
  have xl : ∀ i, i < xss.length → (xss.getD i []).length = N24.Z2 n := fun i hi => (okx _ (XN hi)).1
  have yl : ∀ i, i < xss.length → (yss.getD i []).length = N24.Z2 n := fun i hi => (oky _ (XN (by omega))).1
  have x60 : ∀ xs ∈ xss, xs.length ≤ 60 := fun xs hx => by rw [(okx xs hx).1]; omega
  have t1 := G.t1
  have big : ∀ {zss : List (List Int)}, V4 n zss → ∀ zs ∈ zss, 1 ≤ zs.length ∧ zs.length ≤ 60 ∧ N24.ZgE zs := fun {zss} h zs hz => by
   obtain ⟨h1, h2⟩ := h zs hz
   refine ⟨by omega, by omega, fun x hx => ?_⟩
   have := h2 x hx
   have l : (2 : Nat) ^ 64 ≤ 2 ^ 900 := by decide +kernel
   omega
  refine ⟨(by show 1 ≤ sizeLine; decide), fun l1 nl1 => ⟨_, rfl, l1, _, _, rfl, rfl, Zm, by omega, by omega, by show 1 * ((n : Int)).toNat ≤ sizeLine; omega, fun pd npd => ?_⟩⟩
  rw [Zj, N24.Wu]
  have s1 := (Same.upd (H := H) (o := .lst [.int 0]) nl1).trans (Same.upd (o := .lst ((List.replicate n (0 : Int)).map V.int)) npd)
  have hpd := Zm (H := upd H l1 (.lst [.int 0])) (a := pd) (o := .lst ((List.replicate n (0 : Int)).map V.int))
  generalize upd (upd H l1 (.lst [.int 0])) pd (.lst ((List.replicate n (0 : Int)).map V.int)) = H1 at s1 hpd ⊢
  refine ⟨by decide, fun rw' nrw => ?_⟩
  have s2 := Same.upd (H := H1) (o := .lst []) nrw
  have pl : ((rx.map V.ref).zip (ry.map V.ref)).length = xss.length := by rw [List.length_zip, Za, Za, x2, y2]; omega
  refine ⟨_, rfl, _, rfl, a, b, true, true, _, _, H1, rfl, .tup (.of (s1 _ _ x1)), .tup (.of (s1 _ _ y1)), s2, fun J At S hAt => ?_⟩
  refine ZhP S (fun i σ' H' => ∃ v6 v7 : Option V, σ' = [some (.int (n : Nat)), some (.ref a), some (.ref b), some (.int k), some (.ref pd), some (.ref rw'), v6, v7] ∧ Same H1 H' ∧ Jq H' rw' i fun i => UX n (xss.getD i []) (yss.getD i []))
   ⟨_, _, rfl, s2, [], Zm, rfl, fun i c hc => by cases hc⟩ (fun i σ' H' h => by
    obtain ⟨_, _, _, sm, _⟩ := h
    exact hAt H' sm) ?_ ?_
  ·rintro i y z σ' H3 T' hyz ⟨v6, v7, rfl, s3, L3⟩ nT
   obtain ⟨c, d, e1, e2, rfl, rfl⟩ := J5 hyz
   have hi : i < xss.length := by rw [← x2]; exact (List.getElem?_eq_some_iff.mp e1).1
   refine ⟨T', _, rfl, .of Zm, rfl, _, _, rfl, _, _, rfl, rfl, ?_⟩
   have s34 := Same.upd (H := H3) (o := .tup [.ref c, .ref d]) nT
   have s4 := s3.trans s34
   have L4 := L3.mono s34
   generalize upd H3 T' (.tup [.ref c, .ref d]) = H4 at s4 L4 ⊢
   obtain ⟨bs, b1, b2, b3⟩ := L4
   have hc4 := s4 _ _ (s1 _ _ (x3 i c e1))
   have hd4 := s4 _ _ (s1 _ _ (y3 i d e2))
   have hp4 := s4 _ _ hpd
   refine ⟨_, rfl, .inl ⟨rfl, _, .of b1⟩, ?_⟩
   refine ⟨_, rfl, c, _, rfl, .inr (.of hc4), fun l3 nl3 => ?_⟩
   have s5 := Same.upd (H := H4) (o := .lst ((xss.getD i []).map V.int)) nl3
   refine ⟨_, rfl, l3, pd, _, _, rfl, rfl, Zm, s5 _ _ hp4, by rw [Za, Za, Ze, xl i hi]; omega, fun l4 nl4 => ?_⟩
   rw [← List.map_append]
   have s6 := s5.trans (Same.upd (o := .lst ((xss.getD i [] ++ List.replicate n (0 : Int)).map V.int)) nl4)
   have h6 := Zm (H := upd H4 l3 (.lst ((xss.getD i []).map V.int))) (a := l4) (o := .lst ((xss.getD i [] ++ List.replicate n (0 : Int)).map V.int))
   generalize upd (upd H4 l3 (.lst ((xss.getD i []).map V.int))) l4 (.lst ((xss.getD i [] ++ List.replicate n (0 : Int)).map V.int)) = H6 at s6 h6 ⊢
   refine ⟨_, rfl, d, _, rfl, .inr (.of (s6 _ _ hd4)), fun l5 nl5 => ?_⟩
   have s7 := Same.upd (H := H6) (o := .lst ((yss.getD i []).map V.int)) nl5
   refine ⟨_, rfl, l5, pd, _, _, rfl, rfl, Zm, s7 _ _ (s6 _ _ hp4), by rw [Za, Za, Ze, yl i hi]; omega, fun l6 nl6 => ?_⟩
   rw [← List.map_append]
   have s8 := s7.trans (Same.upd (o := .lst ((yss.getD i [] ++ List.replicate n (0 : Int)).map V.int)) nl6)
   have h8 := Zm (H := upd H6 l5 (.lst ((yss.getD i []).map V.int))) (a := l6) (o := .lst ((yss.getD i [] ++ List.replicate n (0 : Int)).map V.int))
   generalize upd (upd H6 l5 (.lst ((yss.getD i []).map V.int))) l6 (.lst ((yss.getD i [] ++ List.replicate n (0 : Int)).map V.int)) = H8 at s8 h8 ⊢
   refine ⟨l4, l6, false, false, _, _, H8, rfl, .lst (.of (s8 _ _ h6)), .lst (.of h8), Same.refl _, fun J' At' S' hAt' => ?_⟩
   refine Zbv S' hAt' (Same.refl _) [] rfl (N24.ZjS (· + ·)) (by rw [List.length_zip, Za, Za, Zd, Ze, xl i hi]; omega) (fun j x y H9 hxy s9 R g => ?_) (fun D H9 nD s9 hD => ?_)
   ·obtain ⟨u, v, rfl, rfl⟩ := N24.Zcq hxy
    exact ⟨_, rfl, _, rfl, _, _, rfl, rfl, g H9 (Same.refl _)⟩
   ·rw [N24.VB] at hD
    have sA := (s6.trans s8).trans s9
    have b1' := sA _ _ b1
    refine ⟨rw', _, _, rfl, rfl, b1', by rw [Za]; omega, _, _, rfl, (s4.trans sA).updr nrw, ?_⟩
    exact Jq.push b1' b2 (fun i c hc => sA _ _ (b3 i c hc)) hD fun i => ZgW n1 _ _
  rintro σ' H3 ⟨v6, v7, rfl, s3, L3⟩
  rw [pl] at L3
  have s03 := s1.trans s3
  refine ⟨_, rfl, _, rfl, _, rfl, a, b, xss, yss, rfl, X.mono s03, Y.mono s03, hxy, h60, x60, fun r4 H4 s4 S4 => ?_⟩
  refine ⟨_, rfl, n, xss.length, r4, rw', fun i => (UX n (xss.getD i []) (yss.getD i [])).take n, fun i => (UX n (xss.getD i []) (yss.getD i [])).drop n, _, rfl, n1, n60, h60, S4, WK _ _, by simpa only [List.take_append_drop] using L3.mono s4, fun i hi => ⟨by rw [List.length_take, ZaR ((xl i hi).trans (yl i hi).symm)]; omega, by rw [WL hi, ZfQ G (xl i hi) (yl i hi)]⟩, fun H5 s5 => ⟨_, rfl, YR (by decide) ?_⟩⟩
  have s05 := (s03.trans s4).trans s5
  have hp5 := ((s3.trans s4).trans s5) _ _ hpd
  refine ⟨_, rfl, a, rfl, ⟨_, .of (s05 _ _ x1)⟩, ?_⟩
  refine UB (Yn (K := K) (.of (s05 _ _ x1))) [some (.int k), some (.ref pd)] rfl (by rw [Za]; omega) (fun i => UY n k (xss.getD i [])) (fun i => ZgX n1 _ _) (fun i y hy H6 s6 R g => ?_) (fun D6 H6 nD6 s6 L6 => ?_)
  ·rw [Zc] at hy
   cases e : rx[i]? with
   | none => rw [e] at hy; cases hy
   | some c =>
    rw [e] at hy
    cases hy
    have hi : i < xss.length := by rw [← x2]; exact (List.getElem?_eq_some_iff.mp e).1
    refine ⟨_, rfl, c, _, rfl, .inr (.of (s6 _ _ (s05 _ _ (x3 i c e)))), fun l3 nl3 => ?_⟩
    have s7 := Same.upd (H := H6) (o := .lst ((xss.getD i []).map V.int)) nl3
    refine ⟨_, rfl, l3, pd, _, _, rfl, rfl, Zm, s7 _ _ (s6 _ _ hp5), by rw [Za, Za, Ze, xl i hi]; omega, fun l4 nl4 => ?_⟩
    rw [← List.map_append]
    have s8 := s7.trans (Same.upd (o := .lst ((xss.getD i [] ++ List.replicate n (0 : Int)).map V.int)) nl4)
    have h8 := Zm (H := upd H6 l3 (.lst ((xss.getD i []).map V.int))) (a := l4) (o := .lst ((xss.getD i [] ++ List.replicate n (0 : Int)).map V.int))
    generalize upd (upd H6 l3 (.lst ((xss.getD i []).map V.int))) l4 (.lst ((xss.getD i [] ++ List.replicate n (0 : Int)).map V.int)) = H8 at s8 h8 ⊢
    refine ⟨l4, rfl, ⟨_, .of h8⟩, ?_⟩
    refine YA (WQ (K := K) (.of h8)) [some (.int k)] rfl (N24.ZjT k) (by rw [Za, Zd, Ze, xl i hi]; omega) (fun j x H9 hx s9 R g => ?_) (fun D H9 nD s9 hD => ?_)
    ·obtain ⟨_, rfl⟩ := N24.Yu hx
     exact ⟨_, rfl, _, rfl, _, _, rfl, rfl, .inr hk, g H9 (Same.refl _)⟩
    ·rw [N24.Zbm] at hD
     exact g D H9 (s8.trans s9) hD
  rw [Za, x2] at L6
  have s06 := s05.trans s6
  refine ⟨_, rfl, _, rfl, _, rfl, a, k, xss, rfl, hk, X.mono s06, h60, x60, fun r7 H7 s7 S7 => ?_⟩
  refine ⟨_, rfl, n, xss.length, r7, D6, fun i => (UY n k (xss.getD i [])).take n, fun i => (UY n k (xss.getD i [])).drop n, _, rfl, n1, n60, h60, S7, WK _ _, by simpa only [List.take_append_drop] using L6.mono s7, fun i hi => ⟨by rw [List.length_take, ZaS]; omega, by rw [WL hi, ZfR G k (xl i hi)]⟩, fun H8 s8 => ⟨_, rfl, YR (by decide) ?_⟩⟩
  have s08 := (s06.trans s7).trans s8
  refine ⟨_, rfl, _, rfl, a, b, true, true, _, _, H8, rfl, .tup (.of (s08 _ _ x1)), .tup (.of (s08 _ _ y1)), Same.refl _, fun J2 At2 S2 hAt2 => ?_⟩
  refine Zek S2 hAt2 (Same.refl _) [some (.int (n : Nat))] rfl (fun i => Num.Za8 n (xss.getD i []) (yss.getD i [])) (fun i => Zb6 n1 (Ul _ _)) (by omega) (fun i x y H9 hxy s9 R g => ?_) (fun D9 H9 nD9 s9 L9 => ?_)
  ·obtain ⟨c, d, e1, e2, rfl, rfl⟩ := J5 hxy
   have hi : i < xss.length := by rw [← x2]; exact (List.getElem?_eq_some_iff.mp e1).1
   exact ⟨_, rfl, _, rfl, _, rfl, n, c, d, _, _, rfl, n1, n60, .of (s9 _ _ (s08 _ _ (x3 i c e1))), .inr (.of (s9 _ _ (s08 _ _ (y3 i d e2)))), by rw [xl i hi]; omega, by rw [yl i hi]; omega, (okx _ (XN hi)).2, fun l H5 s5 h5 => g l H5 s5 h5⟩
  rw [pl] at L9
  have s09 := s08.trans s9
  refine ⟨_, rfl, _, rfl, _, rfl, _, rfl, n, a, b, xss, yss, rfl, n1, n60, X.mono s09, Y.mono s09, hxy, h60, big okx, big oky, fun r10 H10 s10 S10 => ?_⟩
  refine ⟨_, rfl, n, xss.length, r10, D9, fun i => Num.Za8 n (xss.getD i []) (yss.getD i []), fun _ => [], _, rfl, n1, n60, h60, S10, WK _ _, by simpa only [List.append_nil] using L9.mono s10, fun i hi => ⟨Ul _ _, by rw [WL hi, Num.ZfS (by omega)]⟩, fun H11 s11 => ⟨_, rfl, YR (by decide) ?_⟩⟩
  have s011 := (s09.trans s10).trans s11
  refine ⟨_, rfl, _, rfl, _, rfl, n, a, xss, rfl, n1, n60, X.mono s011, h60, x60, fun r12 H12 s12 S12 => ?_⟩
  have s012 := s011.trans s12
  refine ⟨_, rfl, a, rfl, ⟨_, .of (s012 _ _ x1)⟩, ?_⟩
  refine UB (Yn (K := K) (.of (s012 _ _ x1))) [some (.int (n : Nat))] rfl (by rw [Za]; omega) (fun i => N24.flR n (xss.getD i [])) (fun i => Zb6 n1 (by unfold N24.flR; rw [Za, Zg])) (fun i y hy H13 s13 R g => ?_) (fun D13 H13 nD13 s13 L13 => ?_)
  ·rw [Zc] at hy
   cases e : rx[i]? with
   | none => rw [e] at hy; cases hy
   | some c =>
    rw [e] at hy
    cases hy
    have hi : i < xss.length := by rw [← x2]; exact (List.getElem?_eq_some_iff.mp e).1
    exact ⟨_, rfl, _, rfl, n, c, _, rfl, n1, n60, .of (s13 _ _ (s012 _ _ (x3 i c e))), by rw [xl i hi]; omega, fun l H5 s5 h5 => g l H5 s5 h5⟩
  rw [Za, x2] at L13
  refine ⟨n, xss.length, r12, D13, fun i => N24.flR n (xss.getD i []), fun _ => [], _, rfl, n1, n60, h60, S12.mono s13, WK _ _, by simpa only [List.append_nil] using L13, fun i hi => ⟨by unfold N24.flR; rw [Za, Zg], by rw [WL hi, N24.ZgJ (by omega) (by rw [xl i hi]; exact tn)]⟩, fun H14 s14 => q H14 ((s012.trans s13).trans s14)⟩
end
abbrev Zin : Stmt := top 57
def ZdG (m st : Nat) (xs : List Int) : List Int := Num.UO st xs 0 (List.replicate m 0)
theorem ZaQ (m st : Nat) (xs : List Int) : (ZdG m st xs).length = m := by
 unfold ZdG
 rw [Num.UN, Ze]
def ZeL : Sp := fun vs H Q _ => ∃ (n st : Nat) (a : Addr) (xss : List (List Int)), vs = [.int n, .ref a, .int (n * st : Nat)] ∧ 1 ≤ n ∧ 1 ≤ st ∧ n * st ≤ 60 ∧ YV H a xss ∧ xss.length ≤ 60 ∧ V4 n xss ∧ ∀ H', Same H H' → Q (.bl true) H'
section
variable {P : Program} {w : World} {K : PySem.W.Frag} {mg : Str → Option Value} {base : Heap}
theorem Zhl {f : Addr} {fd : FuncData} (F : YL K "_law_wide_right" "_law_wide_right" Zin f fd) (T : Bl mg) (GA : Fn P w K mg base ZL 4 "_law_all" ["_law_n", "_law_found", "_law_rows"] ZeW) (GW : Fn P w K mg base ZL 5 "widened_spread" ["n", "one", "m"] Zcv) : ZH P w K mg base ZL 6 f fd ["_law_n", "_law_one", "_law_m"] ZeL := by
 refine F.ok (FS (N := ["_law_n", "_law_one", "_law_m", "_law_rows", "_law_first", "_law_row", "_law_k"])) (fun vs H Q E h => ?_) (fun cdv A outer s H vs Q E hr h => ?_)
 ·obtain ⟨n, st, a, xss, rfl, _⟩ := h; rfl
 ·obtain ⟨n, st, a, xss, rfl, n1, st1, m60, X, h60, okx, q⟩ := h
  refine ⟨_, Zn (Zy 3 rfl (ZD Zl))
   (Zn (ZI PassesOwn.never rfl (itT K (vn 1)) (gn 4)
    (Zn (Zy 5 rfl (Zq Wc (ZD (pc Zp Zl)) (vn 2)))
    (Zn (ZI PassesOwn.never rfl (WI T.range (pc (cb (Z7 K) T.len (pc (vn 4) Zl)) Zl)) (gn 6)
     (Zo (Xn (ZN (Us K) (vn 4) (vn 6) (fun _ _ => rfl)) (Xo (vn 5) (Zq Z0 (vn 6) (Zq YD (vn 2) (vn 0))) Yr))))
    (Zo (YC (WZ PySem.F.plainAttrs_list PySem.F.slot_list_append PySem.F.type_list_append ZV (vn 3) (pc (vn 5) Zl)))))))
   (Zo (Zs (Yc GA hr Zu (pc (vn 2) (pc (Yc GW hr Zu (pc (vn 0) (pc (vn 1) (pc (vn 2) Zl)))) (pc (vn 3) Zl))))))), ?_⟩
  have sz : (16777216 : Nat) = sizeLine := by decide
  have nm : n ≤ n * st := Nat.le_mul_of_pos_right n st1
  have n60 : n ≤ 60 := by omega
  obtain ⟨G, _⟩ := N24.Vy n1 n60
  have tn := G.tn
  have t1 := G.t1
  have edv : n * st / n = st := Nat.mul_div_cancel_left st n1
  obtain ⟨rx, x1, x2, x3⟩ := id X
  have xl : ∀ i, i < xss.length → (xss.getD i []).length = N24.Z2 n := fun i hi => (okx _ (XN hi)).1
  have fits : ∀ i, i < N24.Z2 n → i * st < n * st := fun i hi => Nat.mul_lt_mul_of_pos_right (by omega) st1
  generalize hm : n * st = m at *
  have m1 : 1 ≤ m := by omega
  refine ⟨by decide, fun rw' nrw => ?_⟩
  have s2 := Same.upd (H := H) (o := .lst []) nrw
  refine ⟨_, rfl, a, rfl, ⟨_, .of (s2 _ _ x1)⟩, ?_⟩
  refine Xc (H0 := H) (Yn (K := K) (.of x1)) (fun i σ' H' => ∃ v4 v5 v6 : Option V, σ' = [some (.int (n : Nat)), some (.ref a), some (.int (m : Nat)), some (.ref rw'), v4, v5, v6] ∧ Same H H' ∧ Jq H' rw' i fun i => ZdG m st (xss.getD i []))
   ⟨_, _, _, rfl, s2, [], Zm, rfl, fun i c hc => by cases hc⟩ (fun i σ' H' h => by
    obtain ⟨_, _, _, _, sm, _⟩ := h
    exact sm) ?_ ?_
  ·rintro i y σ' H3 hy ⟨v4, v5, v6, rfl, s3, L3⟩
   rw [Zc] at hy
   cases e : rx[i]? with
   | none => rw [e] at hy; cases hy
   | some c =>
    rw [e] at hy
    cases hy
    have hi : i < xss.length := by rw [← x2]; exact (List.getElem?_eq_some_iff.mp e).1
    have hxl := xl i hi
    refine ⟨(by show 1 ≤ sizeLine; decide), fun l1 nl1 => ⟨_, rfl, l1, _, _, rfl, rfl, Zm, by omega, by omega, by show 1 * ((m : Int)).toNat ≤ sizeLine; omega, fun ro nro => ?_⟩⟩
    rw [Zj, N24.Wu]
    have hro0 : H3 ro = none := (Same.upd (H := H3) (o := .lst [.int 0]) nl1).free nro
    have s4 := (Same.upd (H := H3) (o := .lst [.int 0]) nl1).trans (Same.upd (o := .lst ((List.replicate m (0 : Int)).map V.int)) nro)
    have hro := Zm (H := upd H3 l1 (.lst [.int 0])) (a := ro) (o := .lst ((List.replicate m (0 : Int)).map V.int))
    generalize upd (upd H3 l1 (.lst [.int 0])) ro (.lst ((List.replicate m (0 : Int)).map V.int)) = H4 at s4 hro ⊢
    have hc := s3 _ _ (x3 i c e)
    obtain ⟨xs, hxs⟩ : ∃ xs, xss.getD i [] = xs := ⟨_, rfl⟩
    rw [hxs] at hxl hc
    refine ⟨_, rfl, c, _, rfl, .inr (.of (s4 _ _ hc)), _, rfl, by omega, by rw [Za]; omega, ?_⟩
    rw [Zj, Za]
    refine ZR (fun j σ' H' => ∃ (cur : List Int) (w6 : Option V), σ' = [some (.int (n : Nat)), some (.ref a), some (.int (m : Nat)), some (.ref rw'), some (.ref c), some (.ref ro), w6] ∧ Same H3 H' ∧ H' ro = some (.lst (cur.map V.int)) ∧ cur.length = m ∧ Num.UO st (xs.drop j) j cur = ZdG m st xs)
     ⟨_, _, rfl, s4, hro, List.length_replicate .., rfl⟩ ?_ ?_
    ·rintro j σ' H5 hj ⟨cur, w6, rfl, s5, h5, cl, ce⟩
     rw [show (0 : Int) + (j : Int) = (j : Int) by omega]
     have eD : (m : Int) / (n : Int) = ((st : Nat) : Int) := by rw [← edv]; push_cast; rfl
     have hlt := fits j (by omega)
     refine ⟨_, rfl, _, rfl, c, _, _, _, rfl, rfl, .of (s5 _ _ hc), N24.YE (by omega), _, rfl, _, rfl, _, rfl, _, rfl, _, _, rfl, rfl, ⟨by omega, by omega⟩, ?_⟩
     dsimp only
     rw [eD]
     refine ⟨_, _, rfl, rfl, .inl ⟨by omega, by omega⟩, ro, _, _, j * st, rfl, rfl, h5, ?_, ?_⟩
     ·rw [Za, cl]
      have : ((j : Int) * (st : Int)) = ((j * st : Nat) : Int) := by rw [Int.natCast_mul]
      rw [this]
      exact N24.YQ hlt
     ·refine ⟨cur.set (j * st) (Num.co xs j), _, rfl, s5.updr hro0, by rw [Zm, N24.YN], by rw [List.length_set]; exact cl, ?_⟩
      rw [← ce]
      have : xs.drop j = Num.co xs j :: xs.drop (j + 1) := by
       rw [List.drop_eq_getElem_cons (by omega)]
       congr 1
       have := Num.Z8 (a := xs) (i := j) (by omega)
       rw [Zf (by omega)] at this
       exact Option.some.inj this
      rw [this, Num.UO]
    ·rintro σ' H5 ⟨cur, w6, rfl, s5, h5, cl, ce⟩
     rw [List.drop_length, Num.UO] at ce
     subst ce
     obtain ⟨bs, b1, b2, b3⟩ := L3.mono s5
     refine ⟨_, rfl, .inl ⟨rfl, _, .of b1⟩, _, rfl, rw', _, _, rfl, rfl, b1, by rw [Za]; omega, _, _, _, rfl, (s3.trans s5).updr nrw, ?_⟩
     exact Jq.push b1 b2 b3 (by rw [hxs]; exact h5) fun i => Zb6 m1 (ZaQ _ _ _)
  ·rintro σ' H3 ⟨v4, v5, v6, rfl, s3, L3⟩
   rw [Za, x2] at L3
   refine ⟨_, rfl, _, rfl, _, rfl, _, rfl, n, m, a, xss, rfl, n1, nm, m60, X.mono s3, h60, fun xs hx => ⟨by rw [(okx xs hx).1]; exact t1, by rw [(okx xs hx).1]; omega⟩, fun r4 H4 s4 S4 => ?_⟩
   refine ⟨_, rfl, m, xss.length, r4, rw', fun i => ZdG m st (xss.getD i []), fun _ => [], _, rfl, m1, m60, h60, S4, WK _ _, by simpa only [List.append_nil] using L3.mono s4, fun i hi => ⟨ZaQ _ _ _, ?_⟩, fun H5 s5 => q H5 ((s3.trans s4).trans s5)⟩
   have hxl := xl i hi
   rw [WL hi]
   unfold ZdG N24.wid
   dsimp only
   rw [edv, Num.ZgQ (by omega) (by have := fits (N24.Z2 n - 1) (by omega); rw [hxl]; omega), Num.ZhB]
end
abbrev Ziw : Stmt := top 53
def ZeV (K : PySem.W.Frag) : Sp := fun vs H Q _ => ∃ (p a : Addr) (b : Nat) (xss : List (List Int)), vs = [.ref p, .ref a] ∧ Yb H p b ∧ b + 100 < 2 ^ 60 ∧ YV H a xss ∧ 1 ≤ xss.length ∧ xss.length ≤ 60 ∧ (∀ xs ∈ xss, 1 ≤ xs.length ∧ xs.length ≤ 60) ∧ ∀ x o H', Tk p H H' → Yb H' p (b + 4) → N24.Thg K H' x o → Q x H'
def Zkn (y : V) : Prop := (∃ i, y = .int i) ∨ (∃ c, y = .bl c) ∨ y = .str "1"
inductive XR (H : Hp) : V → Prop where
 | tup {a : Addr} {xs : List V} (h : H a = some (.tup xs)) (hl : xs.length ≤ 1000) (he : ∀ y ∈ xs, Zkn y) : XR H (.ref a)
 | lst {a : Addr} {xs : List V} (h : H a = some (.lst xs)) : XR H (.ref a)
 | non : XR H .non
 | int (i : Int) : XR H (.int i)
inductive Bth (H : Hp) : V → Prop where
 | tup {a : Addr} {xs : List V} (h : H a = some (.tup xs)) (hl : xs.length ≤ 200) (he : ∀ y ∈ xs, XR H y) : Bth H (.ref a)
 | lst {a : Addr} {xs : List V} (h : H a = some (.lst xs)) : Bth H (.ref a)
 | non : Bth H .non
theorem XR.tk {H H' : Hp} {p : Addr} {b : Nat} {x : V} (T : Yb H p b) (d : Tk p H H') (h : XR H x) : XR H' x := by
 cases h with
 | tup h hl he => exact .tup (d.tup T h) hl he
 | lst h => exact .lst (d.lst T h)
 | non => exact .non
 | int i => exact .int i
theorem XR.mono {H H' : Hp} {x : V} (s : Same H H') (h : XR H x) : XR H' x := by
 cases h with
 | tup h hl he => exact .tup (s _ _ h) hl he
 | lst h => exact .lst (s _ _ h)
 | non => exact .non
 | int i => exact .int i
theorem Bth.mono {H H' : Hp} {x : V} (s : Same H H') (h : Bth H x) : Bth H' x := by
 cases h with
 | tup h hl he => exact .tup (s _ _ h) hl fun y hy => (he y hy).mono s
 | lst h => exact .lst (s _ _ h)
 | non => exact .non
theorem Bth.tk {H H' : Hp} {p : Addr} {b : Nat} {x : V} (T : Yb H p b) (d : Tk p H H') (h : Bth H x) : Bth H' x := by
 cases h with
 | tup h hl he => exact .tup (d.tup T h) hl fun y hy => (he y hy).tk T d
 | lst h => exact .lst (d.lst T h)
 | non => exact .non
theorem Zh2 {K : PySem.W.Frag} {H : Hp} {y : V} (h : Zkn y) : N24.El K H y := by
 rcases h with ⟨i, rfl⟩ | ⟨c, rfl⟩ | rfl
 ·exact N24.Zgq i
 ·exact N24.Zlx c
 ·exact ⟨"str", .str "1", ⟨.str _, by decide⟩, .str _, by decide +kernel, by decide +kernel⟩
theorem XR.th {K : PySem.W.Frag} {H : Hp} {x : V} (h : XR H x) : ∃ o, N24.Th K H x o := by
 cases h with
 | tup h hl he => exact ⟨_, .tup h hl fun y hy => Zh2 (he y hy)⟩
 | lst h => exact ⟨_, .other (n := "list") ⟨.lst h, by decide⟩ (by decide)⟩
 | non => exact ⟨_, .other (n := "NoneType") ⟨.non, by decide⟩ (by decide)⟩
 | int i => exact ⟨_, .other (n := "int") ⟨.int i, by decide⟩ (by decide)⟩
theorem Bth.thg {K : PySem.W.Frag} {H : Hp} {x : V} (h : Bth H x) : ∃ o, N24.Thg K H x o := by
 cases h with
 | tup h hl he =>
  obtain ⟨os, hos⟩ := N24.Ths.ex (K := K) (H := H) fun x hx => (he x hx).th
  exact ⟨_, .tup h hl hos⟩
 | lst h => exact ⟨_, .other (n := "list") ⟨.lst h, by decide⟩ (by decide)⟩
 | non => exact ⟨_, .other (n := "NoneType") ⟨.non, by decide⟩ (by decide)⟩
theorem YU {xs : List V} {lo hi : Option Int} {y : V} (h : y ∈ W1 xs lo hi) : y ∈ xs := List.mem_of_mem_drop (List.mem_of_mem_take h)
theorem Y3 {xs : List Int} {y : V} (h : y ∈ xs.map V.int) : Zkn y := by
 obtain ⟨i, _, rfl⟩ := List.mem_map.mp h
 exact .inl ⟨i, rfl⟩
theorem XR.ne {H : Hp} {x : V} {d : Addr} (h : XR H x) (n : H d = none) : x ≠ .ref d := fun z => by
 cases h with
 | tup h => cases z; rw [h] at n; cases n
 | lst h => cases z; rw [h] at n; cases n
 | non => cases z
 | int i => cases z
theorem XR.upd {H : Hp} {x : V} {d : Addr} {o : HO} (h : XR H x) (n : x ≠ .ref d) : XR (L2.upd H d o) x := by
 cases h with
 | tup h hl he => exact .tup (by rw [Zt fun z => n (by rw [z])]; exact h) hl he
 | lst h => exact .lst (by rw [Zt fun z => n (by rw [z])]; exact h)
 | non => exact .non
 | int i => exact .int i
def SpS (H : Hp) (a : Addr) (ys : List V) : Prop := H a = some (.tup ys) ∧ ys.length ≤ 60 ∧ ∀ y ∈ ys, XR H y
theorem SpS.mono {H H' : Hp} {a : Addr} {ys : List V} (s : Same H H') (h : SpS H a ys) : SpS H' a ys := ⟨s _ _ h.1, h.2.1, fun y hy => (h.2.2 y hy).mono s⟩
theorem SpS.tk {H H' : Hp} {p a : Addr} {b : Nat} {ys : List V} (T : Yb H p b) (d : Tk p H H') (h : SpS H a ys) : SpS H' a ys := ⟨d.tup T h.1, h.2.1, fun y hy => (h.2.2 y hy).tk T d⟩
theorem SpS.of {H : Hp} {a : Addr} {xss : List (List Int)} (X : YV H a xss) (l : xss.length ≤ 60) (hx : ∀ xs ∈ xss, 1 ≤ xs.length ∧ xs.length ≤ 60) : ∃ ys, SpS H a ys ∧ ys.length = xss.length := by
 obtain ⟨rs, x1, x2, x3⟩ := X
 refine ⟨_, ⟨x1, by rw [Za]; omega, fun y hy => ?_⟩, by rw [Za]; exact x2⟩
 obtain ⟨i, hi, rfl⟩ := List.getElem_of_mem hy
 rw [Za] at hi
 rw [List.getElem_map]
 exact .tup (x3 i _ (Zf hi)) (by rw [Za]; have := (hx _ (XN (i := i) (by omega))).2; omega) fun y hy => Y3 hy
section
variable {P : Program} {w : World} {K : PySem.W.Frag} {mg : Str → Option Value} {base : Heap}
theorem Zhx {f : Addr} {fd : FuncData} (F : YL K "_law_bent" "_law_bent" Ziw f fd) (T : Bl mg) (GP : Fn P w K mg base ZL 1 "_law_pick" ["_law_tape_here", "_law_many"] Xl) : ZH P w K mg base ZL 2 f fd ["_law_tape_here", "_law_spread_here"] (ZeV K) := by
 refine F.ok (FS (N := ["_law_tape_here", "_law_spread_here", "_law_at", "_law_number", "_law_j", "_law_odd", "_law_bent_here", "_law_ways"])) (fun vs H Q E h => ?_) (fun cdv A outer s H vs Q E hr h => ?_)
 ·obtain ⟨p, a, b, xss, rfl, _⟩ := h; rfl
 ·obtain ⟨p, a, b, xss, rfl, T0, hb, X, l1, l60, hx, q⟩ := h
  refine ⟨_, QSs.out (Ys ⟨Zy 2 rfl (Yc GP hr Zu (pc (vn 0) (pc (cb (Z7 K) T.len (pc (vn 1) Zl)) Zl)))⟩
   (Ys ⟨Zy 3 rfl (ZN (Us K) (vn 1) (vn 2) (fun _ _ => rfl))⟩
   (Ys ⟨Zy 4 rfl (Yc GP hr Zu (pc (vn 0) (pc (cb (Z7 K) T.len (pc (vn 3) Zl)) Zl)))⟩
   (Ys ⟨Zy 5 rfl (ZD (pc (Zq WA (vn 3) (Ja (pc Zp Zl))) (pc (ZW Wg (vn 3) Yp (Yo (W9 Wq Zp))) (pc (ct ZZ T.list (pc (vn 3) Zl)) (pc Zfq
     (pc (Zq WA (Zq WA (ZW Wg (vn 3) Yp (Yo (vn 4))) (Ja (pc YH Zl))) (ZW Wg (vn 3) (Yo (Zq ZO (vn 4) Zp)) Yp)) (pc Zp Zl)))))))⟩
   (Ys ⟨YC (WZ PySem.F.plainAttrs_list PySem.F.slot_list_append PySem.F.type_list_append ZV (vn 5) (pc (Zq WA (Zq WA (ZW Wg (vn 3) Yp (Yo (vn 4))) (Ja (pc Wx Zl))) (ZW Wg (vn 3) (Yo (Zq ZO (vn 4) Zp)) Yp)) Zl))⟩
   (Ys ⟨Zy 6 rfl (Zq WA (Zq WA (ZW Wg (vn 1) Yp (Yo (vn 2))) (Ja (pc (ZN (ixL K) (vn 5) (Yc GP hr Zu (pc (vn 0) (pc Zp Zl))) (fun _ _ => rfl)) Zl))) (ZW Wg (vn 1) (Yo (Zq ZO (vn 2) Zp)) Yp))⟩
   (Ys ⟨Zy 7 rfl (ZD (pc (vn 6) (pc (vn 6) (pc (vn 6) (pc (ZW Wg (vn 1) Yp (Yo (W9 Wq Zp))) (pc (Zq WA (vn 1) (ZW Wg (vn 1) Yp (Yo Zp))) (pc (ct ZZ T.list (pc (vn 1) Zl)) (pc (Ja Zl) (pc Zfq Zl)))))))))⟩
   ⟨Zo (Zs (ZN (ixL K) (vn 7) (Yc GP hr Zu (pc (vn 0) (pc Zp Zl))) (fun _ _ => rfl)))⟩))))))), ?_⟩
  have sz : (16777216 : Nat) = sizeLine := by decide
  obtain ⟨rs, x1, x2, x3⟩ := id X
  have rl : (rs.map V.ref).length = xss.length := by rw [Za, x2]
  refine ⟨_, rfl, _, rfl, a, _, rfl, .inr (.of x1), p, _, b, rfl, T0, by omega, by rw [rl]; omega, by rw [rl]; omega, fun r H1 a0 a1 k1 T1 => ?_⟩
  rw [rl] at a1
  obtain ⟨i, rfl⟩ := Int.eq_ofNat_of_zero_le a0
  have hi : i < xss.length := by omega
  have X1 := X.tk T0 k1
  have x1' := k1.tup T0 x1
  have hir : i < rs.length := by omega
  have ai : VU (rs.map V.ref) (i : Int) = some (.ref rs[i]) := YG (by rw [Zc, Zf hir]; rfl)
  refine ⟨_, rfl, _, rfl, a, _, _, _, rfl, rfl, .of x1', ai, ?_⟩
  have hc := k1.tup T0 (x3 i _ (Zf hir))
  obtain ⟨n1, n60⟩ := hx _ (XN hi)
  generalize xss.getD i [] = xs at hc n1 n60
  generalize rs[i] = c at hc ⊢
  refine ⟨_, rfl, _, rfl, c, _, rfl, .inr (.of hc), p, _, b + 1, rfl, T1, by omega, by rw [Za]; omega, by rw [Za]; omega, fun r2 H2 c0 c1 k2 T2 => ?_⟩
  rw [Za] at c1
  obtain ⟨j, rfl⟩ := Int.eq_ofNat_of_zero_le c0
  have X2 := X1.tk T1 k2
  have x1'' := k2.tup T1 x1'
  have hc2 := k2.tup T1 hc
  have ll : ∀ lo hi, (W1 (xs.map V.int) lo hi).length ≤ 60 := fun lo hi => Nat.le_trans (Wb _ _ _) (by rw [Za]; exact n60)
  refine ⟨_, rfl, (by show 1 ≤ sizeLine; decide), fun q1 nq1 => ⟨c, q1, _, _, rfl, rfl, Same.upd nq1 _ _ hc2, Zm, by rw [Za, Zk]; omega, fun o1 H3 s3 h3 => ?_⟩⟩
  have s23 := (Same.upd (H := H2) (o := .tup [.int 0]) nq1).trans s3
  have t1 : XR H3 (.ref o1) := .tup h3 (by rw [Zd, Za, Zk]; omega) fun y hy => by
   rcases List.mem_append.mp hy with h | h
   ·exact Y3 h
   ·rw [List.mem_singleton.mp h]; exact .inl ⟨0, rfl⟩
  clear h3
  refine ⟨_, rfl, _, rfl, _, rfl, c, _, rfl, s23 _ _ hc2, fun o2 H4 s4 h4 => ?_⟩
  have s24 := s23.trans s4
  have t1 := t1.mono s4
  have t2 : XR H4 (.ref o2) := .tup h4 (Nat.le_trans (ll _ _) (by decide)) fun y hy => Y3 (YU hy)
  clear h4 s23 s3 s4 nq1
  refine ⟨_, rfl, c, _, rfl, .inr (.of (s24 _ _ hc2)), fun o3 no3 => ?_⟩
  have s5 := Same.upd (H := H4) (o := .lst (xs.map V.int)) no3
  have t3 : XR (upd H4 o3 (.lst (xs.map V.int))) (.ref o3) := .lst Zm
  have t1 := t1.mono s5
  have t2 := t2.mono s5
  have s25 := s24.trans s5
  generalize upd H4 o3 (.lst (xs.map V.int)) = H5 at s25 t1 t2 t3 ⊢
  refine ⟨_, rfl, _, rfl, _, rfl, c, _, rfl, s25 _ _ hc2, fun u1 H6 s6 h6 => ⟨(by show 1 ≤ sizeLine; decide), fun u2 nu2 => ⟨u1, u2, _, _, rfl, rfl, Same.upd nu2 _ _ h6, Zm, by have := ll none (some (j : Int)); rw [Zk]; omega, fun u3 H7 s7 h7 => ?_⟩⟩⟩
  have s27 := (s25.trans s6).trans ((Same.upd (o := .tup [.bl true]) nu2).trans s7)
  have s57 := s6.trans ((Same.upd (o := .tup [.bl true]) nu2).trans s7)
  refine ⟨_, rfl, _, rfl, _, _, rfl, rfl, _, rfl, c, _, rfl, s27 _ _ hc2, fun u4 H8 s8 h8 => ⟨u3, u4, _, _, rfl, rfl, s8 _ _ h7, h8, by have e1 := ll none (some (j : Int)); have e2 := ll (some ((j : Int) + 1)) none; rw [Zd, Zk]; omega, fun o5 H9 s9 h9 => ?_⟩⟩
  have t5 : XR H9 (.ref o5) := .tup h9 (by have e1 := ll none (some (j : Int)); have e2 := ll (some ((j : Int) + 1)) none; rw [Zd, Zd, Zk]; omega) fun y hy => by
   rcases List.mem_append.mp hy with h | h
   ·rcases List.mem_append.mp h with h | h
    ·exact Y3 (YU h)
    ·rw [List.mem_singleton.mp h]; exact .inr (.inl ⟨true, rfl⟩)
   ·exact Y3 (YU h)
  have s59 := (s57.trans s8).trans s9
  have t1 := t1.mono s59
  have t2 := t2.mono s59
  have t3 := t3.mono s59
  have s29 := s25.trans s59
  refine ⟨(by show 6 ≤ sizeLine; decide), fun od nod => ?_⟩
  have nod2 : H2 od = none := s29.free nod
  have ne1 := t1.ne nod
  have ne2 := t2.ne nod
  have ne3 := t3.ne nod
  have ne5 := t5.ne nod
  have s10 := Same.upd (H := H9) (o := .lst [.ref o1, .ref o2, .ref o3, .non, .ref o5, .int 0]) nod
  have t1 := t1.mono s10
  have t2 := t2.mono s10
  have t3 := t3.mono s10
  have t5 := t5.mono s10
  have s2a := s29.trans s10
  have hod := Zm (H := H9) (a := od) (o := .lst [.ref o1, .ref o2, .ref o3, .non, .ref o5, .int 0])
  generalize upd H9 od (.lst [.ref o1, .ref o2, .ref o3, .non, .ref o5, .int 0]) = Ha at s2a t1 t2 t3 t5 hod ⊢
  clear s10 s29 s59 s57 s27 s25 s24 s9 h9 s8 h8 s7 h7 s6 h6
  refine ⟨_, rfl, .inl ⟨rfl, _, .of hod⟩, ?_⟩
  refine ⟨_, rfl, _, rfl, _, rfl, c, _, rfl, s2a _ _ hc2, fun u1 H6 s6 h6 => ⟨(by show 1 ≤ sizeLine; decide), fun u2 nu2 => ⟨u1, u2, _, _, rfl, rfl, Same.upd nu2 _ _ h6, Zm, by have := ll none (some (j : Int)); rw [Zk]; omega, fun u3 H7 s7 h7 => ?_⟩⟩⟩
  have sa7 := s6.trans ((Same.upd (o := .tup [.str "1"]) nu2).trans s7)
  refine ⟨_, rfl, _, rfl, _, _, rfl, rfl, _, rfl, c, _, rfl, sa7 _ _ (s2a _ _ hc2), fun u4 H8 s8 h8 => ⟨u3, u4, _, _, rfl, rfl, s8 _ _ h7, h8, by have e1 := ll none (some (j : Int)); have e2 := ll (some ((j : Int) + 1)) none; rw [Zd, Zk]; omega, fun o7 Hb sb hb7 => ?_⟩⟩
  have t7 : XR Hb (.ref o7) := .tup hb7 (by have e1 := ll none (some (j : Int)); have e2 := ll (some ((j : Int) + 1)) none; rw [Zd, Zd, Zk]; omega) fun y hy => by
   rcases List.mem_append.mp hy with h | h
   ·rcases List.mem_append.mp h with h | h
    ·exact Y3 (YU h)
    ·rw [List.mem_singleton.mp h]; exact .inr (.inr rfl)
   ·exact Y3 (YU h)
  have sab := (sa7.trans s8).trans sb
  have hodb := sab _ _ hod
  have ne7 : V.ref o7 ≠ .ref od := fun z => by
   injection z with z
   rw [z, hodb] at hb7
   cases hb7
  have s2c : Same H2 (upd Hb od (.lst [.ref o1, .ref o2, .ref o3, .non, .ref o5, .int 0, .ref o7])) := (s2a.trans sab).updr nod2
  have hodc := Zm (H := Hb) (a := od) (o := .lst [.ref o1, .ref o2, .ref o3, .non, .ref o5, .int 0, .ref o7])
  have hall : ∀ y ∈ [V.ref o1, .ref o2, .ref o3, .non, .ref o5, .int 0, .ref o7], XR (upd Hb od (.lst [.ref o1, .ref o2, .ref o3, .non, .ref o5, .int 0, .ref o7])) y := fun y hy => by
   simp only [List.mem_cons, List.not_mem_nil, or_false] at hy
   rcases hy with rfl | rfl | rfl | rfl | rfl | rfl | rfl
   ·exact (t1.mono sab).upd ne1
   ·exact (t2.mono sab).upd ne2
   ·exact (t3.mono sab).upd ne3
   ·exact .non
   ·exact (t5.mono sab).upd ne5
   ·exact .int 0
   ·exact t7.upd ne7
  refine ⟨od, _, _, rfl, rfl, hodb, (by show 6 < sizeLine; decide), ?_⟩
  show _
  generalize hL : [V.ref o1, .ref o2, .ref o3, .non, .ref o5, .int 0, .ref o7] = ol at hall s2c hodc
  have hLl : ol.length = 7 := by rw [← hL]; rfl
  have hgo : upd Hb od (.lst ([V.ref o1, .ref o2, .ref o3, .non, .ref o5, .int 0] ++ [.ref o7])) = upd Hb od (.lst ol) := by rw [← hL]; rfl
  rw [hgo]
  generalize upd Hb od (.lst ol) = Hc at hall s2c hodc ⊢
  obtain ⟨ys, S2, yl⟩ := SpS.of X2 l60 hx
  have Sc := S2.mono s2c
  have Tc := T2.mono s2c
  clear t1 t2 t3 t5 t7 ne1 ne2 ne3 ne5 ne7 hgo hL hodb hod hb7 sab sb h8 s8 sa7 h7 s7 nu2 h6 s6 s2a
  have lly : ∀ lo hi, (W1 ys lo hi).length ≤ 60 := fun lo hi => Nat.le_trans (Wb _ _ _) S2.2.1
  refine ⟨_, rfl, _, rfl, _, rfl, a, _, rfl, Sc.1, fun v1 Hd sd hd => ?_⟩
  have Sd := Sc.mono sd
  have Td := Tc.mono sd
  refine ⟨_, rfl, _, rfl, p, 7, _, rfl, Td, by omega, by decide, by decide, fun r3 He g0 g1 ke Te => ?_⟩
  obtain ⟨v, hv, hm⟩ := ZiH (xs := ol) g0 (by rw [hLl]; exact g1)
  have hode := ke.lst Td (sd _ _ hodc)
  have tv := ((hall v hm).mono sd).tk Td ke
  have Se := Sd.tk Td ke
  have hde := ke.tup Td hd
  refine ⟨od, _, _, v, rfl, rfl, .of hode, hv, (by show 1 ≤ sizeLine; decide), fun v2 nv2 => ⟨v1, v2, _, _, rfl, rfl, Same.upd nv2 _ _ hde, Zm, by have := lly none (some (i : Int)); rw [Zk]; omega, fun v3 Hf sf hf => ?_⟩⟩
  have sef := (Same.upd (H := He) (o := .tup [v]) nv2).trans sf
  have Sf := Se.mono sef
  refine ⟨_, rfl, _, rfl, _, _, rfl, rfl, _, rfl, a, _, rfl, Sf.1, fun v4 Hg sg hg => ⟨v3, v4, _, _, rfl, rfl, sg _ _ hf, hg, by have e1 := lly none (some (i : Int)); have e2 := lly (some ((i : Int) + 1)) none; rw [Zd, Zk]; omega, fun bt Hh sh hh => ?_⟩⟩
  have seh := (sef.trans sg).trans sh
  have Sh := Se.mono seh
  have Th' := Te.mono seh
  have bbt : Bth Hh (.ref bt) := .tup hh (by have e1 := lly none (some (i : Int)); have e2 := lly (some ((i : Int) + 1)) none; rw [Zd, Zd, Zk]; omega) fun y hy => by
   rcases List.mem_append.mp hy with h | h
   ·rcases List.mem_append.mp h with h | h
    ·exact Sh.2.2 y (YU h)
    ·rw [List.mem_singleton.mp h]; exact tv.mono seh
   ·exact Sh.2.2 y (YU h)
  refine ⟨_, rfl, _, rfl, _, rfl, _, rfl, _, rfl, _, rfl, a, _, rfl, Sh.1, fun w1 Hi si hi1 => ?_⟩
  have b1 : Bth Hi (.ref w1) := .tup hi1 (Nat.le_trans (lly _ _) (by decide)) fun y hy => (Sh.2.2 y (YU hy)).mono si
  have Si := Sh.mono si
  refine ⟨_, rfl, _, rfl, _, rfl, a, _, rfl, Si.1, fun w2 Hj sj hj => ⟨a, w2, _, _, rfl, rfl, sj _ _ Si.1, hj, by have e1 := lly none (some 1); have e2 := S2.2.1; omega, fun w3 Hk sk hk => ?_⟩⟩
  have sik := sj.trans sk
  have Sk := Si.mono sik
  have b3 : Bth Hk (.ref w3) := .tup hk (by have e1 := lly none (some 1); have e2 := S2.2.1; rw [Zd]; omega) fun y hy => by
   rcases List.mem_append.mp hy with h | h
   ·exact Sk.2.2 y h
   ·exact Sk.2.2 y (YU h)
  refine ⟨_, rfl, a, _, rfl, .inr (.of Sk.1), fun w4 nw4 => ?_⟩
  have sl := Same.upd (H := Hk) (o := .lst ys) nw4
  have b4 : Bth (L2.upd Hk w4 (.lst ys)) (.ref w4) := .lst Zm
  have shl := (si.trans sik).trans sl
  have bbt := bbt.mono shl
  have b1 := b1.mono (sik.trans sl)
  have b3 := b3.mono sl
  have Tl := Th'.mono shl
  generalize upd Hk w4 (.lst ys) = Hl at b1 b3 b4 bbt Tl shl ⊢
  refine ⟨(by show 0 ≤ sizeLine; decide), fun w5 nw5 => ?_⟩
  have sm := Same.upd (H := Hl) (o := .tup []) nw5
  have b5 : Bth (L2.upd Hl w5 (.tup [])) (.ref w5) := .tup Zm (by decide) fun y hy => by cases hy
  refine ⟨(by show 8 ≤ sizeLine; decide), fun wy nwy => ?_⟩
  have sn := sm.trans (Same.upd (o := .lst [.ref bt, .ref bt, .ref bt, .ref w1, .ref w3, .ref w4, .ref w5, .non]) nwy)
  have b5 := b5.mono (Same.upd (o := .lst [.ref bt, .ref bt, .ref bt, .ref w1, .ref w3, .ref w4, .ref w5, .non]) nwy)
  have hwy := Zm (H := L2.upd Hl w5 (.tup [])) (a := wy) (o := .lst [.ref bt, .ref bt, .ref bt, .ref w1, .ref w3, .ref w4, .ref w5, .non])
  have ball : ∀ y ∈ [V.ref bt, .ref bt, .ref bt, .ref w1, .ref w3, .ref w4, .ref w5, .non], Bth (L2.upd (L2.upd Hl w5 (.tup [])) wy (.lst [.ref bt, .ref bt, .ref bt, .ref w1, .ref w3, .ref w4, .ref w5, .non])) y := fun y hy => by
   simp only [List.mem_cons, List.not_mem_nil, or_false] at hy
   rcases hy with rfl | rfl | rfl | rfl | rfl | rfl | rfl | rfl
   ·exact bbt.mono sn
   ·exact bbt.mono sn
   ·exact bbt.mono sn
   ·exact b1.mono sn
   ·exact b3.mono sn
   ·exact b4.mono sn
   ·exact b5
   ·exact .non
  have Tm := Tl.mono sn
  have sho := shl.trans sn
  generalize L2.upd (L2.upd Hl w5 (.tup [])) wy (.lst [.ref bt, .ref bt, .ref bt, .ref w1, .ref w3, .ref w4, .ref w5, .non]) = Ho at ball hwy Tm sho ⊢
  refine ⟨_, rfl, _, rfl, p, 8, _, rfl, Tm, by omega, by decide, by decide, fun r4 Hp g0 g1 kp Tp => ?_⟩
  obtain ⟨z, hz, hzm⟩ := ZiH (xs := [V.ref bt, .ref bt, .ref bt, .ref w1, .ref w3, .ref w4, .ref w5, .non]) g0 g1
  refine ⟨wy, _, _, z, rfl, rfl, .of (kp.lst Tm hwy), hz, ?_⟩
  obtain ⟨o, ho⟩ := ((ball z hzm).tk Tm kp).thg (K := K)
  refine q z o Hp ?_ Tp ho
  exact ((k1.trans k2).trans (Tk.of (s2c.trans sd))).trans (ke.trans ((Tk.of (seh.trans sho)).trans kp))
end
structure BlM (mg : Str → Option Value) : Prop where
 min : mg "min" = none
def ZcF (K : PySem.W.Frag) : Sp := fun vs H Q _ => ∃ (a : Addr) (ns : List Int), vs = [.ref a] ∧ Wp K H a (ns.map V.int) ∧ ns.length ≤ 63 ∧ ∀ H', Q (.bl true) H'
theorem WR {p : Addr} {H H1 H2 : Hp} (s : Same H H1) (np : H p = none) (k : Tk p H1 H2) : Same H H2 := fun b o e => k b o (s b o e) fun z => by rw [z, np] at e; cases e
theorem GT.tk {H H' : Hp} {p g : Addr} {b : Nat} {t : List (List Nat)} (T : Yb H p b) (d : Tk p H H') (G : GT H g t) : GT H' g t := by
 obtain ⟨rs, h1, h2, h3⟩ := G
 refine ⟨rs, d.tup T h1, h2, fun i r hr => ?_⟩
 obtain ⟨o, e1, e2⟩ := h3 i r hr
 exact ⟨o, d _ _ e1 (T.ne e1 fun _ z => by cases z), e2⟩
theorem ZhZ {t : List (List Nat)} (P : PW t) : 1 ≤ (Z1 t t.length).length := by
 have h := VL P t.length (Nat.le_refl _) 0 P.n1
 cases e : Z1 t t.length with
 | nil => rw [e] at h; cases h
 | cons a r => rw [Zi]; omega
def dS (xss : List (List Int)) : PyData := .tuple (xss.map fun xs => PyData.tuple (xs.map PyData.int))
theorem ZcX {K : PySem.W.Frag} {H : Hp} {a : Addr} {xss : List (List Int)} (X : YV H a xss) : Xj K H (.ref a) (dS xss) := by
 obtain ⟨rs, h1, h2, h3⟩ := X
 refine .tup (.of h1) ?_
 clear h1
 induction rs generalizing xss with
 | nil =>
  cases xss with
  | nil => exact .nil
  | cons x r => cases h2
 | cons r rs ih =>
  cases xss with
  | nil => cases h2
  | cons x xss => exact .cons (.tup (.of (h3 0 r rfl)) (RdDs.ints x)) (ih (Nat.succ.inj h2) fun i b hb => h3 (i + 1) b hb)
theorem ZeX {n : Nat} {xss : List (List Int)} (h60 : xss.length ≤ 60) (t60 : N24.Z2 n ≤ 60) (ok : V4 n xss) : Sml 2 (60 * (60 * (0 + 1) + 1)) (dS xss) := by
 refine Sml.tup (n := 60) (by rw [Za]; exact h60) fun d hd => ?_
 obtain ⟨xs, hx, rfl⟩ := List.mem_map.mp hd
 obtain ⟨o1, o2⟩ := ok xs hx
 refine Sml.tup (n := 60) (by rw [Za, o1]; exact t60) fun d hd => ?_
 obtain ⟨x, hxx, rfl⟩ := List.mem_map.mp hd
 refine ZgS ?_
 have := o2 x hxx
 have l : (2 : Nat) ^ 64 ≤ 2 ^ 200 := by decide +kernel
 omega
theorem Zgk {n : Nat} {xss yss : List (List Int)} (x60 : xss.length ≤ 60) (y60 : yss.length ≤ 60) (t60 : N24.Z2 n ≤ 60) (okx : V4 n xss) (oky : V4 n yss) : Zh7 (.tuple [dS xss, dS yss]) := by
 have := Sml.tup (n := 2) (ds := [dS xss, dS yss]) (Nat.le_refl 2) fun d hd => by
  simp only [List.mem_cons, List.not_mem_nil, or_false] at hd
  rcases hd with rfl | rfl
  ·exact ZeX x60 t60 okx
  ·exact ZeX y60 t60 oky
 exact this.fit (by decide) (by decide)
theorem ZiW {K : PySem.W.Frag} {H : Hp} {a : Addr} {xss : List (List Int)} (X : YV H a xss) (h60 : xss.length ≤ 60) (hl : ∀ xs ∈ xss, xs.length ≤ 60) : N24.Thg K H (.ref a) (some (xss.map fun xs => some (xs.map V.int))) := by
 obtain ⟨rs, h1, h2, h3⟩ := X
 refine .tup h1 (by rw [Za]; omega) ?_
 clear h1 h60
 induction rs generalizing xss with
 | nil =>
  cases xss with
  | nil => exact .nil
  | cons x r => cases h2
 | cons r rs ih =>
  cases xss with
  | nil => cases h2
  | cons x xss =>
   refine .cons (.tup (h3 0 r rfl) (by rw [Za]; have := hl x List.mem_cons_self; omega) N24.Zah) (ih (fun xs hx => hl xs (List.mem_cons_of_mem _ hx)) (Nat.succ.inj h2) fun i b hb => h3 (i + 1) b hb)
theorem Zi3 {n : Nat} {xss : List (List Int)} (ht : (N24.Z2 n : Int) = N24.YX n) (ok : V4 n xss) : N24.spB xss.length n (some (xss.map fun xs => some (xs.map V.int))) = true := by
 rw [N24.W7, Za, decide_eq_true rfl, Bool.true_and, List.all_map, List.all_eq_true]
 intro xs hx
 show N24.JH (some (xs.map V.int)) (N24.YX n) = true
 rw [N24.Wn, Za, (ok xs hx).1, decide_eq_true ht, Bool.true_and, List.all_map, List.all_eq_true]
 intro x _
 rfl
section
variable {P : Program} {w : World} {K : PySem.W.Frag} {mg : Str → Option Value} {base : Heap}
theorem Zju {f : Addr} {fd : FuncData} (F : YL K "law" "law" ZkS f fd) (T : Bl mg) (TM : BlM mg) (GT0 : Fn P w K mg base ZL 1 "_law_tape" ["_law_script", "_law_at"] (ZeM K)) (GK : Fn P w K mg base ZL 1 "_law_pick" ["_law_tape_here", "_law_many"] Xl) (GG : Fn P w K mg base ZL 3 "_law_group" ["_law_tape_here", "_law_great"] ZcG) (GL : Fn P w K mg base ZL 3 "_law_classes" ["_law_group_here"] ZeU) (GR : Fn P w K mg base ZL 2 "_law_round" ["_law_group_here"] ZaG) (GS : Fn P w K mg base ZL 3 "_law_spread" ["_law_tape_here", "_law_many", "_law_n"] ZaE)
  (GI : Fn P w K mg base ZL 6 "is_spread" ["group", "n", "thing"] (Vd K)) (GSu : Fn P w K mg base ZL 7 "_law_sums_right" ["_law_n", "_law_one", "_law_other", "_law_k"] ZeN) (GW : Fn P w K mg base ZL 6 "_law_wide_right" ["_law_n", "_law_one", "_law_m"] ZeL) (GB : Fn P w K mg base ZL 2 "_law_bent" ["_law_tape_here", "_law_spread_here"] (ZeV K)) (GIL : Fn P w K mg base ZL 3 "_law_is_spread" ["_law_many", "_law_n", "_law_thing"] (N24.ZeQ K)) :
  ZH P w K mg base ZL 8 f fd ["_law_script"] (ZcF K) := by
 refine F.ok (FS (N := ["_law_script", "_law_k", "_law_tape_here", "_law_group_here", "_law_many", "_law_n", "_law_one", "_law_other", "_law_kept", "_law_great", "_law_turn", "_law_bent_here", "_law_found"])) (fun vs H Q E h => ?_) (fun cdv A outer s H vs Q E hr h => ?_)
 ·obtain ⟨a, ns, rfl, _⟩ := h; rfl
 ·obtain ⟨a, ns, rfl, hS, hlen, q⟩ := h
  refine ⟨_, Zn (ZI PassesOwn.never rfl (WI T.range (pc (Zq ZO Zp (cb (Z7 K) T.len (pc (ZW JW (vn 0) Yp (Yo Zp)) Zl))) Zl)) (gn 1)
    (Zn (Zy 2 rfl (Yc GT0 hr Zu (pc (vn 0) (pc (vn 1) Zl))))
    (Zn (Zy 3 rfl (Yc GG hr Zu (pc (vn 2) (pc (J4 Zc2 (vn 1) Zp (ZB _)) Zl))))
    (Zn (Zy 4 rfl (cb (Z7 K) T.len (pc (Yc GL hr Zu (pc (vn 3) Zl)) Zl)))
    (Zn (Zy 5 rfl (Yc GR hr Zu (pc (vn 3) Zl)))
    (Zn (Zy 5 rfl (Zq Z0 (vn 5) (Zq ZO Zp (Yc GK hr Zu (pc (vn 2) (pc (cb (Zeq rfl) TM.min (pc Zp (pc (Zq YD Zp (vn 5)) Zl))) Zl))))))
    (Zn (Zy 6 rfl (Yc GS hr Zu (pc (vn 2) (pc (vn 4) (pc (vn 5) Zl)))))
    (Zn (Zy 7 rfl (Yc GS hr Zu (pc (vn 2) (pc (vn 4) (pc (vn 5) Zl)))))
    (Zn (Zy 8 rfl (cb (Ziy K hr) T.repr (pc (Ja (pc (vn 6) (pc (vn 7) Zl))) Zl)))
    (Zn (Z4 (Zx ZdN (Yc GI hr Zu (pc (vn 3) (pc (vn 5) (pc (vn 6) Zl)))) YH (ZB _)) (Zo (Zs YH)) ZC)
    (Zn (Z4 (Y0 (Yw (Yc GSu hr Zu (pc (vn 5) (pc (vn 6) (pc (vn 7) (pc (Zq Yl (Yc GK hr Zu (pc (vn 2) (pc Zp Zl))) Zp) Zl))))))) (Zo (Zs YH)) ZC)
    (Zn (Zy 9 rfl (Zq Z0 (vn 5) (Zq ZO Zp (Yc GK hr Zu (pc (vn 2) (pc (Zq YD Zp (vn 5)) Zl))))))
    (Zn (Z4 (JD (Y0 (Yw (Yc GW hr Zu (pc (vn 5) (pc (vn 6) (pc (vn 9) Zl)))))) (WS (Zx WJ (cb (Ziy K hr) T.repr (pc (Ja (pc (vn 6) (pc (vn 7) Zl))) Zl)) (vn 8) (ZB _)))).pt (Zo (Zs YH)) ZC)
    (Zo (ZI PassesOwn.never rfl (WI T.range (pc Zp Zl)) (gn 10)
     (Zn (Zy 11 rfl (Yc GB hr Zu (pc (vn 2) (pc (vn 6) Zl))))
     (Zn (Zy 12 rfl (Yc GI hr Zu (pc (vn 3) (pc (vn 5) (pc (vn 11) Zl)))))
     (Zo (Z4 (JD (Y0 (Yw (cb (Vx K "bool") T.isi (pc (vn 12) (pc (tyv "bool" T.bool) Zl))))) (WS (Zx WJ (vn 12) (Yc GIL hr Zu (pc (vn 4) (pc (vn 5) (pc (vn 11) Zl)))) (ZB _)))).pt (Zo (Zs YH)) ZC)))))))))))))))))))
   (Zo (Zs YH)), ?_⟩
  have sz : (16777216 : Nat) = sizeLine := by decide
  refine ⟨_, rfl, _, rfl, a, _, rfl, hS, fun l0 nl0 => ⟨l0, _, rfl, .inl (.of Zm), _, _, rfl, rfl, _, rfl, ?_, ?_, ?_⟩⟩
  ·omega
  ·have := Wb (ns.map V.int) none (some 2)
   rw [Za] at this
   omega
  have s0 := Same.upd (H := H) (o := .lst (W1 (ns.map V.int) none (some 2))) nl0
  refine ZR (fun i σ' H' => ∃ v1 v2 v3 v4 v5 v6 v7 v8 v9 v10 v11 v12 : Option V, σ' = [some (.ref a), v1, v2, v3, v4, v5, v6, v7, v8, v9, v10, v11, v12] ∧ Same H H') ⟨_, _, _, _, _, _, _, _, _, _, _, _, rfl, s0⟩ ?_ (fun σ' H1 _ => q H1)
  rintro i σ' H1 hi ⟨v1, v2, v3, v4, v5, v6, v7, v8, v9, v10, v11, v12, rfl, s1⟩
  rw [show (0 : Int) + (i : Int) = (i : Int) by omega]
  refine ⟨_, rfl, _, rfl, a, ns, i, rfl, s1.seq hS, hlen, fun p H2 s2 np T2 => ?_⟩
  have npH : H p = none := s1.free np
  refine ⟨_, rfl, _, rfl, _, _, rfl, rfl, p, 0, _, rfl, T2, by decide, fun g t H3 k3 T3' G3 Pt => ?_⟩
  have tn60 := Pt.n60
  have ul := Jl (t := t) t.length
  have u1 := ZhZ Pt
  have s3 := WR (s1.trans s2) npH k3
  refine ⟨_, rfl, g, t, rfl, G3, Pt, fun L bs H4 nL s4 R4 => ?_⟩
  have bl : (bs.map V.ref).length = (Z1 t t.length).length := by rw [Za, R4.2.1]
  refine ⟨L, _, rfl, .inl (.of R4.1), ?_⟩
  rw [bl]
  generalize hM : (Z1 t t.length).length = M at ul u1
  refine ⟨_, rfl, g, t, rfl, G3.mono s4, Pt, fun m H5 s5 m1 m60 md => ?_⟩
  have T5 := T3'.mono (s4.trans s5)
  have eD : (60 : Int) / (m : Int) = ((60 / m : Nat) : Int) := by push_cast; rfl
  have d1 : 1 ≤ 60 / m := (Nat.le_div_iff_mul_le m1).mpr (by omega)
  refine ⟨_, rfl, _, rfl, _, rfl, _, _, rfl, rfl, ⟨by omega, by omega⟩, _, _, rfl, p, _, 0 + 70, rfl, T5, by decide, ?_, ?_, fun r6 H6 c0 c1 k6 T6 => ⟨_, _, rfl, rfl, _, _, rfl, rfl, .inl ⟨by omega, by omega⟩, ?_⟩⟩
  ·rw [eD]; split <;> omega
  ·rw [eD]; split <;> omega
  rw [eD] at c1
  obtain ⟨e, rfl⟩ := Int.eq_ofNat_of_zero_le c0
  obtain ⟨n, hn, n1, n60, nd⟩ : ∃ n : Nat, (m : Int) * (1 + (e : Int)) = (n : Int) ∧ 1 ≤ n ∧ n ≤ 60 ∧ m ∣ n := by
   refine ⟨m * (1 + e), by push_cast; rfl, Nat.mul_pos m1 (by omega), ?_, Nat.dvd_mul_right _ _⟩
   have he : 1 + e ≤ 60 / m := by
    split at c1 <;> omega
   exact Nat.le_trans (Nat.mul_le_mul_left m he) (Nat.mul_div_le 60 m)
  dsimp only
  rw [hn]
  have rdn : ∀ a, a < t.length → ∀ r, Rd t a r → r ∣ n := fun a ha r R => Nat.dvd_trans (md a ha r R) nd
  have s45 := (s3.trans s4).trans s5
  have G6 := GT.tk T5 k6 (G3.mono (s4.trans s5))
  have s6 := WR s45 npH k6
  obtain ⟨G, ht⟩ := N24.Vy n1 n60
  have tn := G.tn
  have t1 := G.t1
  refine ⟨_, rfl, _, rfl, _, rfl, p, 71, M, n, rfl, T6, by decide, by omega, n1, n60, fun o1 xss H7 k7 T7 S7 l7 ok7 => ?_⟩
  have G7 := GT.tk T6 k7 G6
  have s7 := WR s6 npH k7
  refine ⟨_, rfl, _, rfl, _, rfl, p, 71 + 4000, M, n, rfl, T7, by decide, by omega, n1, n60, fun o2 yss H8 k8 T8 S8 l8 ok8 => ?_⟩
  have G8 := GT.tk T7 k8 G7
  have s8 := WR s7 npH k8
  have X8 := S7.tk T7 k8
  have x60 : xss.length ≤ 60 := by omega
  have y60 : yss.length ≤ 60 := by omega
  have fit := Zgk x60 y60 (n := n) (by omega) ok7 ok8
  have hl60 : ∀ xs ∈ xss, 1 ≤ xs.length ∧ xs.length ≤ 60 := fun xs hx => by
   have := (ok7 xs hx).1
   omega
  refine ⟨_, rfl, _, rfl, (by show 2 ≤ sizeLine; decide), fun pr npr => ?_⟩
  have s9 := Same.upd (H := H8) (o := .tup [.ref o1, .ref o2]) npr
  refine ⟨_, .tuple [dS xss, dS yss], rfl, .tup (.of Zm) (.cons (ZcX (X8.mono s9)) (.cons (ZcX (S8.mono s9)) .nil)), fit, ?_⟩
  have s09 := s8.trans s9
  have G9 := G8.mono s9
  have X9 := X8.mono s9
  have Y9 := S8.mono s9
  have T9 := T8.mono s9
  generalize upd H8 pr (.tup [.ref o1, .ref o2]) = H9 at s09 G9 X9 Y9 T9 ⊢
  refine ⟨_, rfl, _, rfl, _, rfl, g, t, n, .ref o1, _, rfl, G9, Pt, n1, n60, rdn, ZiW X9 x60 fun xs hx => (hl60 xs hx).2, fun H10 s10 => ?_⟩
  have eB : N24.spB (Z1 t t.length).length n (some (xss.map fun xs => some (xs.map V.int))) = true := by
   rw [hM, ← l7]
   exact Zi3 ht ok7
  rw [eB]
  refine ⟨_, _, rfl, rfl, _, rfl, YR (by decide) ?_⟩
  have s010 := s09.trans s10
  have G10 := G9.mono s10
  have X10 := X9.mono s10
  have Y10 := Y9.mono s10
  have T10 := T9.mono s10
  refine ⟨_, rfl, _, rfl, _, rfl, _, rfl, p, 9, _, rfl, T10, by decide, by decide, by decide, fun r11 H11 e0 e1 k11 T11 => ⟨_, _, rfl, rfl, ?_⟩⟩
  have G11 := GT.tk T10 k11 G10
  have X11 := X10.tk T10 k11
  have Y11 := Y10.tk T10 k11
  have s011 := WR s010 npH k11
  refine ⟨n, o1, o2, _, xss, yss, rfl, n1, n60, by omega, X11, Y11, l7.trans l8.symm, x60, ok7, ok8, fun H12 s12 => ⟨_, rfl, YR (by decide) ?_⟩⟩
  have G12 := G11.mono s12
  have X12 := X11.mono s12
  have Y12 := Y11.mono s12
  have T12 := T11.mono s12
  have s012 := s011.trans s12
  have eD2 : (60 : Int) / (n : Int) = ((60 / n : Nat) : Int) := by push_cast; rfl
  have d2 : 1 ≤ 60 / n := (Nat.le_div_iff_mul_le n1).mpr (by omega)
  have d3 : 60 / n ≤ 60 := Nat.div_le_self _ _
  refine ⟨_, rfl, _, rfl, _, rfl, _, _, rfl, rfl, ⟨by omega, by omega⟩, p, _, _, rfl, T12, by decide, by rw [eD2]; omega, by rw [eD2]; omega, fun r13 H13 f0 f1 k13 T13 => ⟨_, _, rfl, rfl, _, _, rfl, rfl, .inl ⟨by omega, by omega⟩, ?_⟩⟩
  rw [eD2] at f1
  obtain ⟨st, rfl⟩ := Int.eq_ofNat_of_zero_le f0
  have hst : n * (1 + st) ≤ 60 := Nat.le_trans (Nat.mul_le_mul_left n (show 1 + st ≤ 60 / n by omega)) (Nat.mul_div_le 60 n)
  have eG : (n : Int) * (1 + (st : Int)) = ((n * (1 + st) : Nat) : Int) := by push_cast; rfl
  dsimp only
  rw [eG]
  have G13 := GT.tk T12 k13 G12
  have X13 := X12.tk T12 k13
  have Y13 := Y12.tk T12 k13
  have s013 := WR s012 npH k13
  refine ⟨_, rfl, _, rfl, _, rfl, n, 1 + st, o1, xss, rfl, n1, by omega, hst, X13, x60, ok7, fun H14 s14 => ⟨_, rfl, YR (by decide) ?_⟩⟩
  refine ⟨_, rfl, _, rfl, (by show 2 ≤ sizeLine; decide), fun pr2 npr2 => ?_⟩
  have s15 := s14.trans (Same.upd (H := H14) (o := .tup [.ref o1, .ref o2]) npr2)
  refine ⟨_, .tuple [dS xss, dS yss], rfl, .tup (.of Zm) (.cons (ZcX (X13.mono s15)) (.cons (ZcX (Y13.mono s15)) .nil)), fit, ?_⟩
  refine ⟨_, rfl, rfl, _, rfl, YR (by simp) ?_⟩
  have G15 := G13.mono s15
  have X15 := X13.mono s15
  have T15 := T13.mono s15
  have s015 := s013.trans s15
  generalize upd H14 pr2 (.tup [.ref o1, .ref o2]) = H15 at G15 X15 T15 s015 ⊢
  refine ⟨_, rfl, by decide, by decide, ?_⟩
  refine ZR (fun j σ' H' => ∃ w10 w11 w12 : Option V, σ' = [some (.ref a), some (.int (i : Nat)), some (.ref p), some (.ref g), some (.int (M : Nat)), some (.int (n : Nat)), some (.ref o1), some (.ref o2), some (.str (PyData.shown (.tuple [dS xss, dS yss]))), some (.int (n * (1 + st) : Nat)), w10, w11, w12] ∧ Same H H' ∧ GT H' g t ∧ YV H' o1 xss ∧ Yb H' p (8073 + 4 * j)) ⟨_, _, _, rfl, s015, G15, X15, T15⟩ ?_ ?_
  ·rintro j σ' H16 hj ⟨w10, w11, w12, rfl, s16, G16, X16, T16⟩
   refine ⟨_, rfl, _, rfl, p, o1, _, xss, rfl, T16, by omega, X16, by omega, x60, hl60, fun x o H17 k17 T17 hx17 => ?_⟩
   have G17 := GT.tk T16 k17 G16
   have X17 := X16.tk T16 k17
   have s17 := WR s16 npH k17
   refine ⟨_, rfl, _, rfl, _, rfl, g, t, n, x, o, rfl, G17, Pt, n1, n60, rdn, hx17, fun H18 s18 => ?_⟩
   rw [hM]
   refine ⟨_, rfl, _, "bool", rfl, ⟨.bl _, by decide⟩, _, rfl, YR (by decide) ?_⟩
   refine ⟨_, rfl, _, rfl, _, rfl, _, rfl, M, n, x, o, rfl, n1, n60, hx17.mono s18, fun H19 s19 => ⟨rfl, _, rfl, YR (by simp) ?_⟩⟩
   have sA := s18.trans s19
   exact ⟨_, _, _, rfl, s17.trans sA, G17.mono sA, X17.mono sA, T17.mono sA⟩
  ·rintro σ' H16 ⟨w10, w11, w12, rfl, s16, G16, X16, T16⟩
   exact ⟨_, _, _, _, _, _, _, _, _, _, _, _, rfl, s16⟩
end
end C24
namespace C24
open PySem L2 PySem.Spec PyProof.Rows
theorem all_mk {l : PySem.W.OpenLaw} {w : World} {K : PySem.W.Frag} {h : Heap} {mg : Str → Option Value} {fa : Addr} {tk : Tok} (X : K.In h) (G : h.Ns mainGlobals mg) (hfa : mg "law" = some (.ref fa))
  (d1 : Zr K "is_whole" N24.Ze2) (d2 : Zr K "back" Zix) (d3 : Zr K "round_of" Ze8) (d4 : Zr K "full_round" Ziu) (d5 : Zr K "turned_by" JY) (d6 : Zr K "turnings" Uc) (d7 : Zr K "classes_of" Vg) (d8 : Zr K "sizes_of" Ze4) (d9 : Zr K "primes_of" N24.ZcR) (d10 : Zr K "places" N24.ZcS) (d11 : Zr K "stretched" N24.Zi7) (d12 : Zr K "quotient" N24.ZkR) (d13 : Zr K "least_sum" N24.Zfc) (d14 : Zr K "number_of" N24.Zfb) (d15 : Zr K "is_number" N24.Zfg) (d16 : Zr K "plus" N24.Zir) (d17 : Zr K "scaled" N24.ZcO) (d18 : Zr K "times" N24.Ze3) (d19 : Zr K "turned" N24.JY) (d20 : Zr K "flipped" N24.Ziv) (d21 : Zr K "widened" N24.ZkQ) (d22 : Zr K "are_numbers" N24.ZkW) (d23 : Zr K "is_spread" Ud) (d24 : Zr K "spread_plus" Ze6) (d25 : Zr K "spread_times" ZcP) (d26 : Zr K "spread_flipped" Ze7) (d27 : Zr K "spread_scaled" Ze5) (d28 : Zr K "widened_spread" Ze1) (d29 : Zr K "_law_tape" Zio) (d30 : Zr K "_law_pick" Ze9) (d31 : Zr K "_law_cycle" ZkV) (d32 : Zr K "_law_perms" Zfa) (d33 : Zr K "_law_after" Zfi) (d34 : Zr K "_law_things" ZcM) (d35 : Zr K "_law_group" ZbW) (d36 : Zr K "_law_back" Zff) (d37 : Zr K "_law_turned" ZaL) (d38 : Zr K "_law_classes" Zfe) (d39 : Zr K "_law_shared" N24.ZkT) (d40 : Zr K "_law_round" ZcQ) (d41 : Zr K "_law_places" N24.Zfd) (d42 : Zr K "_law_spread" ZcN) (d43 : Zr K "_law_product" N24.Ziq) (d44 : Zr K "_law_flip" N24.Zfh) (d45 : Zr K "_law_none" N24.Zis) (d46 : Zr K "_law_is" N24.sIs) (d47 : Zr K "_law_bent" Ziw) (d48 : Zr K "_law_is_spread" N24.Zit) (d49 : Zr K "_law_all" ZkX) (d50 : Zr K "_law_sums_right" Zip) (d51 : Zr K "_law_wide_right" Zin) (d52 : Zr K "law" ZkS) (m : PySem.W.nsIn K mainGlobals "MOST_N" = some (some (.int 60 tk)))
  (z1 : PySem.W.nsIn K mainGlobals "list" = some none) (z2 : PySem.W.nsIn K mainGlobals "len" = some none) (z3 : PySem.W.nsIn K mainGlobals "abs" = some none) (z4 : PySem.W.nsIn K mainGlobals "range" = some none) (z5 : PySem.W.nsIn K mainGlobals "tuple" = some none) (z6 : PySem.W.nsIn K mainGlobals "isinstance" = some none) (z7 : PySem.W.nsIn K mainGlobals "all" = some none) (z8 : PySem.W.nsIn K mainGlobals "set" = some none) (z9 : PySem.W.nsIn K mainGlobals "repr" = some none) (z10 : PySem.W.nsIn K mainGlobals "any" = some none) (z11 : PySem.W.nsIn K mainGlobals "int" = some none) (z12 : PySem.W.nsIn K mainGlobals "bool" = some none) (z13 : PySem.W.nsIn K mainGlobals "sorted" = some none) (z14 : PySem.W.nsIn K mainGlobals "enumerate" = some none) (z15 : PySem.W.nsIn K mainGlobals "max" = some none) (z16 : PySem.W.nsIn K mainGlobals "zip" = some none) (z17 : PySem.W.nsIn K mainGlobals "min" = some none) :
  ∃ fd : FuncData, (∀ (s : Shared) (v : Value), BindsTo s fd ⟨[v], []⟩ [("_law_script", v)]) ∧ ∀ base : Heap, K.In base → base.Ns mainGlobals mg → ZH l.prog w K mg base ZL 8 fa fd ["_law_script"] (ZcF K) := by
 have T : Bl mg := ⟨PySem.W.mg_none_of X G z1, PySem.W.mg_none_of X G z2, PySem.W.mg_none_of X G z3, PySem.W.mg_none_of X G z4, PySem.W.mg_none_of X G z5, PySem.W.mg_none_of X G z6, PySem.W.mg_none_of X G z7, PySem.W.mg_none_of X G z8, PySem.W.mg_none_of X G z9, PySem.W.mg_none_of X G z10, PySem.W.mg_none_of X G z11, PySem.W.mg_none_of X G z12⟩
 have hM := PySem.W.mg_of X G m
 have T2 : Zkk mg := ⟨PySem.W.mg_none_of X G z13, PySem.W.mg_none_of X G z14⟩
 have TB : BlB mg := ⟨PySem.W.mg_none_of X G z1, PySem.W.mg_none_of X G z2, PySem.W.mg_none_of X G z4, PySem.W.mg_none_of X G z5, PySem.W.mg_none_of X G z15, PySem.W.mg_none_of X G z13⟩
 have TN : N24.Bl mg := ⟨T.list, T.len, T.abs, T.range, T.tuple, T.isi, T.all, T.set, T.repr, T.any, T.int, T.bool⟩
 have TN2 : N24.Bl2 mg := ⟨PySem.W.mg_none_of X G z14, PySem.W.mg_none_of X G z15⟩
 have T3 : N24.Bl3 mg := ⟨PySem.W.mg_none_of X G z16⟩
 have TM : BlM mg := ⟨PySem.W.mg_none_of X G z17⟩
 refine d52.law X G hfa (fun base f fd nb kb F => ?_) (fun _ _ _ _ _ _ _ _ => .of_eq rfl)
 have fn := @Zr.fn l.prog w K mg base h
 have GWh := fn d1 X G (fun f fd F => N24.Zfx F TN) (fun _ _ _ _ _ _ => bd1 fun _ => rfl)
 have GBk := fn d2 X G (fun f fd F => Zhy F) (fun _ _ _ _ _ _ => XQ fun _ _ => rfl)
 have GRd := fn d3 X G (fun f fd F => ZfD F) (fun _ _ _ _ _ _ => XQ fun _ _ => rfl)
 have GFu := fn d4 X G (fun f fd F => Zhv F T GRd) (fun _ _ _ _ _ _ => bd1 fun _ => rfl)
 have GTb := fn d5 X G (fun f fd F => Xq F GBk) (fun _ _ _ _ _ _ => bd3 fun _ _ _ => rfl)
 have GTn := fn d6 X G (fun f fd F => ZaZ F T T2 GTb) (fun _ _ _ _ _ _ => XQ fun _ _ => rfl)
 have GC := fn d7 X G (fun f fd F => Zb4 F T GTn) (fun _ _ _ _ _ _ => bd1 fun _ => rfl)
 have GSz := fn d8 X G (fun f fd F => Zfz F T GC) (fun _ _ _ _ _ _ => bd1 fun _ => rfl)
 have GPr := fn d9 X G (fun f fd F => N24.ZdT F TN) (fun _ _ _ _ _ _ => bd1 fun _ => rfl)
 have GPc := fn d10 X G (fun f fd F => N24.ZdU F TN GPr) (fun _ _ _ _ _ _ => bd1 fun _ => rfl)
 have GSt := fn d11 X G (fun f fd F => N24.Zjs F TN TN2) (fun _ _ _ _ _ _ => XQ fun _ _ => rfl)
 have GStT := fn d11 X G (fun f fd F => N24.Zho F TN TN2) (fun _ _ _ _ _ _ => XQ fun _ _ => rfl)
 have GQ := fn d12 X G (fun f fd F => N24.Zjt F TN TN2) (fun _ _ _ _ _ _ => XQ fun _ _ => rfl)
 have GLs := fn d13 X G (fun f fd F => N24.ZfG F GPr GSt GQ) (fun _ _ _ _ _ _ => bd1 fun _ => rfl)
 have GNo := fn d14 X G (fun f fd F => N24.ZfF F TN TN2 GLs) (fun _ _ _ _ _ _ => XQ fun _ _ => rfl)
 have GIN := fn d15 X G (fun f fd F => N24.ZfJ F TN GWh GPc) (fun _ _ _ _ _ _ => XQ fun _ _ => rfl)
 have GPl := fn d16 X G (fun f fd F => N24.Zhq F TN T3) (fun _ _ _ _ _ _ => XQ fun _ _ => rfl)
 have GSc := fn d17 X G (fun f fd F => N24.ZdQ F TN) (fun _ _ _ _ _ _ => XQ fun _ _ => rfl)
 have GTi := fn d18 X G (fun f fd F => N24.Zfy F TN TN2 GNo) (fun _ _ _ _ _ _ => bd3 fun _ _ _ => rfl)
 have GTu := fn d19 X G (fun f fd F => N24.Xq F TN TN2 GNo) (fun _ _ _ _ _ _ => bd3 fun _ _ _ => rfl)
 have GFl := fn d20 X G (fun f fd F => N24.Zhw F GTu) (fun _ _ _ _ _ _ => XQ fun _ _ => rfl)
 have GWi := fn d21 X G (fun f fd F => N24.Zjr F GStT GNo) (fun _ _ _ _ _ _ => bd3 fun _ _ _ => rfl)
 have GAr := fn d22 X G (fun f fd F => N24.Zjx F TN GIN) (fun _ _ _ _ _ _ => bd3 fun _ _ _ => rfl)
 have GIs := fn d23 X G (fun f fd F => Za0 F T hM GFu GSz GAr) (fun _ _ _ _ _ _ => bd3 fun _ _ _ => rfl)
 have GSP := fn d24 X G (fun f fd F => ZfB F T T3 GPl) (fun _ _ _ _ _ _ => XQ fun _ _ => rfl)
 have GST := fn d25 X G (fun f fd F => ZdR F T T3 GTi) (fun _ _ _ _ _ _ => bd3 fun _ _ _ => rfl)
 have GSF := fn d26 X G (fun f fd F => ZfC F T GFl) (fun _ _ _ _ _ _ => XQ fun _ _ => rfl)
 have GSS := fn d27 X G (fun f fd F => ZfA F T GSc) (fun _ _ _ _ _ _ => XQ fun _ _ => rfl)
 have GWS := fn d28 X G (fun f fd F => Zfw F T GWi) (fun _ _ _ _ _ _ => bd3 fun _ _ _ => rfl)
 have GT0 := fn d29 X G (fun f fd F => Zhm F TB) (fun _ _ _ _ _ _ => XQ fun _ _ => rfl)
 have GK := fn d30 X G (fun f fd F => Zhr F) (fun _ _ _ _ _ _ => XQ fun _ _ => rfl)
 have GCy := fn d31 X G (fun f fd F => Zjw F TB) (fun _ _ _ _ _ _ => bd1 fun _ => rfl)
 have GPe := fn d32 X G (fun f fd F => ZfE F TB GK GCy) (fun _ _ _ _ _ _ => XQ fun _ _ => rfl)
 have GA := fn d33 X G (fun f fd F => ZfM F TB) (fun _ _ _ _ _ _ => XQ fun _ _ => rfl)
 have GTh := fn d34 X G (fun f fd F => ZdO F TB GA) (fun _ _ _ _ _ _ => bd1 fun _ => rfl)
 have GG := fn d35 X G (fun f fd F => ZfK F TB GTh GPe GK GA) (fun _ _ _ _ _ _ => XQ fun _ _ => rfl)
 have GLB := fn d36 X G (fun f fd F => ZfH F) (fun _ _ _ _ _ _ => XQ fun _ _ => rfl)
 have GLT := fn d37 X G (fun f fd F => Zb3 F GLB) (fun _ _ _ _ _ _ => bd3 fun _ _ _ => rfl)
 have GLC := fn d38 X G (fun f fd F => Zht F T T2 GLT) (fun _ _ _ _ _ _ => bd1 fun _ => rfl)
 have GSh := fn d39 X G (fun f fd F => N24.Zjv F) (fun _ _ _ _ _ _ => XQ fun _ _ => rfl)
 have GRo := fn d40 X G (fun f fd F => ZdS F T GSh) (fun _ _ _ _ _ _ => bd1 fun _ => rfl)
 have GLp := fn d41 X G (fun f fd F => N24.ZfI F TN GSh) (fun _ _ _ _ _ _ => bd1 fun _ => rfl)
 have GSr := fn d42 X G (fun f fd F => ZdP F T GK GLp) (fun _ _ _ _ _ _ => bd3 fun _ _ _ => rfl)
 have GPo := fn d43 X G (fun f fd F => N24.Zhp F TN) (fun _ _ _ _ _ _ => bd3 fun _ _ _ => rfl)
 have GFi := fn d44 X G (fun f fd F => N24.ZfL F TN) (fun _ _ _ _ _ _ => XQ fun _ _ => rfl)
 have GNn := fn d45 X G (fun f fd F => N24.Zhs F TN) (fun _ _ _ _ _ _ => XQ fun _ _ => rfl)
 have GI := fn d46 X G (fun f fd F => N24.Zlh F TN GLp GNn) (fun _ _ _ _ _ _ => bd3 fun _ _ _ => rfl)
 have GB := fn d47 X G (fun f fd F => Zhx F T GK) (fun _ _ _ _ _ _ => XQ fun _ _ => rfl)
 have GIL := fn d48 X G (fun f fd F => N24.Zhu F TN GLp) (fun _ _ _ _ _ _ => bd3 fun _ _ _ => rfl)
 have GAl := fn d49 X G (fun f fd F => Zjy F T GI) (fun _ _ _ _ _ _ => bd3 fun _ _ _ => rfl)
 have GSu := fn d50 X G (fun f fd F => Zhn F T T3 GAl GSP GSS GST GSF GPo GFi) (fun _ _ _ _ _ _ => bd4 fun _ _ _ _ => rfl)
 have GWd := fn d51 X G (fun f fd F => Zhl F T GAl GWS) (fun _ _ _ _ _ _ => bd3 fun _ _ _ => rfl)
 exact Zju F T TM GT0 GK GG GLC GRo GSr GIs GSu GWd GB GIL
theorem walk {l : PySem.W.OpenLaw} {q : Program} {loose : List Str} {XP : (Str → Option Value) → Heap → Prop} {YP : World → Heap → Prop} {d : DefRec} {K : Params → PySem.W.Frag} (hn : l.most = some 63) (hdf : d.params.defaults = [])
  (hY : ∀ (w : World) (h : Heap), YP w h → (K w.params).In h)
  (F : ∀ (w : World) (mg : Str → Option Value) (fa : Addr) (h : Heap), (K w.params).In h → h.Ns mainGlobals mg → mg d.name = some (.ref fa) →
   ∃ fd : FuncData, (∀ (s : Shared) (u : Value), BindsTo s fd ⟨[u], []⟩ [("_law_script", u)]) ∧ ∀ base : Heap, (K w.params).In base → base.Ns mainGlobals mg → ZH l.prog w (K w.params) mg base ZL 8 fa fd ["_law_script"] (ZcF (K w.params))) :
  PySem.W.WalkO q loose XP YP l.row.toRowW d [] (fun f vs => PySem.call f vs) :=
 L2.UK (n := 63) (k := 8) (x := "_law_script") (CX := fun _ => ZL) (sp := fun w => ZcF (K w.params)) hn (by decide) hdf ⟨rfl, by decide, by decide, rfl⟩ hY F (fun _ _ a ns hl _ hS => ⟨a, ns, rfl, hS, hl, fun _ => rfl⟩) fun _ _ _ _ _ z => z
end C24
namespace PySem.W.Fast
def tw13718285929416090362:=0
def tw14575764736512103890:=0
def tw5795621466574425892:=0
def tw8759181051358187801:=0
def tw13661057703220851636:=0
def tw10170640152424013549:=0
def tw11903010876940684456:=0
def tw3227884303627241781:=0
def tw3269085229719302909:=0
def tw3712295231642766591:=0
def tw4196432544150532666:=0
def tw1504619800568815751:=0
def tw12776250166432299974:=0
def tw5626274367137312386:=0
def tw14480310015657911429:=0
def tw12487283646701212927:=0
def tw3277716765743585959:=0
def tw13496769376224410741:=0
def tw13274065850070696159:=0
def tw10769611870849236455:=0
def tw3851589148050076229:=0
def tw18174277220601722238:=0
def tw1317383180850241847:=0
def tw9632197483321700706:=0
def tw7844888930820244406:=0
def tw5392805263853547816:=0
def tw15974629363019893442:=0
def tw11341050220839572628:=0
def tw15761681911898583723:=0
def tw15101309933991693960:=0
def tw6790012516630520279:=0
def tw18328285864224046686:=0
def tw428491460963055832:=0
def tw15586517471253401652:=0
def tw9533294704826448856:=0
def tw9794961018227720854:=0
def tw1074685716640854503:=0
def tw7858625541898107415:=0
def tw11023208664891860674:=0
def tw16095319376524625398:=0
def tw7165074993585901700:=0
def tw4114295855653506111:=0
def tw10007501208030823069:=0
def tw13942336998288373398:=0
def tw9980346499377358669:=0
def tw1895661394231448352:=0
def tw3309371134707859337:=0
def tw16986168225697392263:=0
def tw14616474943698472768:=0
def tw17895297526882114280:=0
def tw6805405250107643671:=0
def tw4880678387832558934:=0
def tw138395265730585035:=0
def tw16893399961009888327:=0
def tw9199940664686784298:=0
def tw5617055753763264413:=0
def tw14063026684607148941:=0
def tw2745593862144062769:=0
def tw11608904188093213146:=0
def tw3718404858312968549:=0
def tw827684864096722518:=0
def tw4752804383400113012:=0
def tw648398254202507813:=0
def tw6496696168606947874:=0
def tw5113530773259744630:=0
def tw513218388295815775:=0
def tw4791149029805042655:=0
def tw10107758211849638988:=0
def tw10638382689178830756:=0
def tw2283651895997552785:=0
def tw15969990617950987595:=0
def tw14778825193190887742:=0
def tw13100741158052792439:=0
def tw16687281916420255040:=0
def tw10906823533459065520:=0
def tw16367549110134413216:=0
def tw11646213975845288322:=0
def tw8470075968851037406:=0
def tw12748010018506324763:=0
def tw15411474834986798484:=0
def tw8415331382768392149:=0
def tw6222448277246102705:=0
def tw11848085313455648932:=0
def tw8652946797626543126:=0
def tw18414860919363422562:=0
def tw2185499481573753462:=0
def tw14203324178389926432:=0
def tw12238705932262409773:=0
def tw3191039066083751196:=0
def tw8429495335034807839:=0
def tw12051798341060177873:=0
def tw1678190681740931423:=0
def tw3721871058047474249:=0
def tw3717289126470374711:=0
def tw4523899484830851887:=0
def tw17035027483510975080:=0
def tw10688939778147625074:=0
def tw12468197016720474489:=0
def tw9525171252618282255:=0
def tw8428076638951481632:=0
def tw1111375795952338233:=0
def tw9171988034313874171:=0
def tw2978474370363118047:=0
def tw8459975299107381096:=0
def tw5947872123003667388:=0
def tw14627931872460625862:=0
def tw10076135581162409363:=0
def tw2094720617589060758:=0
def tw15789771142074310085:=0
def tw5693552341121556699:=0
def tw7328935677522198439:=0
def tw17210261101954214010:=0
def tw4293510938005082317:=0
def tw9914463601539733226:=0
def tw8287171483135601808:=0
def tw1020445255405721990:=0
def tw1235503624958695931:=0
def tw10168885862638279783:=0
def tw9386141762671864320:=0
def tw958835593392553555:=0
def tw10444821180008771444:=0
def tw12065093319381948683:=0
def tw16394531702828709285:=0
def tw13288393463971847186:=0
def tw12358723972627210967:=0
def tw10804129798781845599:=0
def tw3005605073092450139:=0
def tw16795253915162272021:=0
def tw11779520277513276259:=0
def tw12103550731259262175:=0
def tw17640625165267240930:=0
def tw14064465724360916993:=0
def tw18393916007006310936:=0
def tw8485108941151095062:=0
def tw3983550802661261686:=0
def tw2688550572927970413:=0
def tw10442934200787739615:=0
def tw6319113922559524411:=0
def tw17598063876776227788:=0
def tw8187604242434542031:=0
def tw5561985861242799726:=0
def tw12850616739366684875:=0
def tw10115367515706226673:=0
def tw10900229013611238356:=0
def tw11137847794458487162:=0
def tw1695830984611820617:=0
def tw3061636425540955048:=0
def tw18151243213748376552:=0
def tw13039385010001723396:=0
def tw8286632488245333214:=0
def tw9911388057109749380:=0
def tw17963135075364465084:=0
def tw14472677857420649765:=0
def tw4378680206001526902:=0
def tw11502727373408329483:=0
def tw11091676152628440534:=0
def tw1483368111001107941:=0
def tw11634994349769353239:=0
def tw3270468395292807890:=0
def tw3019064459472050947:=0
def tw14887566729040286079:=0
def tw2334873852251078349:=0
def tw12397331484497987612:=0
def tw17842413814558570529:=0
def tw1947303899840867112:=0
def tw16309411462862667606:=0
def tw13025977236940517652:=0
def tw1383159397536901652:=0
def tw17315388676143925702:=0
def tw6828690192865511791:=0
def tw6128219084230715503:=0
def tw6232829818977452841:=0
def tw17090361529480625547:=0
def tw15967886498461494840:=0
def tw3236867493597401485:=0
def tw7989772302344740760:=0
def tw13690557448358145029:=0
def tw4470456225521068458:=0
def tw15487154071571993604:=0
def tw11376803343113726915:=0
def tw4673922295405746600:=0
def tw16176997385270696278:=0
def tw15113453672162559713:=0
def tw1374037723452718200:=0
def tw14260673061218025194:=0
def tw14526152731357909820:=0
def tw9628728054039103352:=0
def tw10298416532606890203:=0
def tw8051110384956007059:=0
def tw13877810196468006862:=0
def tw17255889937163078656:=0
def tw18274801689985527541:=0
def tw6571356592218663454:=0
def tw13404361990740246314:=0
def tw11722130923130713995:=0
def tw10803371811524351675:=0
def tw7010625385939801822:=0
def tw10398375420212211036:=0
def tw2758814727252537773:=0
def tw16253368713925438183:=0
def tw15377719055599552207:=0
def tw3196984587805862934:=0
def tw21718397807092001:=0
def tw1166636086314507869:=0
def tw1015847077034907907:=0
def tw2010709544809164680:=0
def tw5685437046732256768:=0
def tw16918743641768805812:=0
def tw17120867845590469201:=0
def tw17162468221405134659:=0
def tw7217421548372351513:=0
def tw18289662321767475763:=0
def tw7691241552211801869:=0
def tw5974538015441985510:=0
def tw645394180390063779:=0
def tw13099409609127646011:=0
def tw10955042108186549581:=0
def tw11677487988343018505:=0
def tw9779560697992589814:=0
def tw9306130817355311639:=0
def tw13840399884086038809:=0
def tw755840559406967887:=0
def tw253766503202890247:=0
def tw15069017783014448322:=0
def tw791214679642529455:=0
def tw9679904924963868258:=0
def tw302858638049242127:=0
def tw11682817768455728692:=0
def tw4859987645070070743:=0
def tw14354714630166550822:=0
def tw480477762123598672:=0
def tw1301220848824373885:=0
def tw3880095900055420696:=0
def tw18263082221348041854:=0
def tw15237078918031225392:=0
def tw112658955866962050:=0
def tw5529178679599581439:=0
def tw14419108426733962332:=0
def tw8221226051601436303:=0
def tw11098663181424271376:=0
def tw17825331199624741918:=0
def tw4917599903865026003:=0
def tw7941840420867741486:=0
def tw17226181560012834871:=0
def tw12761775189557289233:=0
def tw9854109401631758323:=0
def tw3702482600640451112:=0
def tw1778790617584264525:=0
def tw2126835529274298486:=0
def tw6882015041177508769:=0
def tw5825064717695713285:=0
def tw15259472221270768871:=0
def tw16436347152461182851:=0
def tw1317660306239886178:=0
def tw13246999902249171601:=0
def tw10646488482572584456:=0
def tw17592758383941748586:=0
def tw5174044891927128015:=0
def tw2489464497644235092:=0
def tw317435355809136206:=0
def tw8633260548252293193:=0
def tw448162408805035496:=0
def tw4163827457711708343:=0
def tw1970348633633107268:=0
def tw9822883734252332907:=0
def tw4687198129010862035:=0
def tw6845958850187140247:=0
def tw864532517116321492:=0
def tw2519615452801434670:=0
def tw6959280940786027585:=0
def tw14616903768888732719:=0
def tw12462708866863249079:=0
def tw18043733751764874172:=0
def tw17128276956479173602:=0
def tw11847219919457596895:=0
def tw10961404016158589925:=0
def tw8551920641886711942:=0
def tw12754401118376964501:=0
def tw18239345892273524651:=0
def tw1183209367682530481:=0
def tw10012117466783541888:=0
def tw14228625847226705160:=0
def tw4460700486549382040:=0
def tw7168752724837995874:=0
def tw2636849518073826704:=0
def tw16658797783747029182:=0
def tw8680498048147334120:=0
def tw1658192612750843019:=0
def tw12861125131178600841:=0
def tw10809905226612641175:=0
def tw11103759243379518113:=0
def tw4938204402299542528:=0
def tw15074247240375499112:=0
def tw8938208300277078307:=0
end PySem.W.Fast
open PySem PySem.W PyProof.Rows
set_option maxRecDepth 100000 in
set_option maxHeartbeats 0 in
theorem PySem.Challenge.cw_classtab_k24_spreads_holds : PySem.Challenge.rw_classtab_k24_spreads.Holds := by
 w_on; o_law; k_head; (case hw => w_witness2)
 k_fill
 refine C24.walk (l := PySem.Challenge.rw_classtab_k24_spreads) rfl rfl (fun w h Y => PySem.W.kIn_of Y) ?F
 case F =>
  intro w mg fa h KX G hmg
  refine' C24.all_mk KX G hmg (L2.Zr.mk ?_ ?_ ?_ ?_) (L2.Zr.mk ?_ ?_ ?_ ?_) (L2.Zr.mk ?_ ?_ ?_ ?_) (L2.Zr.mk ?_ ?_ ?_ ?_) (L2.Zr.mk ?_ ?_ ?_ ?_) (L2.Zr.mk ?_ ?_ ?_ ?_) (L2.Zr.mk ?_ ?_ ?_ ?_) (L2.Zr.mk ?_ ?_ ?_ ?_) (L2.Zr.mk ?_ ?_ ?_ ?_) (L2.Zr.mk ?_ ?_ ?_ ?_) (L2.Zr.mk ?_ ?_ ?_ ?_) (L2.Zr.mk ?_ ?_ ?_ ?_) (L2.Zr.mk ?_ ?_ ?_ ?_) (L2.Zr.mk ?_ ?_ ?_ ?_) (L2.Zr.mk ?_ ?_ ?_ ?_) (L2.Zr.mk ?_ ?_ ?_ ?_) (L2.Zr.mk ?_ ?_ ?_ ?_) (L2.Zr.mk ?_ ?_ ?_ ?_) (L2.Zr.mk ?_ ?_ ?_ ?_) (L2.Zr.mk ?_ ?_ ?_ ?_) (L2.Zr.mk ?_ ?_ ?_ ?_) (L2.Zr.mk ?_ ?_ ?_ ?_) (L2.Zr.mk ?_ ?_ ?_ ?_) (L2.Zr.mk ?_ ?_ ?_ ?_) (L2.Zr.mk ?_ ?_ ?_ ?_) (L2.Zr.mk ?_ ?_ ?_ ?_) (L2.Zr.mk ?_ ?_ ?_ ?_) (L2.Zr.mk ?_ ?_ ?_ ?_) (L2.Zr.mk ?_ ?_ ?_ ?_) (L2.Zr.mk ?_ ?_ ?_ ?_) (L2.Zr.mk ?_ ?_ ?_ ?_) (L2.Zr.mk ?_ ?_ ?_ ?_) (L2.Zr.mk ?_ ?_ ?_ ?_) (L2.Zr.mk ?_ ?_ ?_ ?_) (L2.Zr.mk ?_ ?_ ?_ ?_) (L2.Zr.mk ?_ ?_ ?_ ?_) (L2.Zr.mk ?_ ?_ ?_ ?_) (L2.Zr.mk ?_ ?_ ?_ ?_) (L2.Zr.mk ?_ ?_ ?_ ?_) (L2.Zr.mk ?_ ?_ ?_ ?_) (L2.Zr.mk ?_ ?_ ?_ ?_) (L2.Zr.mk ?_ ?_ ?_ ?_) (L2.Zr.mk ?_ ?_ ?_ ?_) (L2.Zr.mk ?_ ?_ ?_ ?_) (L2.Zr.mk ?_ ?_ ?_ ?_) (L2.Zr.mk ?_ ?_ ?_ ?_) (L2.Zr.mk ?_ ?_ ?_ ?_) (L2.Zr.mk ?_ ?_ ?_ ?_) (L2.Zr.mk ?_ ?_ ?_ ?_) (L2.Zr.mk ?_ ?_ ?_ ?_) (L2.Zr.mk ?_ ?_ ?_ ?_) (L2.Zr.mk ?_ ?_ ?_ ?_) ?_ ?_ ?_ ?_ ?_ ?_ ?_ ?_ ?_ ?_ ?_ ?_ ?_ ?_ ?_ ?_ ?_ ?_
  any_goals k_is
