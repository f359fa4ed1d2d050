import PyProof.Rows.All
import Wide.All
import OpenK.AllK
import Wide.FinOn
import Lean
import PyProof.EqAt
import PyProof.EqKinds
import PyProof.TupleCall
import PyProof.DictWalks
import KE.KDictSum
import KE.KSortTup
import PyProof.EnumMake
import PyProof.EnumFor
import PyProof.TupleIter
import PyProof.Rows.Range3
import KE.KLam
import KE.KNestM
import PyProof.TupleKey
import PyProof.ZipIter
import PyProof.ExcInit
import PyProof.ExcClass2
import PyProof.ExcClsAt2
import PyProof.ExcBaseAll.ValueError
import PyProof.InstStoreFacts
import PyProof.InstLoad
import PyProof.ExcAttrAll.ValueError
import PyProof.StationsW
import PyProof.RulesAs
import PyProof.NsDelKeeps
import PyProof.IsiBase
import KE.KIsAll
import PySem.Challenge.RW_classtab_k23_groups_over_parts
set_option Elab.async false
set_option linter.all false
set_option maxRecDepth 100000
theorem Za {α β:Type _}{l:List α}{f:α->β}:(l.map f).length=l.length:=List.length_map ..
theorem Zb {α:Type _}{l:List α}{i:Nat}{a:α}:l.getD i a=l[i]?.getD a:=List.getD_eq_getElem?_getD ..
theorem Zc {α β:Type _}{f:α->β}{l:List α}{i:Nat}:(l.map f)[i]?=l[i]?.map f:=List.getElem?_map ..
theorem Zd {α:Type _}{a b:List α}:(a++b).length=a.length+b.length:=List.length_append ..
theorem Ze {α:Type _}{n:Nat}{a:α}:(List.replicate n a).length=n:=List.length_replicate ..
theorem Zf {α:Type _}{l:List α}{i:Nat}(h:i<l.length):l[i]?=some l[i]:=List.getElem?_eq_getElem h
theorem Zg {n:Nat}:(List.range n).length=n:=List.length_range ..
theorem Zh {α:Type _}{l:List α}:l.toArray.size=l.length:=List.size_toArray ..
theorem Zi {α:Type _}{a:α}{l:List α}:(a::l).length=l.length+1:=List.length_cons ..
theorem Zj (n:Nat):(n:Int).toNat=n:=Int.toNat_natCast n
theorem Zk {α:Type _}{a:α}:[a].length=1:=List.length_singleton ..
abbrev Zl:=@PySem.wpAny_bind
abbrev Zm:=@PySem.wpAny_pure
abbrev Zn:=@PySem.Heap.get?_push_of_some
abbrev Zo:=@PySem.Heap.get?_push_size
abbrev Zp:=@PySem.Heap.lt_size
abbrev Zq:=@Nat.le_refl
abbrev Zr.{u}:=@Array.length_toList.{u}
namespace L2
open PySem PySem.Spec PyProof.Rows
abbrev Z0:=Sum Int Str
def V7:Z0->Value->Bool
 | .inl k,v=>Value.isInt k v
 | .inr x,v=>Value.isStrOf x v
def ZlZ (w:World):Z0->Int
 | .inl k=>hashInt k
 | .inr x=>hashStr w x
theorem ZV:∀{k:Z0}{v:Value},V7 k v=true->(∃i t,k=Sum.inl i/\v=Value.int i t)\/(∃x t,k=Sum.inr x/\v=Value.str x t)
 | .inl i,v,h=>by
  obtain⟨t,e⟩:=Value.isInt_shape (k:=i) (v:=v) h
  exact .inl ⟨i,t,rfl,e⟩
 | .inr x,v,h=>by
  obtain⟨t,e⟩:=Value.isStrOf_shape (x:=x) (v:=v) h
  exact .inr ⟨x,t,rfl,e⟩
theorem Zeb (i:Int)(t:Tok):V7 (.inl i) (.int i t)=true:=by simp[V7,Value.isInt]
theorem Zea (x:Str)(t:Tok):V7 (.inr x) (.str x t)=true:=by simp[V7,Value.isStrOf]
theorem Zjx (a b:Int):decide ((Sum.inl a:Z0)=Sum.inl b)=(a == b):=by
 by_cases e:a=b
 ·subst e;simp
 ·have h:¬(Sum.inl a:Z0)=Sum.inl b:=fun q=>e (Sum.inl.inj q)
  rw[decide_eq_false h]
  exact (beq_eq_false_iff_ne.mpr e).symm
theorem Zju (a b:Str):decide ((Sum.inr a:Z0)=Sum.inr b)=decide (a=b):=by
 by_cases e:a=b
 ·subst e;simp
 ·have h:¬(Sum.inr a:Z0)=Sum.inr b:=fun q=>e (Sum.inr.inj q)
  rw[decide_eq_false h,decide_eq_false e]
theorem Zjw (a:Int)(b:Str):decide ((Sum.inl a:Z0)=Sum.inr b)=false:=decide_eq_false (fun q=>nomatch q)
theorem Zjv (a:Str)(b:Int):decide ((Sum.inr a:Z0)=Sum.inl b)=false:=decide_eq_false (fun q=>nomatch q)
def ZU (prog:Program)(w:World):PySem.KeyKind prog w Z0 where
 is:=V7
 hash:=ZlZ w
 inj:=fun v a b ha hb=>by
  rcases ZV ha with ⟨i,t,rfl,rfl⟩|⟨x,t,rfl,rfl⟩
  ·rcases ZV hb with ⟨j,u,rfl,e⟩|⟨y,u,rfl,e⟩
   ·injection e with e1 _;rw[e1]
   ·exact nomatch e
  ·rcases ZV hb with ⟨j,u,rfl,e⟩|⟨y,u,rfl,e⟩
   ·exact nomatch e
   ·injection e with e1 _;rw[e1]
 byValue:=fun k v h=>by
  rcases ZV h with ⟨i,t,rfl,rfl⟩|⟨x,t,rfl,rfl⟩ <;> rfl
 pyHash:=fun hv h=>by
  rcases ZV hv with ⟨i,t,rfl,rfl⟩|⟨x,t,rfl,rfl⟩
  ·exact wpAny_pyHash_int h
  ·exact wpAny_pyHash_str h
 eqBool:=fun hu hv h=>by
  rcases ZV hu with ⟨i,t,rfl,rfl⟩|⟨x,t,rfl,rfl⟩
  ·rcases ZV hv with ⟨j,u,rfl,rfl⟩|⟨y,u,rfl,rfl⟩
   ·rw[Zjx] at h;exact wpAny_eqBool_int h
   ·rw[Zjw] at h;exact SeqAt.EqAt.int_str i t y u _ _ _ _ h
  ·rcases ZV hv with ⟨j,u,rfl,rfl⟩|⟨y,u,rfl,rfl⟩
   ·rw[Zjv] at h;exact SeqAt.EqAt.str_int x t j u _ _ _ _ h
   ·rw[Zju] at h;exact wpAny_eqBool_str h
 «strs»:=fun k x t v h=>by
  rcases ZV h with ⟨i,u,rfl,e⟩|⟨y,u,rfl,e⟩
  ·exact nomatch e
  ·injection e with e1 _
   subst e1
   cases v <;> rfl
theorem ZaW (prog:Program)(w:World)(i:Int)(t:Tok):(ZU prog w).is (.inl i) (.int i t)=true:=Zeb i t
theorem ZaV (prog:Program)(w:World)(x:Str)(t:Tok):(ZU prog w).is (.inr x) (.str x t)=true:=Zea x t
inductive V where
 |non|bl (b:Bool)|int (i:Int)|str (x:Str)|byt (b:Array UInt8)|flt (b:UInt64)|ref (a:Addr)|ty (n:String)
 deriving DecidableEq
def RelV:V->Value->Prop
 | .non,u=>u=Value.none
 | .bl b,u=>u=Value.bool b
 | .int i,u=>∃t,u=Value.int i t
 | .str x,u=>∃t,u=Value.str x t
 | .byt b,u=>∃t,u=Value.bytes b t
 | .flt b,u=>∃t,u=Value.float b t
 | .ref a,u=>u=Value.ref a
 | .ty n,u=>u=Value.type n
abbrev ZB:List V->List Value->Prop:=Paired RelV
theorem ZB.length {xs:List V}{us:List Value}(r:ZB xs us):xs.length=us.length:=Paired.length r
theorem ZB.get:∀{xs:List V}{us:List Value}{i:Nat}{x:V},ZB xs us->xs[i]?=some x->∃u,us[i]?=some u/\RelV x u
 |_,_,_,_,.nil,e=>by simp at e
 |_,_,0,_,.cons r _,e=>by simp at e;subst e;exact⟨_,rfl,r⟩
 |_,_,i+1,x,.cons _ t,e=>by
  obtain⟨u,h1,h2⟩:=ZB.get (i:=i) (x:=x) t (by simpa using e)
  exact⟨u,by simpa using h1,h2⟩
theorem ZB.set {x:V}{u:Value}(r:RelV x u):∀{xs:List V}{us:List Value} (i:Nat),ZB xs us->ZB (xs.set i x) (us.set i u)
 |_,_,_,.nil=>.nil
 |_,_,0,.cons _ t=>.cons r t
 |_,_,i+1,.cons q t=>.cons q (ZB.set r i t)
theorem ZB.append:∀{xs ys:List V}{us ws:List Value},ZB xs us->ZB ys ws->ZB (xs++ys) (us++ws)
 |_,_,_,_,.nil,s=>s
 |_,_,_,_,.cons r t,s=>.cons r (ZB.append t s)
theorem ZB.take:∀{xs:List V}{us:List Value} (n:Nat),ZB xs us->ZB (xs.take n) (us.take n)
 |_,_,0,_=>.nil
 |_,_,_+1,.nil=>.nil
 |_,_,n+1,.cons r t=>.cons r (ZB.take n t)
theorem ZB.drop:∀{xs:List V}{us:List Value} (n:Nat),ZB xs us->ZB (xs.drop n) (us.drop n)
 |_,_,0,r=>r
 |_,_,_+1,.nil=>.nil
 |_,_,n+1,.cons _ t=>ZB.drop n t
def Vz:Option V->Option Value->Prop
 |some v,some u=>RelV v u
 |none,none=>True
 |_,_=>False
def KV {κ:Type}:List (κ×V)->List (κ×Value)->Prop:=Paired fun (p:κ×V) (q:κ×Value)=>p.1=q.1/\RelV p.2 q.2
def kV:Z0->V
 | .inl i=>.int i
 | .inr x=>.str x
inductive HO where
 |lst (xs:List V)
 |tup (xs:List V)
 |dK (kvs:List (Z0×V))|dT (kvs:List (List Z0×V))
 |set (S:Int->Bool) (n:Nat)
 |ins (C dx:Addr) (fs:List (Str×V))
 |own (x:Addr)
 |xd (fs:List (Str×V))
 |met (f x:Addr)
 |rng (lo hi:Int)
 |frz (o:Obj) (u:HO)
 |tbl (ps:Array Value)
 |ext (φ:Heap->Prop)
abbrev Hp:=Addr->Option HO
def upd (H:Hp)(a:Addr)(o:HO):Hp:=fun b=>if b=a then some o else H b
theorem Zt {H:Hp}{a:Addr}{o:HO}:upd H a o a=some o:=by unfold upd;rw[if_pos rfl]
theorem Zw {H:Hp}{a b:Addr}{o:HO}(h:b≠a):upd H a o b=H b:=by unfold upd;rw[if_neg h]
theorem ZkT {H:Hp}{a b:Addr}{o u:HO}(h:H a=some o)(h':H b=some u)(d:o≠u):a≠b:=by
 intro e;subst e;rw[h] at h';exact d (Option.some.inj h')
theorem ZD {H:Hp}{a b:Addr}{o:HO}(h:H a=some o)(h':H b=none):a≠b:=by
 intro e;subst e;rw[h] at h';cases h'
section
variable (P:Program)(w:World)
def ZN (H:Hp)(h:Heap)(a:Addr):HO->Prop
 | .lst xs=>xs.length<=sizeLine/\∃(its:List Value) (n:Nat),ZB xs its/\h.get? a=some {cls:=.type "list",data:=.seq its.toArray n}
 | .tup xs=>xs.length<=sizeLine/\∃its:List Value,ZB xs its/\IsTup h a its.toArray
 | .dK kvs=>kvs.length<=sizeLine/\(a == sysModules)=false/\∃vs,KV kvs vs/\h.DictOf (ZU P w) a vs
 | .dT kvs=>kvs.length<=sizeLine/\(a == sysModules)=false/\∃xs:List (List Z0×Addr×Value),
   Paired (fun (p:List Z0×V) (q:List Z0×Addr×Value)=>p.1=q.1/\H q.2.1=some (.tup (p.1.map kV))/\RelV p.2 q.2.2) kvs xs/\
   ∃o es ep,h.get? a=some o/\o.ExactDict/\o.data=.dict es ep/\es.toList=xs.map (entryOfKey (tupleKind (ZU P w)))/\(xs.map (·.1)).Nodup
 | .set S n=>h.SetOf (intKind P w) a S n
 | .ins C dx fs=>H dx=some (.own a)/\fs.length<=1000/\dx≠a/\h.get? a=some (PySem.W.instObj C dx)/\
   ∃mA,h.Ns1 dx mA/\(∀f,Vz (fs.lookup f) (mA f))/\PySem.Within mA (fs.map (·.1))
 | .own _=>∃o,h.get? a=some o
 | .xd fs=>∃mA,h.Ns1 a mA/\∀f,Vz (fs.lookup f) (mA f)
 | .rng lo hi=>∃t u v,h.get? a=some {cls:=.type "range",data:=.fields #[.int lo t,.int hi u,.int 1 v]}
 | .frz o u=>h.get? a=some o/\ZN H h a u
 | .tbl ps=>h.get? a=some {cls:=.none,data:=.fields ps}
 | .met f x=>h.get? a=some (PySem.W.methodObj (.ref f) (.ref x))
 | .ext φ=>φ h/\(∃o,h.get? a=some o)/\∀h1 h2:Heap,φ h1->(∀o,h1.get? a=some o->h2.get? a=some o)->φ h2
def W8 (H:Hp)(h:Heap):Prop:=∀a o,H a=some o->ZN P w H h a o
end
section
variable {P:Program}{w:World}{H H':Hp}{h h':Heap}{a:Addr}{o:HO}
theorem ZN.lt (x:ZN P w H h a o):a<h.objs.size:=by
 cases o with
 |lst xs=>obtain⟨_,_,_,_,e⟩:=x;exact Zp e
 |tup xs=>obtain⟨_,_,_,p⟩:=x;exact p.lt
 |dK kvs=>obtain⟨_,_,_,_,o,_,_,e,_⟩:=x;exact Zp e
 |dT kvs=>obtain⟨_,_,_,_,o,_,_,e,_⟩:=x;exact Zp e
 |set S n=>obtain⟨o,_,_,_,e,_⟩:=x;exact Zp e
 |ins C dx fs=>obtain⟨_,_,_,e,_⟩:=x;exact Zp e
 |own y=>obtain⟨_,e⟩:=x;exact Zp e
 |xd fs=>obtain⟨_,⟨_,_,_,e,_⟩,_⟩:=x;exact Zp e
 |rng lo hi=>obtain⟨_,_,_,e⟩:=x;exact Zp e
 |frz ob u=>obtain⟨e,_⟩:=x;exact Zp e
 |tbl ps=>exact Zp (show h.get? a=some _ from x)
 |met f y=>exact Zp (show h.get? a=some _ from x)
 |ext φ=>obtain⟨_,⟨_,e⟩,_⟩:=x;exact Zp e
theorem Paired.mapP {α β:Type}{F G:α->β->Prop}:∀{l₁:List α}{l₂:List β},Paired F l₁ l₂->(∀a b,F a b->G a b)->Paired G l₁ l₂
 |_,_,.nil,_=>.nil
 |_,_,.cons r t,f=>.cons (f _ _ r) (Paired.mapP t f)
theorem ZN.stay (x:ZN P w H h a o)(k:∀b u,(b=a\/H b=some (.own a))->h.get? b=some u->h'.get? b=some u)
  (ho:∀b,H b=some (.own a)->H' b=some (.own a)) (ht:∀b xs,H b=some (.tup xs)->H' b=some (.tup xs)):ZN P w H' h' a o:=by
 induction o with
 |lst xs=>obtain⟨z,its,n,r,e⟩:=x;exact⟨z,its,n,r,k _ _ (.inl rfl) e⟩
 |tup xs=>obtain⟨z,its,r,ob,e,c⟩:=x;exact⟨z,its,r,ob,k _ _ (.inl rfl) e,c⟩
 |dK kvs=>obtain⟨z,y,vs,r,ob,es,ep,e,c⟩:=x;exact⟨z,y,vs,r,ob,es,ep,k _ _ (.inl rfl) e,c⟩
 |dT kvs=>
  obtain⟨z,y,xs,r,ob,es,ep,e,c⟩:=x
  exact⟨z,y,xs,Paired.mapP r fun p q z=>⟨z.1,ht _ _ z.2.1,z.2.2⟩,ob,es,ep,k _ _ (.inl rfl) e,c⟩
 |set S n=>obtain⟨ob,es,ep,t,e,c⟩:=x;exact⟨ob,es,ep,t,k _ _ (.inl rfl) e,c⟩
 |ins C dx fs=>
  obtain⟨d,z,ne,e,mA,⟨od,es,ep,e2,c⟩,r⟩:=x
  exact⟨ho _ d,z,ne,k _ _ (.inl rfl) e,mA,⟨od,es,ep,k _ _ (.inr d) e2,c⟩,r⟩
 |own y=>obtain⟨ob,e⟩:=x;exact⟨ob,k _ _ (.inl rfl) e⟩
 |xd fs=>obtain⟨mA,⟨od,es,ep,e,c⟩,r⟩:=x;exact⟨mA,⟨od,es,ep,k _ _ (.inl rfl) e,c⟩,r⟩
 |rng lo hi=>obtain⟨t,u,v,e⟩:=x;exact⟨t,u,v,k _ _ (.inl rfl) e⟩
 |frz ob u ih=>obtain⟨e,q⟩:=x;exact⟨k _ _ (.inl rfl) e,ih q⟩
 |tbl ps=>
  have e:h.get? a=some {cls:=.none,data:=.fields ps}:=x
  show h'.get? a=some {cls:=.none,data:=.fields ps}
  exact k a _ (.inl rfl) e
 |met f y=>
  have e:h.get? a=some (PySem.W.methodObj (.ref f) (.ref y)):=x
  show h'.get? a=some (PySem.W.methodObj (.ref f) (.ref y))
  exact k a _ (.inl rfl) e
 |ext φ=>obtain⟨p,⟨o,e⟩,st⟩:=x;exact⟨st _ _ p fun o q=>k _ _ (.inl rfl) q,⟨o,k _ _ (.inl rfl) e⟩,st⟩
theorem W8.lt (x:W8 P w H h)(e:H a=some o):a<h.objs.size:=(x a o e).lt
theorem W8.fresh (x:W8 P w H h)(e:h.objs.size<=a):H a=none:=by
 cases q:H a with
 |none=>rfl
 |some u=>exact absurd (Nat.lt_of_lt_of_le (x.lt q) e) (Nat.lt_irrefl _)
theorem W8.kept (x:W8 P w H h)(k:∀b u,h.get? b=some u->h'.get? b=some u):W8 P w H h':=fun a o e=>
 (x a o e).stay (fun b u _ q=>k b u q) (fun _ q=>q) fun _ _ q=>q
theorem W8.laid (x:W8 P w H h)(k:∀b u,h.get? b=some u->h'.get? b=some u)(hp:h.objs.size<=a)(new:ZN P w (upd H a o) h' a o):W8 P w (upd H a o) h':=fun b u e=>by
 have hn:=x.fresh hp
 by_cases hb:b=a
 ·subst hb;rw[Zt] at e;cases e;exact new
 ·rw[Zw hb] at e
  exact (x b u e).stay (fun c v _ q=>k c v q) (fun c q=>by rw[Zw (ZD q hn)];exact q) fun c xs q=>by rw[Zw (ZD q hn)];exact q
end
def Rd (H:Hp)(a:Addr)(u:HO):Prop:=H a=some u\/∃o,H a=some (.frz o u)
theorem Rd.ok {P:Program}{w:World}{H:Hp}{h:Heap}{a:Addr}{u:HO}(r:Rd H a u)(x:W8 P w H h):ZN P w H h a u:=by
 rcases r with r|⟨o,r⟩
 ·exact x a u r
 ·obtain⟨_,q⟩:=x a _ r
  exact q
def Mut:Option HO->Prop
 |some (.lst _)=>True
 |some (.dK _)=>True
 |some (.dT _)=>True
 |some (.set _ _)=>True
 |some (.ins _ _ _)=>True
 |some (.ext _)=>True
 |_=>False
section
variable {P:Program}{w:World}{H:Hp}{h h':Heap}{x e:Addr}{o':HO}
theorem W8.write (ok:W8 P w H h)(mu:Mut (H x))(he:e=x\/H e=some (.own x))(k:∀b u,b≠e->h.get? b=some u->h'.get? b=some u)(heo:∃u,h'.get? e=some u)
  (new:ZN P w (upd H x o') h' x o'):W8 P w (upd H x o') h':=fun b u q=>by
 have nown:∀c y,H c=some (.own y)->c≠x:=fun c y r z=>by subst z;rw[r] at mu;exact mu
 have ntup:∀c xs,H c=some (.tup xs)->c≠x:=fun c xs r z=>by subst z;rw[r] at mu;exact mu
 by_cases hb:b=x
 ·subst hb;rw[Zt] at q;cases q;exact new
 ·rw[Zw hb] at q
  by_cases hbe:b=e
  ·have q':H b=some (.own x):=by
    rcases he with z|z
    ·exact absurd (hbe.trans z) hb
    ·rw[hbe];exact z
   rw[q] at q';cases q'
   obtain⟨v,hv⟩:=heo
   exact⟨v,by rw[hbe];exact hv⟩
  ·refine (ok b u q).stay (fun c v hc r=>k c v ?_ r) (fun c r=>by rw[Zw (nown c b r)];exact r) fun c xs r=>by rw[Zw (ntup c xs r)];exact r
   rcases hc with rfl|hc
   ·exact hbe
   ·rintro rfl
    rcases he with z|z
    ·exact nown c b hc z
    ·rw[hc] at z;cases z;exact hb rfl
end
structure Un (fs ex:List Addr)(H H':Hp)(h h':Heap):Prop where
 keep:∀b o,h.get? b=some o->H b=none->b∉fs->b∉ex->h'.get? b=some o
 slot:∀b o,h.get? b=some o->H b=none->b∈fs->b∉ex->∃sl,h'.get? b=some {o with slots:=sl}
 free:∀b o,h.get? b=some o->H b=none->b∉ex->H' b=none
 there:∀b o,h.get? b=some o->b∉ex->∃o',h'.get? b=some o'
 tups:∀b xs,H b=some (.tup xs)->H' b=some (.tup xs)
 frzs:∀b o u,H b=some (.frz o u)->H' b=some (.frz o u)
 tbls:∀b ps,H b=some (.tbl ps)->∃more,H' b=some (.tbl (ps++more))
section
variable {fs fs' ex ex':List Addr}{H H1 H2:Hp}{h h1 h2 h':Heap}{a x e:Addr}{o:HO}
theorem Un.any (u:Un fs ex H H1 h h1){b:Addr}{ob:Obj}(q:h.get? b=some ob)(n:H b=none)(hx:b∉ex):∃sl,h1.get? b=some {ob with slots:=sl}:=by
 by_cases hb:b∈fs
 ·exact u.slot b ob q n hb hx
 ·exact⟨ob.slots,u.keep b ob q n hb hx⟩
theorem Un.kept (k:∀b u,h.get? b=some u->h'.get? b=some u):Un fs ex H H h h':=
 ⟨fun b ob q _ _ _=>k b ob q,fun b ob q _ _ _=>⟨ob.slots,k b ob q⟩,fun _ _ _ n _=>n,fun b ob q _=>⟨ob,k b ob q⟩,fun _ _ q=>q,fun _ _ _ q=>q,fun _ ps q=>⟨#[],by rw[q];simp⟩⟩
theorem Un.refl:Un fs ex H H h h:=Un.kept fun _ _ q=>q
theorem Un.laid (k:∀b u,h.get? b=some u->h'.get? b=some u)(hp:h.objs.size<=a)(hn:H a=none):Un fs ex H (upd H a o) h h' where
 keep:=fun b u q _ _ _=>k b u q
 slot:=fun b u q _ _ _=>⟨u.slots,k b u q⟩
 free:=fun b u q n _=>by rw[Zw (Nat.ne_of_lt (Nat.lt_of_lt_of_le (Zp q) hp))];exact n
 there:=fun b u q _=>⟨u,k b u q⟩
 tups:=fun b xs q=>by rw[Zw (ZD q hn)];exact q
 frzs:=fun b u xs q=>by rw[Zw (ZD q hn)];exact q
 tbls:=fun b ps q=>⟨#[],by rw[Zw (ZD q hn),q];simp⟩
theorem Un.write (mu:Mut (H x))(he:e=x\/H e=some (.own x))(k:∀b u,b≠e->h.get? b=some u->h'.get? b=some u)(heo:∃u,h'.get? e=some u):Un fs ex H (upd H x o) h h':=by
 have hx:∀b,H b=none->b≠x:=fun b n z=>by subst z;rw[n] at mu;exact mu
 have hb:∀b,H b=none->b≠e:=fun b n z=>by
  subst z
  rcases he with r|r
  ·exact hx b n r
  ·rw[n] at r;cases r
 have hm:∀b u,H b=some u->¬Mut (some u)->b≠x:=fun b u q nm z=>by subst z;rw[q] at mu;exact nm mu
 refine⟨fun b u q n _ _=>k b u (hb b n) q,fun b u q n _ _=>⟨u.slots,k b u (hb b n) q⟩,fun b u q n _=>by rw[Zw (hx b n)];exact n,fun b u q _=>?_,
  fun b xs q=>by rw[Zw (hm b _ q fun z=>z)];exact q,fun b u xs q=>by rw[Zw (hm b _ q fun z=>z)];exact q,fun b ps q=>⟨#[],by rw[Zw (hm b _ q fun z=>z),q];simp⟩⟩
 by_cases hbe:b=e
 ·subst hbe;exact heo
 ·exact⟨u,k b u hbe q⟩
end
def trk (h:Heap)(H:Hp):List Addr:=(List.range h.objs.size).filter fun a=>(H a).isSome
def VI (h:Heap)(H:Hp):Heap:=PySem.W.hideAll h (trk h H)
theorem Zed (h:Heap)(H:Hp):(VI h H).objs.size=h.objs.size:=PySem.W.hideAll_size _ _
theorem Zf2 {h:Heap}{H:Hp}{b:Addr}{o:Obj}(e:h.get? b=some o)(n:H b=none):(VI h H).get? b=some o:=
 PySem.W.hideAll_get _ e fun hm=>by
  have q:(H b).isSome=true:=(List.mem_filter.mp hm).2
  rw[n] at q;simp at q
theorem Zht {h:Heap}{H:Hp}{b:Addr}{o:Obj}(e:(VI h H).get? b=some o):h.get? b=some o/\H b=none:=by
 have e':h.get? b=some o:=PySem.W.of_hideAll (trk h H) e
 refine⟨e',?_⟩
 cases q:H b with
 |none=>rfl
 |some x=>
  have hm:b∈trk h H:=List.mem_filter.mpr ⟨List.mem_range.mpr (Zp e'),by simp[q]⟩
  have z:(VI h H).get? b=none:=PySem.W.hideAll_none (trk h H) hm
  rw[z] at e;cases e
structure Mod (K:PySem.W.Frag)(mg:Str->Option Value)(base:Heap):Prop where
 kin:K.In base
 glob:base.Ns mainGlobals mg
 blt:∃mb,base.Ns builtinsNs mb/\∀x:Str,x ≠ "__name__"->mb x=bootBuiltins x
 nolimit:base.NoLimit
structure Cx where
 prog:Program
 w:World
 K:PySem.W.Frag
 mg:Str->Option Value
 base:Heap
 A:Around
 N:List Str
 s₀:Shared
 H₀:Hp
 env:Env
 outer:List Env
 stack:List Env
 ex:List Addr
 fn:Str->Bool
 calm:Bool
 pn:List (Addr×Obj)
 xe:Value->Shared->Prop
def frs (l:List Env):List Addr:=l.filterMap (·.frame)
abbrev Cx.fs (X:Cx):List Addr:=frs X.outer
def Vis (sc:Scope)(x:Str):Prop:=sc.names.lookup x=some .local\/sc.names.lookup x=some .cell\/sc.names.lookup x=some .free
def Loc (sc:Scope)(x:Str):Prop:=sc.names.lookup x=some .local\/sc.names.lookup x=some .cell
def Look (env:Env)(h:Heap)(m:Str->Option Value)(x:Str)(u:Value):Prop:=
 (env.kindOf x=some .local/\m x=some u)\/((env.kindOf x=some .cell\/env.kindOf x=some .free)/\∃c,env.cells.lookup x=some c/\h.IsCell c (some u))
structure Cx.Ok (X:Cx):Prop where
 mod:Mod X.K X.mg X.base
 kind:X.env.scope.kind=.function
 glob:X.env.globals=mainGlobals
 blt:X.env.builtins=builtinsNs
 above:X.s₀.heap.objs.size<=X.env.locals
 inj:∀x y c,X.env.cells.lookup x=some c->X.env.cells.lookup y=some c->x=y
 has:∀x,(X.env.kindOf x=some .cell\/X.env.kindOf x=some .free)->∃c,X.env.cells.lookup x=some c
 cab:∀x c,X.fn x=true->X.env.cells.lookup x=some c->X.s₀.heap.objs.size<=c
 hd:X.calm=true->X.A.handled=none
 frames:X.A.frames=some X.stack
 stk:X.stack=X.outer\/(X.stack=X.env::X.outer/\X.env.frame=some X.env.locals)
 exf:∀b∈X.ex,b≠X.env.locals/\∀x c,X.env.cells.lookup x=some c->c≠b
 bs:∀b o,X.base.get? b=some o->X.s₀.heap.get? b=some o/\X.H₀ b=none
 bsz:X.base.objs.size<=X.s₀.heap.objs.size
 noex:∀b o,X.base.get? b=some o->b∉X.ex
 exfs:∀b∈X.ex,b∉X.fs
 funs:X.s₀.heap.FunFrames X.base X.outer
 frf:∀b∈X.fs,X.H₀ b=none
structure Inv (X:Cx)(pins:List (Addr×Obj))(σ:List (Option V))(H:Hp)(s:Shared):Prop where
 ok:X.Ok
 os:s.os=X.s₀.os
 bare:AllBare s.gens
 base:Un X.fs X.ex X.H₀ H X.s₀.heap s.heap
 loc:∃m,s.heap.Ns X.env.locals m/\∀(i:Nat) (x:Str) (v:V),X.N[i]?=some x->σ[i]?=some (some v)->Vis X.env.scope x->∃u,RelV v u/\Look X.env s.heap m x u
 cell:∀x c,X.env.cells.lookup x=some c->∃v,s.heap.IsCell c v
 free:H X.env.locals=none
 freeC:∀x c,X.env.cells.lookup x=some c->H c=none
 pin:∀p∈X.pn++pins,s.heap.get? p.1=some p.2/\H p.1=none/\p.1≠X.env.locals/\p.1∉X.fs/\∀v,p.2.data≠.cell v
 hok:W8 X.prog X.w H s.heap
 len:σ.length=X.N.length
section
variable {X:Cx}{pins:List (Addr×Obj)}{σ:List (Option V)}{H H':Hp}{s:Shared}{h':Heap}
theorem Cx.Ok.nofr (ok:X.Ok){b:Addr}{o:Obj}(e:X.base.get? b=some o):b∉X.fs:=fun hb=>by
 have:=(ok.funs.mem hb).1
 rw[e] at this;cases this
theorem Inv.bs (I:Inv X pins σ H s):∀b o,X.base.get? b=some o->s.heap.get? b=some o/\H b=none:=fun b o e=>
 ⟨I.base.keep b o (I.ok.bs b o e).1 (I.ok.bs b o e).2 (I.ok.nofr e) (I.ok.noex b o e),I.base.free b o (I.ok.bs b o e).1 (I.ok.bs b o e).2 (I.ok.noex b o e)⟩
theorem Inv.bk (I:Inv X pins σ H s):∀b o,X.base.get? b=some o->s.heap.get? b=some o:=fun b o e=>(I.bs b o e).1
theorem Inv.mod (I:Inv X pins σ H s):Mod X.K X.mg X.base:=I.ok.mod
theorem Inv.kIn (I:Inv X pins σ H s):X.K.In s.heap:=I.ok.mod.kin.keeps I.bk
theorem Inv.lt (I:Inv X pins σ H s):X.env.locals<s.heap.objs.size:=let ⟨_,hn,_⟩:=I.loc;hn.lt
theorem Inv.sz (I:Inv X pins σ H s):X.s₀.heap.objs.size<=s.heap.objs.size:=Nat.le_trans I.ok.above (Nat.le_of_lt I.lt)
theorem Inv.nofs (I:Inv X pins σ H s){a:Addr}(h:s.heap.objs.size<=a):a∉X.fs:=fun hb=>by
 obtain⟨_,o,ho,_⟩:=I.ok.funs.mem hb
 exact absurd (Nat.lt_of_lt_of_le (Zp ho) (Nat.le_trans I.sz h)) (Nat.lt_irrefl _)
theorem Inv.cne (I:Inv X pins σ H s):∀x c,X.env.cells.lookup x=some c->c≠X.env.locals:=fun x c e z=>by
 obtain⟨v,o,ho,hd⟩:=I.cell x c e
 obtain⟨m,⟨o',es,ep,ho',hd',_⟩,_⟩:=I.loc
 rw[z,ho'] at ho;cases ho;rw[hd'] at hd;cases hd
theorem Inv.funs (I:Inv X pins σ H s):s.heap.FunFrames X.base X.outer:=by
 have all:∀(l:List Env),(∀b∈frs l,b∈X.fs)->X.s₀.heap.FunFrames X.base l->s.heap.FunFrames X.base l:=by
  intro l
  induction l with
  |nil=>intro _ _;trivial
  |cons env r ih=>
   intro hs hl
   obtain⟨hk,⟨L,o,hf,hn,ho,hd⟩,hr⟩:=hl
   have hL:L∈X.fs:=hs L (by unfold frs;rw[List.filterMap_cons,hf];exact List.mem_cons_self)
   obtain⟨sl,e⟩:=I.base.slot L o ho (I.ok.frf L hL) hL fun z=>I.ok.exfs L z hL
   exact⟨hk,⟨L,_,hf,hn,e,hd⟩,ih (fun b hb=>hs b (by unfold frs;rw[List.filterMap_cons,hf];exact List.mem_cons_of_mem _ hb)) hr⟩
 exact all X.outer (fun _ hb=>hb) I.ok.funs
theorem Inv.stack (I:Inv X pins σ H s):s.heap.FunFrames X.base X.stack:=by
 rcases I.ok.stk with e|⟨e,hf⟩
 ·rw[e];exact I.funs
 ·rw[e]
  obtain⟨m,hn,_⟩:=I.loc
  refine .cons (by rw[I.ok.kind];decide) hf hn ?_ I.funs
  exact Heap.get?_none_of_le (Nat.le_trans I.ok.bsz I.ok.above)
theorem Inv.stkSub (I:Inv X pins σ H s):∀b∈frs X.stack,b∈X.env.locals::X.fs:=fun b hb=>by
 rcases I.ok.stk with e|⟨e,hf⟩
 ·rw[e] at hb;exact List.mem_cons_of_mem _ hb
 ·rw[e] at hb
  unfold frs at hb
  rw[List.filterMap_cons,hf] at hb
  exact hb
theorem Inv.stkFree (I:Inv X pins σ H s):∀b∈frs X.stack,H b=none:=fun b hb=>by
 rcases List.mem_cons.mp (I.stkSub b hb) with e|hb
 ·rw[e];exact I.free
 ·obtain⟨_,o,ho,_⟩:=I.ok.funs.mem hb
  exact I.base.free b o ho (I.ok.frf b hb) fun z=>I.ok.exfs b z hb
theorem Inv.step {g':Array GenState}{t':Nat}{d':Drawn}{ch:List Addr}(I:Inv X pins σ H s)
  (hch:∀b∈ch,(b∈X.ex\/X.s₀.heap.objs.size<=b)/\b≠X.env.locals/\(∀x c,X.env.cells.lookup x=some c->c≠b)/\∀p∈X.pn++pins,p.1≠b)
  (keep:∀b o,b≠X.env.locals->b∉X.fs->b∉ch->s.heap.get? b=some o->H b=none->h'.get? b=some o)
  (slot:∀b o,b≠X.env.locals->b∈X.fs->b∉ch->s.heap.get? b=some o->H b=none->∃sl,h'.get? b=some {o with slots:=sl}) (free:∀b o,b∉ch->s.heap.get? b=some o->H b=none->H' b=none)
  (there:∀b o,b∉ch->s.heap.get? b=some o->∃o',h'.get? b=some o')
  (tups:∀b xs,H b=some (.tup xs)->H' b=some (.tup xs)) (frzs:∀b o u,H b=some (.frz o u)->H' b=some (.frz o u)) (tbls:∀b ps,H b=some (.tbl ps)->∃more,H' b=some (.tbl (ps++more)))
  (ns:∀m,s.heap.Ns X.env.locals m->h'.Ns X.env.locals m) (hok:W8 X.prog X.w H' h') (hg:AllBare g') :
  Inv X pins σ H' {s with heap:=h',gens:=g',drawn:=d',toks:=t'}:=by
 have neL:∀b o,X.s₀.heap.get? b=some o->b≠X.env.locals:=fun b o e=>Nat.ne_of_lt (Nat.lt_of_lt_of_le (Zp e) I.ok.above)
 have neC:∀b o,X.s₀.heap.get? b=some o->b∉X.ex->b∉ch:=fun b o e hx hb=>by
  rcases (hch b hb).1 with z|z
  ·exact hx z
  ·exact absurd (Nat.lt_of_lt_of_le (Zp e) z) (Nat.lt_irrefl _)
 have cellK:∀x c,X.env.cells.lookup x=some c->∀v,s.heap.IsCell c v->h'.IsCell c v:=fun x c e v ⟨o,ho,hd⟩=>by
  have nch:c∉ch:=fun z=>(hch c z).2.2.1 x c e rfl
  by_cases hc:c∈X.fs
  ·obtain⟨sl,q⟩:=slot c o (I.cne x c e) hc nch ho (I.freeC x c e)
   exact⟨_,q,hd⟩
  ·exact⟨o,keep c o (I.cne x c e) hc nch ho (I.freeC x c e),hd⟩
 refine⟨I.ok,I.os,hg,⟨fun b o e n hb hx=>?_,fun b o e n hb hx=>?_,fun b o e n hx=>?_,fun b o e hx=>?_,fun b xs e=>tups b xs (I.base.tups b xs e),fun b o xs e=>frzs b o xs (I.base.frzs b o xs e),fun b ps e=>?_⟩,?_,fun x c e=>?_,?_,fun x c e=>?_,fun p hp=>?_,hok,I.len⟩
 ·exact keep b o (neL b o e) hb (neC b o e hx) (I.base.keep b o e n hb hx) (I.base.free b o e n hx)
 ·obtain⟨sl,e1⟩:=I.base.slot b o e n hb hx
  obtain⟨sl',e2⟩:=slot b _ (neL b o e) hb (neC b o e hx) e1 (I.base.free b o e n hx)
  exact⟨sl',e2⟩
 ·obtain⟨o',e1⟩:=I.base.there b o e hx
  exact free b o' (neC b o e hx) e1 (I.base.free b o e n hx)
 ·obtain⟨o',e1⟩:=I.base.there b o e hx
  exact there b o' (neC b o e hx) e1
 ·obtain⟨m1,e1⟩:=I.base.tbls b ps e
  obtain⟨m2,e2⟩:=tbls b _ e1
  exact⟨m1++m2,by rw[e2,Array.append_assoc]⟩
 ·obtain⟨m,hn,hl⟩:=I.loc
  refine⟨m,ns m hn,fun i x v e1 e2 e3=>?_⟩
  obtain⟨u,r,l⟩:=hl i x v e1 e2 e3
  refine⟨u,r,?_⟩
  rcases l with l|⟨k,c,e,z⟩
  ·exact .inl l
  ·exact .inr ⟨k,c,e,cellK x c e _ z⟩
 ·obtain⟨v,z⟩:=I.cell x c e
  exact⟨v,cellK x c e v z⟩
 ·obtain⟨m,⟨o,_,_,ho,_⟩,_⟩:=I.loc
  exact free _ o (fun z=>(hch _ z).2.1 rfl) ho I.free
 ·obtain⟨v,o,ho,hd⟩:=I.cell x c e
  exact free c o (fun z=>(hch c z).2.2.1 x c e rfl) ho (I.freeC x c e)
 ·obtain⟨e,n,ne,nf,d⟩:=I.pin p hp
  have nch:p.1∉ch:=fun z=>(hch p.1 z).2.2.2 p hp rfl
  exact⟨keep p.1 p.2 ne nf nch e n,free p.1 p.2 nch e n,ne,nf,d⟩
theorem Inv.un {t':Nat}(I:Inv X pins σ H s)(u:Un X.fs [] H H' s.heap h')(hok:W8 X.prog X.w H' h'):Inv X pins σ H' {s with heap:=h',toks:=t'}:=by
 obtain⟨m,⟨o,es,ep,ho,r⟩,_⟩:=id I.loc
 obtain⟨sl,hL⟩:=u.any ho I.free (by simp)
 exact I.step (g':=s.gens) (d':=s.drawn) (ch:=[]) (fun _ z=>nomatch z) (fun b o _ hb _ e n=>u.keep b o e n hb (by simp)) (fun b o _ hb _ e n=>u.slot b o e n hb (by simp)) (fun b o _ e n=>u.free b o e n (by simp)) (fun b o _ e=>u.there b o e (by simp)) u.tups u.frzs u.tbls (fun m' hm=>by
  obtain⟨o',es',ep',ho',r'⟩:=hm
  rw[ho] at ho';cases ho'
  exact⟨_,es',ep',hL,r'⟩) hok I.bare
theorem Inv.call {g':Array GenState}{t':Nat}{d':Drawn}{ch:List Addr}(I:Inv X pins σ H s)(u:Un (frs X.stack) ch H H' s.heap h')(hok:W8 X.prog X.w H' h')(hg:AllBare g')
  (hch:∀b∈ch,(b∈X.ex\/X.s₀.heap.objs.size<=b)/\b≠X.env.locals/\(∀x c,X.env.cells.lookup x=some c->c≠b)/\∀p∈X.pn++pins,p.1≠b) :
  Inv X pins σ H' {s with heap:=h',gens:=g',drawn:=d',toks:=t'}:=by
 obtain⟨m,⟨o,es,ep,ho,r⟩,_⟩:=id I.loc
 obtain⟨sl,hL⟩:=u.any ho I.free fun z=>(hch _ z).2.1 rfl
 exact I.step (ch:=ch) hch (fun b o hL hb hc e n=>u.keep b o e n (fun z=>(List.mem_cons.mp (I.stkSub b z)).elim hL hb) hc) (fun b o _ _ hc e n=>u.any e n hc) (fun b o hc e n=>u.free b o e n hc) (fun b o hc e=>u.there b o e hc) u.tups u.frzs u.tbls (fun m' hm=>by
  obtain⟨o',es',ep',ho',r'⟩:=hm
  rw[ho] at ho';cases ho'
  exact⟨_,es',ep',hL,r'⟩) hok hg
theorem Inv.turned {t':Nat}{it:Addr}(I:Inv X pins σ H s)(k:∀b o,b≠it->s.heap.get? b=some o->h'.get? b=some o)(hn:H it=none)(hL:it≠X.env.locals)
  (h1:it∈X.ex\/X.s₀.heap.objs.size<=it) (h2:∀x c,X.env.cells.lookup x=some c->c≠it) (h3:∀p∈X.pn++pins,p.1≠it):Inv X pins σ H {s with heap:=h',toks:=t'}:=by
 have nit:∀b u,H b=some u->b≠it:=fun b u e z=>by rw[z,hn] at e;cases e
 refine I.step (g':=s.gens) (d':=s.drawn) (ch:=[it]) (fun b hb=>?_) (fun b o _ _ hc e _=>k b o (fun z=>hc (by simp[z])) e) (fun b o _ _ hc e _=>⟨o.slots,k b o (fun z=>hc (by simp[z])) e⟩) (fun _ _ _ _ n=>n)
  (fun b o hc e=>⟨o,k b o (fun z=>hc (by simp[z])) e⟩) (fun _ _ e=>e) (fun _ _ _ e=>e) (fun b ps e=>⟨#[],by rw[e];simp⟩) (fun m hm=>?_) (fun b u e=>?_) I.bare
 ·have e:b=it:=by simpa using hb
  subst e
  exact⟨h1,hL,h2,h3⟩
 ·obtain⟨o,es,ep,ho,r⟩:=hm
  exact⟨o,es,ep,k _ o (Ne.symm hL) ho,r⟩
 ·refine (I.hok b u e).stay (fun c v hc q=>k c v ?_ q) (fun _ q=>q) fun _ _ q=>q
  rcases hc with z|z
  ·rw[z];exact nit b u e
  ·exact nit c _ z
theorem Inv.tok (I:Inv X pins σ H s)(t:Nat):Inv X pins σ H {s with toks:=t}:=I.un (h':=s.heap) (t':=t) Un.refl I.hok
theorem Inv.kept {t':Nat}(I:Inv X pins σ H s)(k:∀b u,s.heap.get? b=some u->h'.get? b=some u):Inv X pins σ H {s with heap:=h',toks:=t'}:=I.un (Un.kept k) (I.hok.kept k)
theorem Inv.laid {a:Addr}{o:HO}{t':Nat}(I:Inv X pins σ H s)(k:∀b u,s.heap.get? b=some u->h'.get? b=some u)(hp:s.heap.objs.size<=a)(new:ZN X.prog X.w (upd H a o) h' a o) :
  Inv X pins σ (upd H a o) {s with heap:=h',toks:=t'}:=I.un (Un.laid k hp (I.hok.fresh hp)) (I.hok.laid k hp new)
theorem Inv.write {x e:Addr}{o:HO}{t':Nat}(I:Inv X pins σ H s)(mu:Mut (H x))(he:e=x\/H e=some (.own x))(k:∀b u,b≠e->s.heap.get? b=some u->h'.get? b=some u)(heo:∃u,h'.get? e=some u)
  (new:ZN X.prog X.w (upd H x o) h' x o):Inv X pins σ (upd H x o) {s with heap:=h',toks:=t'}:=I.un (Un.write mu he k heo) (I.hok.write mu he k heo new)
theorem Inv.weak {σ':List (Option V)}(I:Inv X pins σ H s)(hl:σ'.length=σ.length)(w:∀(i:Nat) v,σ'[i]?=some (some v)->σ[i]?=some (some v)):Inv X pins σ' H s:=
 ⟨I.ok,I.os,I.bare,I.base,let ⟨m,hn,hl'⟩:=I.loc;⟨m,hn,fun i x v e1 e2 e3=>hl' i x v e1 (w i v e2) e3⟩,I.cell,I.free,I.freeC,I.pin,I.hok,hl.trans I.len⟩
theorem Inv.pins_of {pins':List (Addr×Obj)}(I:Inv X pins σ H s)(h:∀p∈pins',s.heap.get? p.1=some p.2/\H p.1=none/\p.1≠X.env.locals/\p.1∉X.fs/\∀v,p.2.data≠.cell v):Inv X pins' σ H s:=
 ⟨I.ok,I.os,I.bare,I.base,I.loc,I.cell,I.free,I.freeC,fun p hp=>(List.mem_append.mp hp).elim (fun z=>I.pin p (List.mem_append_left _ z)) (h p),I.hok,I.len⟩
theorem Vh {N:List Str}(hN:N.Nodup){i j:Nat}{x:Str}(a:N[i]?=some x)(b:N[j]?=some x):i=j:=by
 obtain⟨h1,e1⟩:=List.getElem?_eq_some_iff.mp a
 obtain⟨h2,e2⟩:=List.getElem?_eq_some_iff.mp b
 exact (List.getElem_inj hN).mp (e1.trans e2.symm)
theorem VR {M:Model}{A:Around}{E:Value->Shared->Prop}{i:Nat}{x:Str}{v:V}{u:Value}{Q:Unit->Shared->Prop}(I:Inv X pins σ H s)(hN:X.N.Nodup)(hi:X.N[i]?=some x)(hx:Loc X.env.scope x)(r:RelV v u)
  (h:∀s',Inv X pins (σ.set i (some v)) H s'->(∃a,Heap.SameBut a s.heap s'.heap/\(a=X.env.locals\/X.env.cells.lookup x=some a))->Q () s') (hf:X.fn x=true\/X.env.scope.names.lookup x=some .local:=by first|exact .inl rfl|exact .inr rfl|assumption):wpAny M A (storeName X.env x u) Q E s:=by
 obtain⟨m,hn,hl⟩:=id I.loc
 have hcls:(X.env.scope.kind == .class || (X.env.scope.kind == .module && X.env.locals != X.env.globals))=false:=by rw[I.ok.kind];rfl
 have hiσ:i < σ.length:=by rw[I.len];exact (List.getElem?_eq_some_iff.mp hi).1
 have cne:=I.cne
 have tracked:∀{a:Addr}{h':Heap},(∃o,s.heap.get? a=some o/\H a=none)->Heap.SameBut a s.heap h'->W8 X.prog X.w H h':=fun {a h'} ha hs b ob e=>by
  obtain⟨_,_,hfree⟩:=ha
  refine (I.hok b ob e).stay (fun c w' hc q=>(hs.2 c ?_).trans q) (fun _ q=>q) fun _ _ q=>q
  rintro rfl
  rcases hc with rfl|hc
  ·rw[hfree] at e;cases e
  ·rw[hfree] at hc;cases hc
 rcases hx with hk|hk
 ·refine wpAny_storeName_local hk hn (fun h' hn' hs=>?_) hcls
  obtain⟨oL,_,_,hoL,_⟩:=id hn
  refine h _ ⟨I.ok,I.os,I.bare,⟨fun b o e n hb hx=>?_,fun b o e n hb hx=>?_,I.base.free,fun b o e hx=>?_,I.base.tups,I.base.frzs,I.base.tbls⟩,⟨_,hn',fun j y v' e1 e2 e3=>?_⟩,fun y c e=>?_,I.free,I.freeC,fun p hp=>?_,tracked ⟨oL,hoL,I.free⟩ hs,by simpa using I.len⟩ ⟨_,hs,.inl rfl⟩
  ·exact (hs.2 b (Nat.ne_of_lt (Nat.lt_of_lt_of_le (Zp e) I.ok.above))).trans (I.base.keep b o e n hb hx)
  ·obtain⟨sl,e1⟩:=I.base.slot b o e n hb hx
   exact⟨sl,(hs.2 b (Nat.ne_of_lt (Nat.lt_of_lt_of_le (Zp e) I.ok.above))).trans e1⟩
  ·obtain⟨o',e1⟩:=I.base.there b o e hx
   exact⟨o',(hs.2 b (Nat.ne_of_lt (Nat.lt_of_lt_of_le (Zp e) I.ok.above))).trans e1⟩
  ·by_cases hj:j=i
   ·subst hj
    rw[hi] at e1;cases e1
    rw[List.getElem?_set_self hiσ] at e2
    cases e2
    exact⟨u,r,.inl ⟨hk,by simp⟩⟩
   ·rw[List.getElem?_set_ne (Ne.symm hj)] at e2
    obtain⟨u',r',q⟩:=hl j y v' e1 e2 e3
    refine⟨u',r',?_⟩
    rcases q with ⟨k,e⟩|⟨k,c,e,z⟩
    ·refine .inl ⟨k,?_⟩
     have:y≠x:=fun e=>hj (Vh hN e1 (e▸hi))
     simp[this,e]
    ·exact .inr ⟨k,c,e,z.sameBut hs (cne y c e)⟩
  ·obtain⟨w',z⟩:=I.cell y c e
   exact⟨w',z.sameBut hs (cne y c e)⟩
  ·obtain⟨e,n,ne,nf,d⟩:=I.pin p hp
   exact⟨(hs.2 p.1 ne).trans e,n,ne,nf,d⟩
 ·have hfn:X.fn x=true:=by
   rcases hf with z|z
   ·exact z
   ·rw[z] at hk;cases hk
  obtain⟨c,hc⟩:=I.ok.has x (.inl hk)
  obtain⟨w',z⟩:=I.cell x c hc
  refine wpAny_storeName_cell I.ok.kind hk hc z (fun h' hc' hs=>?_)
  obtain⟨oc,hoc,hocd⟩:=id z
  refine h {s with heap:=h'} ⟨I.ok,I.os,I.bare,⟨fun b o e n hb hx=>?_,fun b o e n hb hx=>?_,I.base.free,fun b o e hx=>?_,I.base.tups,I.base.frzs,I.base.tbls⟩,⟨m,hn.sameBut hs (Ne.symm (cne x c hc)),fun j y v' e1 e2 e3=>?_⟩,fun y c' e=>?_,I.free,I.freeC,fun p hp=>?_,tracked ⟨oc,hoc,I.freeC x c hc⟩ hs,by simpa using I.len⟩ ⟨c,hs,.inr hc⟩
  ·exact (hs.2 b (Nat.ne_of_lt (Nat.lt_of_lt_of_le (Zp e) (I.ok.cab x c hfn hc)))).trans (I.base.keep b o e n hb hx)
  ·obtain⟨sl,e1⟩:=I.base.slot b o e n hb hx
   exact⟨sl,(hs.2 b (Nat.ne_of_lt (Nat.lt_of_lt_of_le (Zp e) (I.ok.cab x c hfn hc)))).trans e1⟩
  ·obtain⟨o',e1⟩:=I.base.there b o e hx
   exact⟨o',(hs.2 b (Nat.ne_of_lt (Nat.lt_of_lt_of_le (Zp e) (I.ok.cab x c hfn hc)))).trans e1⟩
  ·by_cases hj:j=i
   ·subst hj
    rw[hi] at e1;cases e1
    rw[List.getElem?_set_self hiσ] at e2
    cases e2
    exact⟨u,r,.inr ⟨.inl hk,c,hc,hc'⟩⟩
   ·rw[List.getElem?_set_ne (Ne.symm hj)] at e2
    obtain⟨u',r',q⟩:=hl j y v' e1 e2 e3
    refine⟨u',r',?_⟩
    rcases q with q|⟨k,c',e,z'⟩
    ·exact .inl q
    ·refine .inr ⟨k,c',e,z'.sameBut hs ?_⟩
     rintro rfl
     exact hj (Vh hN e1 (I.ok.inj _ _ _ e hc▸hi))
  ·by_cases hcc:c'=c
   ·subst hcc;exact⟨_,hc'⟩
   ·obtain⟨w2,z2⟩:=I.cell y c' e
    exact⟨w2,z2.sameBut hs hcc⟩
  ·obtain⟨e,n,ne,nf,d⟩:=I.pin p hp
   refine⟨(hs.2 p.1 ?_).trans e,n,ne,nf,d⟩
   intro q
   rw[q,hoc] at e
   have q':oc=p.2:=Option.some.inj e
   exact d w' (by rw[<-q'];exact hocd)
theorem YE {M:Model}{A:Around}{E:Value->Shared->Prop}{i:Nat}{x:Str}{v:V}{u:Value}{Q:Unit->Shared->Prop}(I:Inv X pins σ H s)(hN:X.N.Nodup)(hi:X.N[i]?=some x)(hx:Loc X.env.scope x)(r:RelV v u)
  (h:∀s',Inv X pins (σ.set i (some v)) H s'->Q () s') (hf:X.fn x=true\/X.env.scope.names.lookup x=some .local:=by first|exact .inl rfl|exact .inr rfl|assumption):wpAny M A (storeName X.env x u) Q E s:=
 VR I hN hi hx r (fun s' I' _=>h s' I') hf
theorem Inv.call' {s':Shared}{ch:List Addr}(I:Inv X pins σ H s)(ho:s'.os=s.os)(u:Un (frs X.stack) ch H H' s.heap s'.heap)(hok:W8 X.prog X.w H' s'.heap)(hg:AllBare s'.gens)
  (hch:∀b∈ch,(b∈X.ex\/X.s₀.heap.objs.size<=b)/\b≠X.env.locals/\(∀x c,X.env.cells.lookup x=some c->c≠b)/\∀p∈X.pn++pins,p.1≠b):Inv X pins σ H' s':=by
 obtain⟨h',g',d',t',o'⟩:=s'
 have e:o'=s.os:=ho
 subst e
 exact I.call (g':=g') (t':=t') (d':=d') u hok hg hch
end
abbrev XK:=Value->Option Addr->Hp->Prop
abbrev St:=List (Option V)
abbrev VK:=V->Hp->Prop
abbrev TE:=St->Hp->VK->Prop
abbrev TT:=St->Hp->(Bool->Hp->Prop)->Prop
abbrev TA:=St->Hp->(List V->Hp->Prop)->Prop
structure Ws where
 nx:St->Hp->Prop
 rt:VK
 bk:St->Hp->Prop:=fun _ _=>False
 ct:St->Hp->Prop:=fun _ _=>False
abbrev TS:=Ws->St->Hp->Prop
def EP (X:Cx)(pins:List (Addr×Obj))(σ:St)(Q:VK)(u:Value)(s':Shared):Prop:=∃v H',Inv X pins σ H' s'/\RelV v u/\Q v H'
def TP (X:Cx)(pins:List (Addr×Obj))(σ:St)(Q:Bool->Hp->Prop)(b:Bool)(s':Shared):Prop:=∃H',Inv X pins σ H' s'/\Q b H'
def AP (X:Cx)(pins:List (Addr×Obj))(σ:St)(Q:List V->Hp->Prop)(us:List Value)(s':Shared):Prop:=∃vs H',Inv X pins σ H' s'/\ZB vs us/\Q vs H'
def SP (X:Cx)(pins:List (Addr×Obj))(D:Ws)(f:Flow)(s':Shared):Prop:=
 match f with
 | .next=>∃ σ' H',Inv X pins σ' H' s'/\D.nx σ' H'
 | .brk=>∃ σ' H',Inv X pins σ' H' s'/\D.bk σ' H'
 | .cont=>∃ σ' H',Inv X pins σ' H' s'/\D.ct σ' H'
 | .ret u=>∃v σ' H',Inv X pins σ' H' s'/\RelV v u/\D.rt v H'
def PE (X:Cx)(e:Expr)(t:TE):Prop:=
 ∀(pins:List (Addr×Obj)) (s:Shared) (σ:St) (H:Hp) (Q:VK),Inv X pins σ H s->t σ H Q->wpAny (model X.prog X.w) X.A (eval e X.env) (EP X pins σ Q) X.xe s
def PT (X:Cx)(e:Expr)(t:TT):Prop:=
 ∀(pins:List (Addr×Obj)) (s:Shared) (σ:St) (H:Hp) (Q:Bool->Hp->Prop),Inv X pins σ H s->t σ H Q->wpAny (model X.prog X.w) X.A (isTrue e X.env (eval e X.env)) (TP X pins σ Q) X.xe s
def PW (X:Cx)(e:Expr)(t:TT):Prop:=
 ∀(whole:Sem Value) (pins:List (Addr×Obj)) (s:Shared) (σ:St) (H:Hp) (Q:Bool->Hp->Prop),Inv X pins σ H s->t σ H Q->wpAny (model X.prog X.w) X.A (isTrue e X.env whole) (TP X pins σ Q) X.xe s
theorem PW.pt {X:Cx}{e:Expr}{t:TT}(h:PW X e t):PT X e t:=h _
def PA (X:Cx)(es:List Expr)(t:TA):Prop:=
 ∀(pos:Pos) (pins:List (Addr×Obj)) (s:Shared) (σ:St) (H:Hp) (Q:List V->Hp->Prop),Inv X pins σ H s->t σ H Q->wpAny (model X.prog X.w) X.A (spliced (backTo pos (starEach es X.env))) (AP X pins σ Q) X.xe s
def PS (X:Cx)(st:Stmt)(t:TS):Prop:=
 ∀(pins:List (Addr×Obj)) (s:Shared) (σ:St) (H:Hp) (D:Ws),Inv X pins σ H s->t D σ H->wpAny (model X.prog X.w) X.A (exec st X.env) (SP X pins D) X.xe s
def VM (X:Cx)(st:List Stmt)(t:TS):Prop:=
 ∀(pins:List (Addr×Obj)) (s:Shared) (σ:St) (H:Hp) (D:Ws),Inv X pins σ H s->t D σ H->wpAny (model X.prog X.w) X.A (execs st X.env) (SP X pins D) X.xe s
theorem ZT {α:Type}{t:Sem α}{Q Q':α->Shared->Prop}{M:Model}{A:Around}{E:Value->Shared->Prop}{s:Shared}(h:wpAny M A t Q E s)(hQ:∀a s,Q a s->Q' a s):wpAny M A t Q' E s:=wpAny_mono h hQ fun _ _ x=>x
section
variable {X:Cx}
def ZgR (i:Nat):TE:=fun σ H Q=>∃v,σ[i]?=some (some v)/\Q v H
def tC (v:V):TE:=fun _ H Q=>Q v H
theorem Zi4 {i:Nat}{x:Str}{pos:Pos}(hN:X.N[i]?=some x)(hv:Vis X.env.scope x)(hd:(x == ("__debug__":Str))=false:=by decide)(hcd:(x == ("__classdict__":Str))=false:=by decide):PE X (.Name x pos) (ZgR i):=by
 intro pins s σ H Q I h
 obtain⟨v,e,h⟩:=h
 obtain⟨m,hn,hl⟩:=I.loc
 obtain⟨u,r,l⟩:=hl i x v hN e hv
 have fin:EP X pins σ Q u s:=⟨v,H,I,r,h⟩
 rcases l with ⟨hk,hm⟩|⟨hk,c,hc,hcell⟩
 ·exact wpAny_Name (wpAny_loadName_local I.ok.kind hk hn hm fin) hd
 ·rcases hk with hk|hk
  ·exact wpAny_Name (wpAny_loadName_cell I.ok.kind hk hc hcell fin) hd
  ·exact wpAny_Name (wpAny_loadName_free I.ok.kind hk hc hcell fin hcd) hd
theorem Zz {i j pos}:PE X (.Constant (.int i) j pos) (tC (.int i)):=fun _ _ _ H _ I h=>wpAny_Constant_int ⟨.int i,H,I.tok _,⟨_,rfl⟩,h⟩
theorem Yo {b j pos}:PE X (.Constant (.bool b) j pos) (tC (.bl b)):=fun _ _ _ H _ I h=>Constant_bool ⟨.bl b,H,I,rfl,h⟩
theorem UQ {j pos}:PE X (.Constant .none j pos) (tC .non):=fun _ _ _ H _ I h=>Constant_none ⟨.non,H,I,rfl,h⟩
theorem Yn {x j pos}:PE X (.Constant (.str x) j pos) (tC (.str x)):=fun _ _ _ H _ I h=>Calls.Constant_str ⟨.str x,H,I.tok _,⟨_,rfl⟩,h⟩
def Gl (X:Cx)(x:Str):Prop:=X.env.kindOf x=some .globalImplicit
theorem JR {E:Value->Shared->Prop}{pins:List (Addr×Obj)}{s:Shared}{σ:St}{H:Hp}{x:Str}{u:Value}{pos:Pos}{Q:Value->Shared->Prop}(I:Inv X pins σ H s)(hg:Gl X x)(hm:X.mg x=some u)(h:Q u s)
  (hd:(x == ("__debug__":Str))=false:=by decide):wpAny (model X.prog X.w) X.A (eval (.Name x pos) X.env) Q E s:=
 Calls.Name_function_global I.ok.kind hg (Calls.loadGlobal_global (by rw[I.ok.glob];exact I.mod.glob.keeps I.bk) hm h) hd
theorem Vj {E:Value->Shared->Prop}{pins:List (Addr×Obj)}{s:Shared}{σ:St}{H:Hp}{x:Str}{u:Value}{pos:Pos}{Q:Value->Shared->Prop}(I:Inv X pins σ H s)(hg:Gl X x)(hm:X.mg x=none)(hv:bootBuiltins x=some u)(h:Q u s)
  (hn:x ≠ "__name__":=by decide) (hd:(x == ("__debug__":Str))=false:=by decide):wpAny (model X.prog X.w) X.A (eval (.Name x pos) X.env) Q E s:=by
 obtain⟨mb,h1,h2⟩:=I.mod.blt
 exact Calls.Name_function_global I.ok.kind hg (Calls.loadGlobal_builtin (by rw[I.ok.glob];exact I.mod.glob.keeps I.bk) hm (by rw[I.ok.blt];exact h1.keeps I.bk) ((h2 x hn).trans hv) h) hd
theorem ZcV {x:Str}{v:V}{u:Value}{pos:Pos}(hg:Gl X x)(hm:X.mg x=some u)(r:RelV v u)(hd:(x == ("__debug__":Str))=false:=by decide):PE X (.Name x pos) (tC v):=
 fun _ _ _ H _ I h=>JR I hg hm ⟨v,H,I,r,h⟩ hd
theorem Zhe {x:Str}{v:V}{u:Value}{pos:Pos}(hg:Gl X x)(hm:X.mg x=none)(hv:bootBuiltins x=some u)(r:RelV v u)(hn:x ≠ "__name__":=by decide)(hd:(x == ("__debug__":Str))=false:=by decide):PE X (.Name x pos) (tC v):=
 fun _ _ _ H _ I h=>Vj I hg hm hv ⟨v,H,I,r,h⟩ hn hd
variable {a b:Expr}{ta tb:TE}{pos:Pos}
def PC (X:Cx)(op:CmpOp)(a b:Expr)(t:TE):Prop:=
 ∀(pins:List (Addr×Obj)) (s:Shared) (σ:St) (H:Hp) (Q:VK),Inv X pins σ H s->t σ H Q->
  wpAny (model X.prog X.w) X.A (eval a X.env) (fun v s₁=>wpAny (model X.prog X.w) X.A (eval b X.env) (fun u s₂=>wpAny (model X.prog X.w) X.A (compareOp op v u) (EP X pins σ Q) X.xe s₂) X.xe s₁) X.xe s
def tB (t:TE):TT:=fun σ H Q=>t σ H fun x H1=>∃c,x=.bl c/\Q c H1
theorem Zfg {op:CmpOp}{t:TE}(h:PC X op a b t)(h1:behindInMarks op b=false:=by first|exact nobehind _ (by decide) (by decide)|rfl):PT X (.Compare a [op] [b] pos) (tB t):=by
 intro pins s σ H Q I hw
 refine wpAny_isTrue_Compare1 (ZT (h pins s σ H _ I hw) fun v s1 h1=>ZT h1 fun u s2 h2=>ZT h2 fun c s3 ⟨x,H1,I1,r1,q1⟩=>?_) h1
 obtain⟨d,rfl,q⟩:=q1
 cases r1
 exact wpAny_truthy_bool ⟨H1,I1,q⟩
theorem YJ {e:Expr}{t:TE}(h:PE X e t)(he:∀whole,isTrue e X.env whole=(do let v <-whole;standAt e.pos;holding [v] (truthy v)):=by intro _;rfl):PT X e (tB t):=by
 intro pins s σ H Q I hw
 refine isTrue_plain (ZT (h pins s σ H _ I hw) fun v s1 ⟨x,H1,I1,r1,q1⟩=>?_) (he _)
 obtain⟨d,rfl,q⟩:=q1
 cases r1
 exact wpAny_truthy_bool ⟨H1,I1,q⟩
variable {tA tB':TT}{rest:List Expr}
def ZlJ (t u:TT):TT:=fun σ H Q=>t σ H fun c H1=>if c=true then u σ H1 Q else Q false H1
def tOr (t u:TT):TT:=fun σ H Q=>t σ H fun c H1=>if c=true then Q true H1 else u σ H1 Q
def ZlD (t:TT):TT:=fun σ H Q=>t σ H fun c H1=>Q (!c) H1
theorem UK (ha:PT X a tA):PW X (.BoolOp .And [a] pos) tA:=by
 intro wh pins s σ H Q I h
 refine isTrue_and (ZT (ha pins s σ H Q I h) fun c s1 e=>?_)
 cases c with
 |true=>exact isTrue_and_nil e
 |false=>exact e
theorem X8 (ha:PT X a tA):PW X (.BoolOp .Or [a] pos) tA:=by
 intro wh pins s σ H Q I h
 refine isTrue_or (ZT (ha pins s σ H Q I h) fun c s1 e=>?_)
 cases c with
 |false=>exact isTrue_or_nil e
 |true=>exact e
theorem ZbU (ha:PT X a tA)(hb:PW X (.BoolOp .And (b::rest) pos) tB'):PW X (.BoolOp .And (a::b::rest) pos) (ZlJ tA tB'):=by
 intro wh pins s σ H Q I h
 refine isTrue_and (ZT (ha pins s σ H _ I h) fun c s1 ⟨H1,I1,q1⟩=>?_)
 cases c with
 |true=>exact hb wh pins s1 σ H1 Q I1 q1
 |false=>exact⟨H1,I1,q1⟩
theorem VZ (ha:PT X a tA)(hb:PW X (.BoolOp .Or (b::rest) pos) tB'):PW X (.BoolOp .Or (a::b::rest) pos) (tOr tA tB'):=by
 intro wh pins s σ H Q I h
 refine isTrue_or (ZT (ha pins s σ H _ I h) fun c s1 ⟨H1,I1,q1⟩=>?_)
 cases c with
 |true=>exact⟨H1,I1,q1⟩
 |false=>exact hb wh pins s1 σ H1 Q I1 q1
theorem Ww (ha:PT X a tA):PT X (.UnaryOp .Not a pos) (ZlD tA):=by
 intro pins s σ H Q I h
 exact isTrue_not (ha pins s σ H (fun c H1=>Q (!c) H1) I h)
def Zks (ta tb:TE):TE:=fun σ H Q=>ta σ H fun x H1=>∃c,x=.bl c/\if c=true then tb σ H1 Q else Q (.bl false) H1
def Zkn (ta:TE):TE:=fun σ H Q=>ta σ H fun x H1=>∃c,x=.bl c/\Q (.bl (!c)) H1
theorem Vd {op}{t:TE}(h:PE X a t):PE X (.BoolOp op [a] pos) t:=fun pins s σ H Q I hw=>BoolOp_one (h pins s σ H Q I hw)
theorem Ve (ha:PE X a ta)(hb:PE X (.BoolOp .And (b::rest) pos) tb):PE X (.BoolOp .And (a::b::rest) pos) (Zks ta tb):=by
 intro pins s σ H Q I h
 refine BoolOp_and (ZT (ha pins s σ H _ I h) fun v s1 ⟨x,H1,I1,r1,q1⟩=>?_)
 obtain⟨c,rfl,q1⟩:=q1
 cases r1
 refine wpAny_truthy_bool ?_
 cases c with
 |true=>exact hb pins s1 σ H1 Q I1 q1
 |false=>exact⟨.bl false,H1,I1,rfl,q1⟩
theorem Zi5 (ha:PE X a ta):PE X (.UnaryOp .Not a pos) (Zkn ta):=by
 intro pins s σ H Q I h
 refine UnaryOp_ (ZT (ha pins s σ H _ I h) fun v s1 ⟨x,H1,I1,r1,q1⟩=>?_)
 obtain⟨c,rfl,q1⟩:=q1
 cases r1
 exact not_of (wpAny_truthy_bool ⟨.bl (!c),H1,I1,rfl,q1⟩)
def tIf (t:TT)(ta tb:TE):TE:=fun σ H Q=>t σ H fun c H1=>if c=true then ta σ H1 Q else tb σ H1 Q
theorem Zfh {c:Expr}(hc:PT X c tA)(ha:PE X a ta)(hb:PE X b tb):PE X (.IfExp c a b pos) (tIf tA ta tb):=by
 intro pins s σ H Q I h
 refine wpAny_IfExp (ZT (hc pins s σ H _ I h) fun d s1 ⟨H1,I1,q1⟩=>?_)
 cases d with
 |true=>exact ha pins s1 σ H1 Q I1 q1
 |false=>exact hb pins s1 σ H1 Q I1 q1
end
def Y0 (K:PySem.W.Frag)(H:Hp)(a:Addr)(xs:List V):Prop:=
 Rd H a (.lst xs)\/
  ∃(o:Obj) (its:Array Value) (n:Nat),K.lookup a=some o/\o.cls=.type "list"/\o.dict=none/\o.data=.seq its n/\its.size<=sizeLine/\ZB xs its.toList
def Wu (K:PySem.W.Frag)(H:Hp)(a:Addr)(xs:List V):Prop:=
 Rd H a (.tup xs)\/
  ∃(o:Obj) (its:Array Value) (n:Nat),K.lookup a=some o/\o.cls=.type "tuple"/\o.data=.seq its n/\its.size<=sizeLine/\ZB xs its.toList
def Zl4:Value->Option V
 | .none=>some .non
 | .bool b=>some (.bl b)
 | .int i _=>some (.int i)
 | .str x _=>some (.str x)
 | .bytes b _=>some (.byt b)
 | .float b _=>some (.flt b)
 | .ref a=>some (.ref a)
 | .type n=>some (.ty n)
 |_=>none
theorem RelV.abs {x:V}{u:Value}(r:RelV x u):Zl4 u=some x:=by
 cases x with
 |non=>cases r;rfl
 |bl _=>cases r;rfl
 |int _=>obtain⟨t,rfl⟩:=r;rfl
 |str _=>obtain⟨t,rfl⟩:=r;rfl
 |byt _=>obtain⟨t,rfl⟩:=r;rfl
 |flt _=>obtain⟨t,rfl⟩:=r;rfl
 |ref _=>cases r;rfl
 |ty _=>cases r;rfl
theorem RelV.inj {x y:V}{u:Value}(r:RelV x u)(q:RelV y u):x=y:=Option.some.inj (r.abs.symm.trans q.abs)
theorem ZB.inj:∀{xs ys:List V}{us:List Value},ZB xs us->ZB ys us->xs=ys
 |_,_,_,.nil,.nil=>rfl
 |_,_,_,.cons r t,.cons r' t'=>by rw[r.inj r',ZB.inj t t']
section
variable {X:Cx}{pins:List (Addr×Obj)}{σ:St}{H:Hp}{s:Shared}{a:Addr}{xs ys:List V}
theorem Y0.of {K:PySem.W.Frag}(h:H a=some (.lst xs)):Y0 K H a xs:=.inl (.inl h)
theorem Wu.of {K:PySem.W.Frag}(h:H a=some (.tup xs)):Wu K H a xs:=.inl (.inl h)
theorem Inv.list (I:Inv X pins σ H s)(h:Y0 X.K H a xs):∃its:List Value,ZB xs its/\PlainL s.heap a its.toArray/\xs.length<=sizeLine:=by
 rcases h with h|⟨o,its,n,hk,hc,hd,hs,hz,r⟩
 ·obtain⟨z,its,n,r,e⟩:=h.ok I.hok
  exact⟨its,r,⟨_,n,e,rfl,rfl,rfl⟩,z⟩
 ·refine⟨its.toList,r,⟨o,n,I.kIn a o hk,hc,hd,by simpa using hs⟩,?_⟩
  have e:=r.length
  simp only[Zr] at e
  omega
theorem Inv.tuple (I:Inv X pins σ H s)(h:Wu X.K H a xs):∃its:List Value,ZB xs its/\IsTup s.heap a its.toArray/\xs.length<=sizeLine:=by
 rcases h with h|⟨o,its,n,hk,hc,hs,hz,r⟩
 ·obtain⟨z,its,r,p⟩:=h.ok I.hok
  exact⟨its,r,p,z⟩
 ·refine⟨its.toList,r,⟨o,I.kIn a o hk,hc,n,by simpa using hs⟩,?_⟩
  have e:=r.length
  simp only[Zr] at e
  omega
theorem Inv.list_inj (I:Inv X pins σ H s)(h:Y0 X.K H a xs)(h':Y0 X.K H a ys):xs=ys:=by
 obtain⟨its,r,⟨o,n,e,_,_,d⟩,_⟩:=I.list h
 obtain⟨its',r',⟨o',n',e',_,_,d'⟩,_⟩:=I.list h'
 rw[e] at e';cases e'
 rw[d] at d'
 injection d' with d1 _
 have:its=its':=by simpa using congrArg Array.toList d1
 subst this
 exact r.inj r'
theorem Inv.tuple_inj (I:Inv X pins σ H s)(h:Wu X.K H a xs)(h':Wu X.K H a ys):xs=ys:=by
 obtain⟨its,r,⟨o,e,_,n,d⟩,_⟩:=I.tuple h
 obtain⟨its',r',⟨o',e',_,n',d'⟩,_⟩:=I.tuple h'
 rw[e] at e';cases e'
 rw[d] at d'
 injection d' with d1 _
 have:its=its':=by simpa using congrArg Array.toList d1
 subst this
 exact r.inj r'
end
abbrev Cx.wish (X:Cx)(E:Value->Shared->Prop):Cx:={X with xe:=E}
abbrev Cx.nox (X:Cx):Cx:=X.wish fun _ _=>False
theorem Cx.Ok.wish {X:Cx}(ok:X.Ok)(E:Value->Shared->Prop):(X.wish E).Ok:=
 ⟨ok.mod,ok.kind,ok.glob,ok.blt,ok.above,ok.inj,ok.has,ok.cab,ok.hd,ok.frames,ok.stk,ok.exf,ok.bs,ok.bsz,ok.noex,ok.exfs,ok.funs,ok.frf⟩
theorem Cx.Ok.unwish {X:Cx}{E:Value->Shared->Prop}(ok:(X.wish E).Ok):X.Ok:=
 ⟨ok.mod,ok.kind,ok.glob,ok.blt,ok.above,ok.inj,ok.has,ok.cab,ok.hd,ok.frames,ok.stk,ok.exf,ok.bs,ok.bsz,ok.noex,ok.exfs,ok.funs,ok.frf⟩
section
variable {X:Cx}{pins:List (Addr×Obj)}{σ:St}{H:Hp}{s:Shared}{E:Value->Shared->Prop}
theorem Inv.wish (I:Inv X pins σ H s)(E:Value->Shared->Prop):Inv (X.wish E) pins σ H s:=⟨I.ok.wish E,I.os,I.bare,I.base,I.loc,I.cell,I.free,I.freeC,I.pin,I.hok,I.len⟩
theorem Inv.unwish (I:Inv (X.wish E) pins σ H s):Inv X pins σ H s:=⟨I.ok.unwish,I.os,I.bare,I.base,I.loc,I.cell,I.free,I.freeC,I.pin,I.hok,I.len⟩
theorem SP.unwish {D:Ws}{f:Flow}{s':Shared}(h:SP (X.wish E) pins D f s'):SP X pins D f s':=by
 cases f with
 |next=>obtain⟨σ',H',I,q⟩:=h;exact⟨σ',H',I.unwish,q⟩
 |brk=>obtain⟨σ',H',I,q⟩:=h;exact⟨σ',H',I.unwish,q⟩
 |cont=>obtain⟨σ',H',I,q⟩:=h;exact⟨σ',H',I.unwish,q⟩
 |ret u=>obtain⟨v,σ',H',I,r,q⟩:=h;exact⟨v,σ',H',I.unwish,r,q⟩
theorem VM.nox {st:List Stmt}{t:TS}(h:VM X.nox st t):VM X st t:=fun pins s σ H D I hw=>
 wpAny_mono (h pins s σ H D (I.wish _) hw) (fun _ _ q=>q.unwish) fun _ _ z=>False.elim z
end
section
variable {X:Cx}{st:Stmt}{rest:List Stmt}{t u:TS}{e:Expr}{te:TE}{pos:Pos}
def Zko:TS:=fun D σ H=>D.nx σ H
def ZgS (t u:TS):TS:=fun D σ H=>t {D with nx:=u D} σ H
theorem ZJ:VM X [] Zko:=fun _ _ σ H _ I h=>wpAny_execs_nil ⟨σ,H,I,h⟩
theorem Zu (h1:PS X st t)(h2:VM X rest u):VM X (st::rest) (ZgS t u):=by
 intro pins s σ H D I h
 refine wpAny_execs_cons (ZT (h1 pins s σ H {D with nx:=u D} I h) fun f s1 q=>?_)
 cases f with
 |next=>
  obtain⟨σ',H',I',q⟩:=q
  exact h2 pins s1 σ' H' D I' q
 |ret v=>exact q
 |brk=>exact q
 |cont=>exact q
theorem Zv (h1:PS X st t):VM X [st] t:=by
 intro pins s σ H D I h
 refine wpAny_execs_cons (ZT (h1 pins s σ H D I h) fun f s1 q=>?_)
 cases f with
 |next=>exact wpAny_execs_nil q
 |ret v=>exact q
 |brk=>exact q
 |cont=>exact q
theorem Inv.quiet {pins:List (Addr×Obj)}{σ:St}{H:Hp}{s:Shared}(I:Inv X pins σ H s):interactive X.env=false:=by simp[interactive,I.ok.kind]
def ZeM (te:TE):TS:=fun D σ H=>te σ H fun _ H1=>D.nx σ H1
theorem Y9 (he:PE X e te)(hs:swapsWith e none pos.line X.env=pure false:=by rfl):PS X (.Expr e pos) (ZeM te):=by
 intro pins s σ H D I h
 exact wpAny_Expr_any (ZT (he pins s σ H _ I h) fun v s1 ⟨x,H1,I1,r1,q1⟩=>⟨σ,H1,I1,q1⟩) I.quiet hs
def ZlC (te:TE):TS:=fun D σ H=>te σ H D.rt
theorem ZC (he:PE X e te):PS X (.Return (some e) pos) (ZlC te):=by
 intro pins s σ H D I h
 exact wpAny_Return_some (ZT (he pins s σ H _ I h) fun v s1 ⟨x,H1,I1,r1,q1⟩=>⟨x,σ,H1,I1,r1,q1⟩)
def Zkp (c:TT)(t u:TS):TS:=fun D σ H=>c σ H fun b H1=>if b=true then t D σ H1 else u D σ H1
theorem Z3 {c:Expr}{a b:List Stmt}{tc:TT}(hc:PT X c tc)(ha:VM X a t)(hb:VM X b u):PS X (.If c a b pos) (Zkp tc t u):=by
 intro pins s σ H D I h
 refine wpAny_If (ZT (hc pins s σ H _ I h) fun d s1 ⟨H1,I1,q1⟩=>?_)
 cases d with
 |true=>exact ha pins s1 σ H1 D I1 q1
 |false=>exact hb pins s1 σ H1 D I1 q1
def ZiI:TS:=fun _ _ _=>False
theorem YZ {sts:List Stmt}:VM X sts ZiI:=fun _ _ _ _ _ _ h=>h.elim
end
abbrev TG:=V->St->Hp->(St->Hp->Prop)->Prop
abbrev TGs:=List V->St->Hp->(St->Hp->Prop)->Prop
def PG (X:Cx)(target:Expr)(t:TG):Prop:=
 ∀(pins:List (Addr×Obj)) (s:Shared) (σ:St) (H:Hp) (v:V) (u:Value) (Q:St->Hp->Prop),Inv X pins σ H s->RelV v u->t v σ H Q->
  wpAny (model X.prog X.w) X.A (assign target X.env u) (fun _ s'=>∃ σ' H',Inv X pins σ' H' s'/\Q σ' H') X.xe s
def PGs (X:Cx)(ts:List Expr)(t:TGs):Prop:=
 ∀(pins:List (Addr×Obj)) (s:Shared) (σ:St) (H:Hp) (vs:List V) (us:List Value) (Q:St->Hp->Prop),Inv X pins σ H s->ZB vs us->t vs σ H Q->
  wpAny (model X.prog X.w) X.A (assignInOrder ((assignEach ts X.env).map (·.2)) us) (fun _ s'=>∃ σ' H',Inv X pins σ' H' s'/\Q σ' H') X.xe s
abbrev ZjZ:=V->V->V->Hp->(Hp->Prop)->Prop
def Zlc (X:Cx)(t:ZjZ):Prop:=
 ∀(pins:List (Addr×Obj)) (s:Shared) (σ:St) (H:Hp) (o i v:V) (ov iv u:Value) (Q:Hp->Prop),Inv X pins σ H s->RelV o ov->RelV i iv->RelV v u->t o i v H Q->
  wpAny (model X.prog X.w) X.A (setItem ov iv u) (fun _ s'=>∃H',Inv X pins σ H' s'/\Q H') X.xe s
section
variable {X:Cx}{pos:Pos}
def Yl (i:Nat):TG:=fun v σ H Q=>Q (σ.set i (some v)) H
theorem ZcU {i:Nat}{x:Str}(hN:X.N.Nodup)(hi:X.N[i]?=some x)(hx:Loc X.env.scope x)(hf:X.fn x=true\/X.env.scope.names.lookup x=some .local:=by first|exact .inl rfl|exact .inr rfl|assumption):PG X (.Name x pos) (Yl i):=by
 intro pins s σ H v u Q I r h
 exact wpAny_assign_Name (YE I hN hi hx r (fun s' I'=>⟨_,H,I',h⟩) hf)
def Zk2:TGs:=fun vs σ H Q=>vs=[]/\Q σ H
def Zf6 (t:TG)(u:TGs):TGs:=fun vs σ H Q=>∃v r,vs=v::r/\t v σ H fun σ' H'=>u r σ' H' Q
theorem Zg9:PGs X [] Zk2:=by
 intro pins s σ H vs us Q I r h
 obtain⟨e,h⟩:=h
 subst e
 cases r
 exact assignInOrder_nil ⟨σ,H,I,h⟩
theorem ZaM {e:Expr}{es:List Expr}{t:TG}{u:TGs}(h1:PG X e t)(h2:PGs X es u)
  (hs:(assignEach (e::es) X.env).map (·.2)=assign e X.env::(assignEach es X.env).map (·.2):=by rfl):PGs X (e::es) (Zf6 t u):=by
 intro pins s σ H vs us Q I r h
 obtain⟨v,vr,e1,h⟩:=h
 subst e1
 cases r with
 |cons r rr=>
  rw[hs]
  refine assignInOrder_cons (ZT (h1 pins s σ H _ _ _ I r h) fun _ s1 ⟨σ1,H1,I1,q1⟩=>?_)
  exact h2 pins s1 σ1 H1 _ _ Q I1 rr q1
def Zk1 (K:PySem.W.Frag)(n:Nat)(t:TGs):TG:=fun v σ H Q=>∃a xs,v=.ref a/\Wu K H a xs/\xs.length=n/\t xs σ H Q
theorem Zi2 {es:List Expr}{k:Nat}{t:TGs}{n:Nat}(hc:X.calm=true)(h:PGs X es t)
  (hn:(assignEach es X.env).length=n:=by rfl) (hst:(assignEach es X.env).findIdx? (·.1)=none:=by rfl):PG X (.Tuple es k pos) (Zk1 X.K n t):=by
 intro pins s σ H v u Q I r hw
 obtain⟨a,xs,e1,hq,hl,hw⟩:=hw
 subst e1
 cases r
 obtain⟨its,rv,ht,hz⟩:=I.tuple hq
 refine assign_Tuple_tuple (I.ok.hd hc) ht (by simp[hn,<-hl,rv.length]) hst fun h' hx=>?_
 have I1:Inv X pins σ H {s with heap:=h'}:=I.kept (t':=s.toks) fun b o e=>hx b o (Nat.ne_of_lt (Zp e)) e
 exact h pins _ σ H xs _ Q I1 (by simpa using rv) hw
def Zl1 (to ti:TE)(t:ZjZ):TG:=fun v σ H Q=>to σ H fun o H1=>ti σ H1 fun i H2=>t o i v H2 fun H3=>Q σ H3
theorem Zi3 {o i:Expr}{to ti:TE}{t:ZjZ}(ho:PE X o to)(hi:PE X i ti)(hs:Zlc X t)
  (ha:∀v,assign (.Subscript o i pos) X.env v=(do
   let ov <-holding [v] (eval o X.env)
   let iv <-holding [v,ov] (eval i X.env)
   standAt pos
   holding [v,ov,iv] (setItem ov iv v)
   release [v,ov,iv] []):=by intro _;rfl):PG X (.Subscript o i pos) (Zl1 to ti t):=by
 intro pins s σ H v u Q I r h
 rw[ha]
 refine Zl (wpAny_holding (ZT (ho pins s σ H _ I h) fun ov s1 ⟨x,H1,I1,r1,q1⟩=>?_))
 refine Zl (wpAny_holding (ZT (hi pins s1 σ H1 _ I1 q1) fun iv s2 ⟨y,H2,I2,r2,q2⟩=>?_))
 refine Zl (wpAny_standAt (Zl (wpAny_holding (ZT (hs pins s2 σ H2 x y v ov iv u _ I2 r1 r2 r q2) fun _ s3 ⟨H3,I3,q3⟩=>?_))))
 exact wpAny_release ⟨σ,H3,I3,q3⟩
def ZbD (te:TE)(g:TG):TS:=fun D σ H=>te σ H fun x H1=>g x σ H1 D.nx
theorem Zi0 {tg e:Expr}{te:TE}{g:TG}(he:PE X e te)(hg:PG X tg g)(hs:swapsWithSole [tg] e pos.line X.env=pure false:=by rfl)(hw:swappedStores [tg] e X.env=pure none:=by rfl)
  (h1:(assignEach [tg] X.env).map (·.2)=[assign tg X.env]:=by rfl):PS X (.Assign [tg] e pos) (ZbD te g):=by
 intro pins s σ H D I h
 refine wpAny_Assign_stores (ZT (he pins s σ H _ I h) fun v s1 ⟨x,H1,I1,r1,q1⟩=>?_) hs hw
 rw[h1]
 exact ZT (hg pins s1 σ H1 x v _ I1 r1 q1) fun _ s2 q=>q
theorem ZiZ {i:Nat}{x:Str}{e:Expr}{te:TE}{pos':Pos}(hN:X.N.Nodup)(hi:X.N[i]?=some x)(hx:Loc X.env.scope x)(he:PE X e te)(hs:swapsWith e (some (.Name x pos')) pos.line X.env=pure false:=by rfl)(hf:X.fn x=true\/X.env.scope.names.lookup x=some .local:=by first|exact .inl rfl|exact .inr rfl|assumption) :
  PS X (.Assign [.Name x pos'] e pos) (ZbD te (Yl i)):=by
 intro pins s σ H D I h
 refine wpAny_Assign_Name (ZT (he pins s σ H _ I h) fun v s1 ⟨y,H1,I1,r1,q1⟩=>?_) hs
 exact YE I1 hN hi hx r1 (fun s2 I2=>⟨_,H1,I2,q1⟩) hf
end
section
variable {X:Cx}{pos:Pos}
def ZeK (c:TT)(tb:TS):TS:=fun D σ H=>∃W:Nat->St->Hp->Prop,(∃m,W m σ H)/\∀m σ H,W m σ H->
 c σ H fun b H1=>if b=true then ∃N:St->Hp->Prop,(∀ σ' H',N σ' H'->∃m',m'<m/\W m' σ' H')/\tb {D with nx:=N,ct:=N,bk:=D.nx} σ H1 else D.nx σ H1
theorem JL {c:Expr}{body:List Stmt}{tc:TT}{tb:TS}(hp:PassesOwn (model X.prog X.w) X.A X.env X.xe)(hc:PT X c tc)(hb:VM X body tb):PS X (.While c body [] pos) (ZeK tc tb):=by
 intro pins s σ H D I h
 obtain⟨W,⟨m0,w0⟩,turn⟩:=h
 refine wpAny_While (codeAny_whileLoop (fun n s'=>∃ σ' H',Inv X pins σ' H' s'/\W n σ' H') ?_ m0 ⟨σ,H,I,w0⟩)
 rintro n s1 ⟨σ1,H1,I1,w1⟩
 refine wpAny_passesOwn hp (ZT (hc pins s1 σ1 H1 _ I1 (turn n σ1 H1 w1)) fun b s2 ⟨H2,I2,q2⟩=>?_)
 cases b with
 |true=>
  obtain⟨N,hN,q2⟩:=q2
  rw[if_pos rfl]
  refine wpAny_passesOwn hp (ZT (hb pins s2 σ1 H2 _ I2 q2) fun f s3 q3=>?_)
  cases f with
  |next=>
   obtain⟨σ3,H3,I3,n3⟩:=q3
   obtain⟨m',hm,w3⟩:=hN σ3 H3 n3
   exact⟨m',hm,σ3,H3,I3,w3⟩
  |cont=>
   obtain⟨σ3,H3,I3,n3⟩:=q3
   obtain⟨m',hm,w3⟩:=hN σ3 H3 n3
   exact⟨m',hm,σ3,H3,I3,w3⟩
  |brk=>exact q3
  |ret v=>exact q3
 |false=>
  rw[if_neg Bool.false_ne_true]
  exact wpAny_execs_nil ⟨σ1,H2,I2,q2⟩
end
structure It where
 go:Nat->Hp->Prop
 yld:Nat->Hp->V->Hp->Prop
 stop:Nat->Hp->Prop
def VN (X:Cx)(pins:List (Addr×Obj))(H:Hp)(b:Addr):Prop:=
 H b=none/\b≠X.env.locals/\b∉X.fs/\(b∈X.ex\/X.s₀.heap.objs.size<=b)/\(∀x c,X.env.cells.lookup x=some c->c≠b)/\∀p∈X.pn++pins,p.1≠b
theorem Inv.fpOk {X:Cx}{pins:List (Addr×Obj)}{σ:St}{H H':Hp}{s:Shared}{b:Addr}(I:Inv X pins σ H s)(hb:s.heap.objs.size<=b)(hn:H' b=none):VN X pins H' b:=by
 refine⟨hn,Nat.ne_of_gt (Nat.lt_of_lt_of_le I.lt hb),I.nofs hb,.inr (Nat.le_trans I.sz hb),fun x c e z=>?_,fun p hp z=>?_⟩
 ·obtain⟨v,q⟩:=I.cell x c e
  exact absurd (Nat.lt_of_lt_of_le q.lt (by rw[z];exact hb)) (Nat.lt_irrefl _)
 ·exact absurd (Nat.lt_of_lt_of_le (Zp (I.pin p hp).1) (by rw[z];exact hb)) (Nat.lt_irrefl _)
structure Zco (P:Program)(w:World)(K:PySem.W.Frag)(tg:Expr)(J:It)(fp:List Addr)(it:Addr)(tn:Nat->Heap->Prop):Prop where
 mem:it∈fp
 obj:∀i h,tn i h->∀b∈fp,∃o,h.get? b=some o/\∀v,o.data≠.cell v
 keep:∀i h h',tn i h->(∀b∈fp,∀o,h.get? b=some o->h'.get? b=some o)->tn i h'
 item:∀(X:Cx),X.prog=P->X.w=w->X.K=K->X.calm=true->∀(i:Nat) (pins:List (Addr×Obj)) (s:Shared) (σ:St) (H:Hp) (E:Value->Shared->Prop),Inv X pins σ H s->(∀b∈fp,VN X pins H b)->tn i s.heap->J.go i H->
  wpAny (model P w) X.A (pyNext (.ref it)) (fun r s1=>∃u,r=some u/\
   wpAny (model P w) X.A (letOwnedTupleGo tg (.ref it) u) (fun _ s2=>∃x H',Inv X pins σ H' s2/\RelV x u/\J.yld i H x H'/\tn (i+1) s2.heap/\∀b∈fp,H' b=none) E s1) E s
 done:∀(X:Cx),X.prog=P->X.w=w->X.K=K->X.calm=true->∀(i:Nat) (pins:List (Addr×Obj)) (s:Shared) (σ:St) (H:Hp) (E:Value->Shared->Prop),Inv X pins σ H s->(∀b∈fp,VN X pins H b)->tn i s.heap->J.stop i H->
  wpAny (model P w) X.A (pyNext (.ref it)) (fun r s1=>r=none/\Inv X pins σ H s1) E s
 self:∀(A:Around) (i:Nat) (s:Shared) (Q:Value->Shared->Prop) (E:Value->Shared->Prop),tn i s.heap->Q (.ref it) s->wpAny (model P w) A (pyIter (.ref it)) Q E s
abbrev TI:=St->Hp->(It->Hp->Prop)->Prop
def PIE (X:Cx)(pins:List (Addr×Obj))(σ:St)(tg:Expr)(R:It->Hp->Prop)(itv:Value)(s2:Shared):Prop:=
 ∃(it:Addr) (fp:List Addr) (tn:Nat->Heap->Prop) (J:It) (H':Hp),itv=.ref it/\Inv X pins σ H' s2/\Zco X.prog X.w X.K tg J fp it tn/\tn 0 s2.heap/\(∀b∈fp,VN X pins H' b)/\R J H'
def PI (X:Cx)(tg iter:Expr)(wi:TI):Prop:=
 ∀(pins:List (Addr×Obj)) (s:Shared) (σ:St) (H:Hp) (R:It->Hp->Prop),Inv X pins σ H s->wi σ H R->
  wpAny (model X.prog X.w) X.A (eval iter X.env) (fun v s1=>wpAny (model X.prog X.w) X.A (pyIter v) (PIE X pins σ tg R) X.xe s1) X.xe s
theorem Zf5 {M:Model}{A:Around}{E:Value->Shared->Prop}{s:Shared}{tg:Expr}{it:Addr}{u:Value}{o:Obj}{n:String}{vs:Array Value}{Q:Unit->Shared->Prop}(ho:s.heap.get? it=some o)(hc:o.cls=.type n)(hd:o.data=.fields vs)
    (hn:["enumerate", "zip", "dict_itemiterator", "dict_reverseitemiterator", "odict_iterator", "itertools.zip_longest", "itertools.pairwise"].contains n=false) (hQ:Q () s):wpAny M A (letOwnedTupleGo tg (.ref it) u) Q E s:=by
  unfold letOwnedTupleGo
  cases tg <;> first
    |exact Zm hQ
    |(cases u <;> first
        |exact Zm hQ
        | (refine Zl (wpAny_load ho ?_)
           rw[hc,hd]
           show wpAny M A (if (["enumerate", "zip", "dict_itemiterator", "dict_reverseitemiterator", "odict_iterator", "itertools.zip_longest", "itertools.pairwise"].contains n && vs[0]? == some (rawInt _))=true then _ else _) Q E s
           rw[if_neg (by intro h;rw[hn,Bool.false_and] at h;cases h)]
           exact Zm hQ))
def Itl (K:PySem.W.Frag)(a:Addr):It:=
 ⟨fun i H=>∃xs x,Y0 K H a xs/\xs[i]?=some x,fun i H x H'=>H'=H/\∀xs,Y0 K H a xs->xs[i]?=some x,fun i H=>∃xs,Y0 K H a xs/\xs.length<=i⟩
def Itt (K:PySem.W.Frag)(a:Addr):It:=
 ⟨fun i H=>∃xs x,Wu K H a xs/\xs[i]?=some x,fun i H x H'=>H'=H/\∀xs,Wu K H a xs->xs[i]?=some x,fun i H=>∃xs,Wu K H a xs/\xs.length<=i⟩
def Itr (lo:Int)(n:Nat):It:=⟨fun i _=>i<n,fun i H x H'=>H'=H/\x=.int (lo+i),fun i _=>n<=i⟩
theorem ZdB {P:Program}{w:World}{K:PySem.W.Frag}{tg:Expr}(a it:Addr):Zco P w K tg (Itl K a) [it] it (fun i h=>h.IsListIter it a i) where
 mem:=by simp
 obj:=fun i h st b hb=>by
  have e:b=it:=by simpa using hb
  subst e
  obtain⟨o,e,c,d⟩:=st
  exact⟨o,e,fun v z=>by rw[d] at z;cases z⟩
 keep:=fun i h h' st k=>st.at fun o e=>k it (by simp) o e
 item:=by
  intro X hP hw hK hc i pins s σ H E I hf st hg
  subst hP hw hK
  obtain⟨xs,x,hq,hx⟩:=hg
  obtain⟨its,rv,p,hz⟩:=I.list hq
  obtain⟨u,hu,ru⟩:=rv.get hx
  obtain⟨f0,f1,f2,f3,f4,f5⟩:=hf it (by simp)
  refine wpAny_pyNext_list_item st p.isList (x:=u) (by simpa using hu) fun h' st' sb=>?_
  have I1:Inv X pins σ H {s with heap:=h'}:=I.turned (t':=s.toks) (fun b o hb e=>(sb.2 b hb).trans e) f0 f1 f3 f4 f5
  obtain⟨o,e,c,d⟩:=id st'
  exact⟨u,rfl,Zf5 (s:={s with heap:=h'}) e c d (by decide) ⟨x,H,I1,ru,⟨rfl,fun ys hy=>by rw[I.list_inj hy hq];exact hx⟩,st',fun b hb=>(hf b hb).1⟩⟩
 done:=by
  intro X hP hw hK hc i pins s σ H E I hf st hg
  subst hP hw hK
  obtain⟨xs,hq,hx⟩:=hg
  obtain⟨its,rv,p,hz⟩:=I.list hq
  obtain⟨f0,f1,f2,f3,f4,f5⟩:=hf it (by simp)
  have hl:=rv.length
  exact wpAny_pyNext_list_end (I.ok.hd hc) st p.isList (by simp;omega) fun h' eb=>⟨rfl,I.turned (t':=s.toks) (fun b o hb e=>eb b o hb e) f0 f1 f3 f4 f5⟩
 self:=fun _ _ _ _ _ st h=>wpAny_pyIter_listiter st h
theorem Zbw {P:Program}{w:World}{K:PySem.W.Frag}{tg:Expr}(a it:Addr):Zco P w K tg (Itt K a) [it] it (fun i h=>h.IsTupleIter it a i) where
 mem:=by simp
 obj:=fun i h st b hb=>by
  have e:b=it:=by simpa using hb
  subst e
  obtain⟨o,e,c,d⟩:=st
  exact⟨o,e,fun v z=>by rw[d] at z;cases z⟩
 keep:=fun i h h' st k=>st.at fun o e=>k it (by simp) o e
 item:=by
  intro X hP hw hK hc i pins s σ H E I hf st hg
  subst hP hw hK
  obtain⟨xs,x,hq,hx⟩:=hg
  obtain⟨its,rv,p,hz⟩:=I.tuple hq
  obtain⟨u,hu,ru⟩:=rv.get hx
  obtain⟨f0,f1,f2,f3,f4,f5⟩:=hf it (by simp)
  refine wpAny_pyNext_tuple_item st (show s.heap.IsTuple a its.toArray from p) (x:=u) (by simpa using hu) fun h' st' sb=>?_
  have I1:Inv X pins σ H {s with heap:=h'}:=I.turned (t':=s.toks) (fun b o hb e=>(sb.2 b hb).trans e) f0 f1 f3 f4 f5
  obtain⟨o,e,c,d⟩:=id st'
  exact⟨u,rfl,Zf5 (s:={s with heap:=h'}) e c d (by decide) ⟨x,H,I1,ru,⟨rfl,fun ys hy=>by rw[I.tuple_inj hy hq];exact hx⟩,st',fun b hb=>(hf b hb).1⟩⟩
 done:=by
  intro X hP hw hK hc i pins s σ H E I hf st hg
  subst hP hw hK
  obtain⟨xs,hq,hx⟩:=hg
  obtain⟨its,rv,p,hz⟩:=I.tuple hq
  obtain⟨f0,f1,f2,f3,f4,f5⟩:=hf it (by simp)
  have hl:=rv.length
  exact wpAny_pyNext_tuple_end (I.ok.hd hc) st (show s.heap.IsTuple a its.toArray from p) (by simp;omega) fun h' eb=>⟨rfl,I.turned (t':=s.toks) (fun b o hb e=>eb b o hb e) f0 f1 f3 f4 f5⟩
 self:=fun _ _ _ _ _ st h=>wpAny_pyIter_tupleiter st h
theorem Zbx {P:Program}{w:World}{K:PySem.W.Frag}{tg:Expr}(it:Addr)(lo:Int)(n:Nat):Zco P w K tg (Itr lo n) [it] it (fun i h=>IsRangeIter h it (lo+(i:Nat)*1) ((n:Int)-(i:Nat)) 1) where
 mem:=by simp
 obj:=fun i h st b hb=>by
  have e:b=it:=by simpa using hb
  subst e
  exact⟨_,st,fun v z=>by
   have z':Data.fields _=Data.cell v:=z
   cases z'⟩
 keep:=fun i h h' st k=>k it (by simp) _ st
 item:=by
  intro X hP hw hK hc i pins s σ H E I hf st hg
  subst hP hw hK
  obtain⟨f0,f1,f2,f3,f4,f5⟩:=hf it (by simp)
  have W:=Walks.range (prog:=X.prog) (w:=X.w) (I.ok.hd hc) it lo 1 n
  refine W.item i s _ _ hg st fun v h' tk hv st' kk=>?_
  obtain⟨t,rfl⟩:=hv
  have I1:Inv X pins σ H {s with heap:=h',toks:=tk}:=I.turned (fun b o hb e=>kk b o (by simpa using hb) e) f0 f1 f3 f4 f5
  refine⟨_,rfl,Zf5 (s:={s with heap:=h',toks:=tk}) (n:="range_iterator") st' rfl rfl (by decide) ⟨.int (lo+i),H,I1,⟨t,?_⟩,⟨rfl,rfl⟩,st',fun b hb=>(hf b hb).1⟩⟩
  rw[Int.mul_one]
 done:=by
  intro X hP hw hK hc i pins s σ H E I hf st hg
  subst hP hw hK
  obtain⟨f0,f1,f2,f3,f4,f5⟩:=hf it (by simp)
  exact wpAny_pyNext_range_end (I.ok.hd hc) st (by have:n<=i:=hg;omega) fun h' eb=>⟨rfl,I.turned (t':=s.toks) (fun b o hb e=>eb b o hb e) f0 f1 f3 f4 f5⟩
 self:=fun _ _ _ _ _ st h=>wpAny_pyIter_rangeiter st h
section
variable {X:Cx}{tg:Expr}
def Ziv (K:PySem.W.Frag)(tl:TE):TI:=fun σ H R=>tl σ H fun x H1=>∃a,x=.ref a/\(∃xs,Y0 K H1 a xs)/\R (Itl K a) H1
def ZkZ (K:PySem.W.Frag)(tl:TE):TI:=fun σ H R=>tl σ H fun x H1=>∃a,x=.ref a/\(∃xs,Wu K H1 a xs)/\R (Itt K a) H1
theorem Zg8 {l:Expr}{tl:TE}(hl:PE X l tl):PI X tg l (Ziv X.K tl):=by
 intro pins s σ H R I h
 refine ZT (hl pins s σ H _ I h) fun v s1 ⟨x,H1,I1,r1,q1⟩=>?_
 obtain⟨a,e,⟨xs,hq⟩,q⟩:=q1
 subst e
 cases r1
 obtain⟨its,rv,p,hz⟩:=I1.list hq
 refine wpAny_pyIter_list p.isList ?_
 refine⟨s1.heap.objs.size,[s1.heap.objs.size],_,_,H1,rfl,I1.kept (t':=s1.toks) fun b o e=>Zn _ e,ZdB a _,⟨_,Zo _ rfl,rfl,rfl⟩,fun b hb=>?_,q⟩
 have e:b=s1.heap.objs.size:=by simpa using hb
 subst e
 exact I1.fpOk (Zq _) (I1.hok.fresh (Zq _))
theorem Zi1 {l:Expr}{tl:TE}(hl:PE X l tl):PI X tg l (ZkZ X.K tl):=by
 intro pins s σ H R I h
 refine ZT (hl pins s σ H _ I h) fun v s1 ⟨x,H1,I1,r1,q1⟩=>?_
 obtain⟨a,e,⟨xs,hq⟩,q⟩:=q1
 subst e
 cases r1
 obtain⟨its,rv,p,hz⟩:=I1.tuple hq
 refine wpAny_pyIter_tuple (show s1.heap.IsTuple a its.toArray from p) ?_
 refine⟨s1.heap.objs.size,[s1.heap.objs.size],_,_,H1,rfl,I1.kept (t':=s1.toks) fun b o e=>Zn _ e,Zbw a _,⟨_,Zo _ rfl,rfl,rfl⟩,fun b hb=>?_,q⟩
 have e:b=s1.heap.objs.size:=by simpa using hb
 subst e
 exact I1.fpOk (Zq _) (I1.hok.fresh (Zq _))
theorem Zfd {pins:List (Addr×Obj)}{σ:St}{H:Hp}{s:Shared}{R:It->Hp->Prop}{E:Value->Shared->Prop}{lo hi:Int}{t u v:Tok}{tk:Nat}(I:Inv X pins σ H s)(h1:-(2 ^ 62)<=lo)(h2:lo<2 ^ 62)(h3:-(2 ^ 62)<=hi)(h4:hi<2 ^ 62)
  (q:R (Itr lo (hi-lo).toNat) H):wpAny (model X.prog X.w) X.A (pyIter (.ref s.heap.objs.size)) (PIE X pins σ tg R) E {s with heap:=s.heap.push {cls:=.type "range",data:=.fields #[.int lo t,.int hi u,.int 1 v]},toks:=tk}:=by
 refine wpAny_pyIter_range (IsRange.new ..) (small_one h1 h2 h3 h4) ?_
 have I1:Inv X pins σ H {s with heap:=s.heap.push {cls:=.type "range",data:=.fields #[.int lo t,.int hi u,.int 1 v]},toks:=tk}:=I.kept fun b o e=>Zn _ e
 refine⟨(s.heap.push {cls:=.type "range",data:=.fields #[.int lo t,.int hi u,.int 1 v]}).objs.size,[(s.heap.push {cls:=.type "range",data:=.fields #[.int lo t,.int hi u,.int 1 v]}).objs.size],_,_,H,rfl,
  I1.kept (t':=tk) fun b o e=>Zn _ e,Zbx _ lo (hi-lo).toNat,?_,fun b hb=>?_,q⟩
 ·have e1:lo+((0:Nat):Int)*1=lo:=by simp
  have e2:(((hi-lo).toNat:Nat):Int)-((0:Nat):Int)=Builtin.Range.rangeSize lo hi 1:=by rw[rangeSize_one];split <;> omega
  show IsRangeIter _ _ (lo+((0:Nat):Int)*1) ((((hi-lo).toNat:Nat):Int)-((0:Nat):Int)) 1
  rw[e1,e2]
  exact Zo _ rfl
 ·have e:b=(s.heap.push {cls:=.type "range",data:=.fields #[.int lo t,.int hi u,.int 1 v]}).objs.size:=by simpa using hb
  subst e
  exact I1.fpOk (Zq _) (I1.hok.fresh (Zq _))
def Ziu (ta:TA):TI:=fun σ H R=>ta σ H fun vs H1=>∃j:Int,vs=[.int j]/\-(2 ^ 62)<=j/\j<2 ^ 62/\R (Itr 0 j.toNat) H1
theorem ZdO {a:Expr}{ta:TA}{p pos:Pos}(hg:Gl X "range")(hm:X.mg "range"=none)(ha:PA X [a] ta)(hs:starEach [a] X.env=[(false,eval a X.env)]:=by rfl):PI X tg (.Call (.Name "range" p) [a] [] pos) (Ziu ta):=by
 intro pins s σ H R I h
 refine Call_ (Vj I hg hm boot_range (PyProof.Rows.callWith_type1 (ZT (ha pos pins s σ H _ I h) fun us s1 ⟨vs,H1,I1,r1,q1⟩=>?_) hs rfl))
 obtain⟨j,e,q1,q2,q⟩:=q1
 subst e
 cases r1 with
 |cons r rr=>
  cases rr
  obtain⟨t,rfl⟩:=r
  exact call_range_1 (Zfd I1 (by omega) (by omega) q1 q2 (by simpa using q))
def ZlF (wi:TI)(g:TG)(tb:TS):TS:=fun D σ H=>wi σ H fun J H1=>∃W:Nat->Nat->St->Hp->Prop,(∃m,W 0 m σ H1)/\∀i m σ H,W i m σ H->
 (J.stop i H/\D.nx σ H)\/(J.go i H/\∃N:St->Hp->Prop,(∀ σ' H',N σ' H'->∃m',m'<m/\W (i+1) m' σ' H')/\∀x H',J.yld i H x H'->g x σ H' fun σ2 H2=>tb {D with nx:=N,ct:=N,bk:=D.nx} σ2 H2)
def Vb (fp:List Addr)(h:Heap):List (Addr×Obj):=fp.filterMap fun b=>(h.get? b).map fun o=>(b,o)
theorem Wy {fp:List Addr}{h:Heap}{b:Addr}{o:Obj}(hb:b∈fp)(e:h.get? b=some o):(b,o)∈Vb fp h:=List.mem_filterMap.mpr ⟨b,hb,by rw[e];rfl⟩
theorem ZdY {fp:List Addr}{h:Heap}{p:Addr×Obj}(hp:p∈Vb fp h):p.1∈fp/\h.get? p.1=some p.2:=by
 obtain⟨b,hb,e⟩:=List.mem_filterMap.mp hp
 cases q:h.get? b with
 |none=>rw[q] at e;cases e
 |some o=>
  rw[q] at e
  have e':(b,o)=p:=Option.some.inj e
  subst e'
  exact⟨hb,q⟩
theorem Inv.pinned {pins:List (Addr×Obj)}{σ:St}{H:Hp}{s:Shared}{fp:List Addr}(I:Inv X pins σ H s)(hf:∀b∈fp,VN X pins H b)(ho:∀b∈fp,∃o,s.heap.get? b=some o/\∀v,o.data≠.cell v):Inv X (pins++Vb fp s.heap) σ H s:=
 I.pins_of fun p hp=>(List.mem_append.mp hp).elim (fun z=>I.pin p (List.mem_append_right _ z)) fun z=>by
  obtain⟨hb,e⟩:=ZdY z
  obtain⟨f0,f1,f2,_⟩:=hf p.1 hb
  obtain⟨o,e',d⟩:=ho p.1 hb
  rw[e] at e';cases e'
  exact⟨e,f0,f1,f2,d⟩
theorem Inv.unpinned {pins pl:List (Addr×Obj)}{σ:St}{H:Hp}{s:Shared}(I:Inv X (pins++pl) σ H s):Inv X pins σ H s:=I.pins_of fun p hp=>I.pin p (List.mem_append_right _ (List.mem_append_left _ hp))
theorem Z5 {iter:Expr}{body:List Stmt}{wi:TI}{g:TG}{tb:TS}{pos:Pos}(hp:PassesOwn (model X.prog X.w) X.A X.env X.xe)(hc:X.calm=true)(hi:PI X tg iter wi)(hg:PG X tg g)(hb:VM X body tb)
  (hs:∀x,foldedSetIterable iter X.env x=pure x:=by intro _;rfl):PS X (.For tg iter body [] pos) (ZlF wi g tb):=by
 intro pins s σ H D I h
 refine wpAny_For (ZT (hi pins s σ H _ I h) fun v s1 h1=>ZT h1 fun itv s2 h2=>?_) hs
 obtain⟨it,fp,tn,J,H2,e,I2,T,st2,f2,W,⟨m0,w0⟩,turn⟩:=h2
 subst e
 have stat:∀{H':Hp},(∀b∈fp,H' b=none)->∀b∈fp,VN X pins H' b:=fun hn b hb=>⟨hn b hb,(f2 b hb).2⟩
 refine codeAny_forLoop_any (fun n s'=>∃i σ' H',Inv X pins σ' H' s'/\tn i s'.heap/\(∀b∈fp,H' b=none)/\W i n σ' H') ?_ m0 ⟨0,σ,H2,I2,st2,fun b hb=>(f2 b hb).1,w0⟩
 rintro n s3 ⟨i,σ3,H3,I3,st3,fr3,w3⟩
 rcases turn i n σ3 H3 w3 with ⟨stop,qn⟩|⟨go,N,hN,step⟩
 ·refine wpAny_passesOwn hp (ZT (T.done X rfl rfl rfl hc i pins s3 σ3 H3 X.xe I3 (stat fr3) st3 stop) fun r s4 ⟨hr,I4⟩=>?_)
  subst hr
  exact wpAny_execs_nil ⟨σ3,H3,I4,qn⟩
 ·refine wpAny_passesOwn hp (ZT (T.item X rfl rfl rfl hc i pins s3 σ3 H3 X.xe I3 (stat fr3) st3 go) fun r s4 ⟨u,hr,h4⟩=>?_)
  subst hr
  refine wpAny_passesOwn hp (ZT h4 fun _ s5 ⟨x,H5,I5,r5,y5,st5,fr5⟩=>?_)
  have I5':=I5.pinned (stat fr5) (T.obj _ _ st5)
  refine wpAny_passesOwn hp (ZT (hg _ s5 σ3 H5 x u _ I5' r5 (step x H5 y5)) fun _ s6 ⟨σ6,H6,I6,q6⟩=>?_)
  refine wpAny_passesOwn hp (ZT (hb _ s6 σ6 H6 _ I6 q6) fun f s7 q7=>?_)
  have again:∀{σ7:St}{H7:Hp},Inv X (pins++Vb fp s5.heap) σ7 H7 s7->N σ7 H7->∃m,m<n/\∃i σ' H',Inv X pins σ' H' s7/\tn i s7.heap/\(∀b∈fp,H' b=none)/\W i m σ' H':=fun {σ7 H7} I7 n7=>by
   obtain⟨m',hm,w7⟩:=hN σ7 H7 n7
   refine⟨m',hm,i+1,σ7,H7,I7.unpinned,T.keep _ _ _ st5 fun b hb o e=>(I7.pin (b,o) (List.mem_append_right _ (List.mem_append_right _ (Wy hb e)))).1,fun b hb=>?_,w7⟩
   obtain⟨o,e,d⟩:=T.obj _ _ st5 b hb
   exact (I7.pin (b,o) (List.mem_append_right _ (List.mem_append_right _ (Wy hb e)))).2.1
  cases f with
  |next=>obtain⟨σ7,H7,I7,n7⟩:=q7;exact again I7 n7
  |cont=>obtain⟨σ7,H7,I7,n7⟩:=q7;exact again I7 n7
  |brk=>obtain⟨σ7,H7,I7,q7⟩:=q7;exact⟨σ7,H7,I7.unpinned,q7⟩
  |ret v=>obtain⟨x7,σ7,H7,I7,r7,q7⟩:=q7;exact⟨x7,σ7,H7,I7.unpinned,r7,q7⟩
end
theorem ZhO {K:PySem.W.Frag}{a:Addr}{xs:List V}{g:TG}{tb:TS}{D:Ws}{σ:St}{H:Hp}(Pv:Nat->St->Hp->Prop)(h0:Pv 0 σ H)(hl:∀i σ H,i<=xs.length->Pv i σ H->Wu K H a xs)
  (hs:∀i x σ H,xs[i]?=some x->Pv i σ H->g x σ H fun σ2 H2=>tb {D with nx:=Pv (i+1),ct:=Pv (i+1),bk:=D.nx} σ2 H2) (hd:∀ σ H,Pv xs.length σ H->D.nx σ H) :
  ∃W:Nat->Nat->St->Hp->Prop,(∃m,W 0 m σ H)/\∀i m σ H,W i m σ H->
   ((Itt K a).stop i H/\D.nx σ H)\/((Itt K a).go i H/\∃N:St->Hp->Prop,(∀ σ' H',N σ' H'->∃m',m'<m/\W (i+1) m' σ' H')/\∀x H',(Itt K a).yld i H x H'->g x σ H' fun σ2 H2=>tb {D with nx:=N,ct:=N,bk:=D.nx} σ2 H2):=by
 refine⟨fun i m σ H=>m=xs.length-i/\i<=xs.length/\Pv i σ H,⟨xs.length,by simp,Nat.zero_le _,h0⟩,?_⟩
 rintro i m σ H ⟨rfl,hi,p⟩
 have q:=hl i σ H hi p
 by_cases hlt:i<xs.length
 ·refine .inr ⟨⟨xs,xs[i],q,by simp[hlt]⟩,Pv (i+1),fun σ' H' p'=>⟨xs.length-(i+1),by omega,rfl,hlt,p'⟩,fun x H' y=>?_⟩
  obtain⟨e,y⟩:=y
  subst e
  exact hs i x σ _ (y xs q) p
 ·have e:i=xs.length:=by omega
  subst e
  exact .inl ⟨⟨xs,q,Zq _⟩,hd σ H p⟩
theorem Yb {lo:Int}{n:Nat}{g:TG}{tb:TS}{D:Ws}{σ:St}{H:Hp}(Pv:Nat->St->Hp->Prop)(h0:Pv 0 σ H)
  (hs:∀i σ H,i<n->Pv i σ H->g (.int (lo+i)) σ H fun σ2 H2=>tb {D with nx:=Pv (i+1),ct:=Pv (i+1),bk:=D.nx} σ2 H2) (hd:∀ σ H,Pv n σ H->D.nx σ H) :
  ∃W:Nat->Nat->St->Hp->Prop,(∃m,W 0 m σ H)/\∀i m σ H,W i m σ H->
   ((Itr lo n).stop i H/\D.nx σ H)\/((Itr lo n).go i H/\∃N:St->Hp->Prop,(∀ σ' H',N σ' H'->∃m',m'<m/\W (i+1) m' σ' H')/\∀x H',(Itr lo n).yld i H x H'->g x σ H' fun σ2 H2=>tb {D with nx:=N,ct:=N,bk:=D.nx} σ2 H2):=by
 refine⟨fun i m σ H=>m=n-i/\i<=n/\Pv i σ H,⟨n,by simp,Nat.zero_le _,h0⟩,?_⟩
 rintro i m σ H ⟨rfl,hi,p⟩
 by_cases hlt:i<n
 ·refine .inr ⟨hlt,Pv (i+1),fun σ' H' p'=>⟨n-(i+1),by omega,rfl,hlt,p'⟩,fun x H' y=>?_⟩
  obtain⟨e,y⟩:=y
  subst e y
  exact hs i σ _ hlt p
 ·have e:i=n:=by omega
  subst e
  exact .inl ⟨Zq _,hd σ H p⟩
abbrev R2:=V->V->Hp->VK->Prop
def Jj (X:Cx)(f:Value->Value->Sem Value)(r:R2):Prop:=
 ∀(pins:List (Addr×Obj)) (s:Shared) (σ:St) (H:Hp) (x y:V) (v u:Value) (Q:VK),Inv X pins σ H s->RelV x v->RelV y u->r x y H Q->
  wpAny (model X.prog X.w) X.A (f v u) (EP X pins σ Q) X.xe s
def UnR (X:Cx)(f:Value->Sem Value)(r:V->Hp->VK->Prop):Prop:=
 ∀(pins:List (Addr×Obj)) (s:Shared) (σ:St) (H:Hp) (x:V) (v:Value) (Q:VK),Inv X pins σ H s->RelV x v->r x H Q->
  wpAny (model X.prog X.w) X.A (f v) (EP X pins σ Q) X.xe s
def ZP (X:Cx)(f:Value)(r:List V->Hp->VK->Prop):Prop:=
 ∀(pins:List (Addr×Obj)) (s:Shared) (σ:St) (H:Hp) (xs:List V) (us:List Value) (Q:VK),Inv X pins σ H s->ZB xs us->r xs H Q->
  wpAny (model X.prog X.w) X.A (call f us) (EP X pins σ Q) X.xe s
def Zl6 (X:Cx)(r:V->Hp->(Bool->Hp->Prop)->Prop):Prop:=
 ∀(pins:List (Addr×Obj)) (s:Shared) (σ:St) (H:Hp) (x:V) (v:Value) (Q:Bool->Hp->Prop),Inv X pins σ H s->RelV x v->r x H Q->
  wpAny (model X.prog X.w) X.A (truthy v) (TP X pins σ Q) X.xe s
def tOp (r:R2)(ta tb:TE):TE:=fun σ H Q=>ta σ H fun x H1=>tb σ H1 fun y H2=>r x y H2 Q
def tUn (r:V->Hp->VK->Prop)(ta:TE):TE:=fun σ H Q=>ta σ H fun x H1=>r x H1 Q
def rI (C:Int->Int->Prop)(g:Int->Int->V):R2:=fun x y H Q=>∃i j,x=.int i/\y=.int j/\C i j/\Q (g i j) H
def rI0 (g:Int->Int->V):R2:=fun x y H Q=>∃i j,x=.int i/\y=.int j/\Q (g i j) H
def rU (g:Int->V):V->Hp->VK->Prop:=fun x H Q=>∃i,x=.int i/\Q (g i) H
section
variable {X:Cx}{a b c:Expr}{ta tb tc:TE}{pos:Pos}
theorem ZjT (ha:PE X a ta)(hb:PE X b tb){pins:List (Addr×Obj)}{s:Shared}{σ:St}{H:Hp}{R:V->V->Hp->Prop}(I:Inv X pins σ H s)
  (h:ta σ H fun x H1=>tb σ H1 fun y H2=>R x y H2) {Q:Value->Shared->Prop}{f:Value->Value->Sem Value}
  (hf:∀v u s2 x y H2,Inv X pins σ H2 s2->RelV x v->RelV y u->R x y H2->wpAny (model X.prog X.w) X.A (f v u) Q X.xe s2) :
  wpAny (model X.prog X.w) X.A (eval a X.env) (fun v s₁=>wpAny (model X.prog X.w) X.A (eval b X.env) (fun u s₂=>wpAny (model X.prog X.w) X.A (f v u) Q X.xe s₂) X.xe s₁) X.xe s:=by
 refine ZT (ha pins s σ H _ I h) fun v s1 ⟨x,H1,I1,r1,q1⟩=>?_
 refine ZT (hb pins s1 σ H1 _ I1 q1) fun u s2 ⟨y,H2,I2,r2,q2⟩=>?_
 exact hf v u s2 x y H2 I2 r1 r2 q2
theorem ZS {op:Operator}{r:R2}(ho:Jj X (binaryOp op) r)(ha:PE X a ta)(hb:PE X b tb):PE X (.BinOp a op b pos) (tOp r ta tb):=by
 intro pins s σ H Q I h
 exact wpAny_BinOp (ZjT ha hb I h fun v u s2 x y H2 I2 rx ry q=>ho pins s2 σ H2 x y v u Q I2 rx ry q)
theorem ZkN {op:UnaryOp}{r:V->Hp->VK->Prop}(ho:UnR X (unaryOp op) r)(ha:PE X a ta):PE X (.UnaryOp op a pos) (tUn r ta):=by
 intro pins s σ H Q I h
 exact UnaryOp_ (ZT (ha pins s σ H _ I h) fun v s1 ⟨x,H1,I1,r1,q1⟩=>ho pins s1 σ H1 x v Q I1 r1 q1)
theorem opI {f:Value->Value->Sem Value}{C:Int->Int->Prop}{g:Int->Int->Int}
  (rule:∀(i j:Int) (t u:Tok) (s:Shared) (Q:Value->Shared->Prop) (E:Value->Shared->Prop),C i j->Q (.int (g i j) s.toks) {s with toks:=s.toks+1}->wpAny (model X.prog X.w) X.A (f (.int i t) (.int j u)) Q E s) :
  Jj X f (rI C fun i j=>.int (g i j)):=by
 intro pins s σ H x y v u Q I rx ry h
 obtain⟨i,j,rfl,rfl,hc,q⟩:=h
 obtain⟨t,rfl⟩:=rx
 obtain⟨t',rfl⟩:=ry
 exact rule i j t t' s _ _ hc ⟨.int (g i j),H,I.tok _,⟨_,rfl⟩,q⟩
theorem ZkP {f:Value->Value->Sem Value}{g:Int->Int->Int}
  (rule:∀(i j:Int) (t u:Tok) (s:Shared) (Q:Value->Shared->Prop) (E:Value->Shared->Prop),Q (.int (g i j) s.toks) {s with toks:=s.toks+1}->wpAny (model X.prog X.w) X.A (f (.int i t) (.int j u)) Q E s) :
  Jj X f (rI0 fun i j=>.int (g i j)):=by
 intro pins s σ H x y v u Q I rx ry h
 obtain⟨i,j,rfl,rfl,q⟩:=h
 obtain⟨t,rfl⟩:=rx
 obtain⟨t',rfl⟩:=ry
 exact rule i j t t' s _ _ ⟨.int (g i j),H,I.tok _,⟨_,rfl⟩,q⟩
theorem Zji {f:Value->Value->Sem Value}{g:Int->Int->Bool}
  (rule:∀(i j:Int) (t u:Tok) (s:Shared) (Q:Value->Shared->Prop) (E:Value->Shared->Prop),Q (.bool (g i j)) s->wpAny (model X.prog X.w) X.A (f (.int i t) (.int j u)) Q E s) :
  Jj X f (rI0 fun i j=>.bl (g i j)):=by
 intro pins s σ H x y v u Q I rx ry h
 obtain⟨i,j,rfl,rfl,q⟩:=h
 obtain⟨t,rfl⟩:=rx
 obtain⟨t',rfl⟩:=ry
 exact rule i j t t' s _ _ ⟨.bl (g i j),H,I,rfl,q⟩
def Zmd (i j:Int):Prop:=0<j/\j<1073741824
def Zmc (i j:Int):Prop:=0<=j/\j<=1000000/\i.natAbs<2 ^ 64
def Zj7 (i j:Int):Prop:=(-(2 ^ 64)<i/\i<2 ^ 64)\/(-(2 ^ 64)<j/\j<2 ^ 64)
theorem Zj7.ok {i j:Int}(h:Zj7 i j):IntMulOk i j:=by
 rcases h with ⟨h1,h2⟩|⟨h1,h2⟩
 ·exact .of_left (intBits_le_64 h1 h2)
 ·exact .of_right (intBits_le_64 h1 h2)
theorem Wx:Jj X (binaryOp .Add) (rI0 fun i j=>.int (i+j)):=ZkP fun _ _ _ _ _ _ _ q=>add_int q
theorem Zjc:Jj X (binaryOp .Sub) (rI0 fun i j=>.int (i-j)):=ZkP fun _ _ _ _ _ _ _ q=>sub_int q
theorem Xc:Jj X (binaryOp .Mult) (rI Zj7 fun i j=>.int (i*j)):=opI fun _ _ _ _ _ _ _ hc q=>mul_int q hc.ok
theorem UV:Jj X (binaryOp .FloorDiv) (rI Zmd fun i j=>.int (i / j)):=opI fun i j _ _ _ _ _ hc q=>by
 have h1:(0:Int)<j:=hc.1
 have h2:j<1073741824:=hc.2
 exact floordiv_int (by omega) (by rw[Int.fdiv_eq_ediv_of_nonneg i (by omega)];exact q) (.inl (PyProof.noPylong_small (by omega)))
theorem WP:Jj X (binaryOp .Mod) (rI (fun _ j=>0<j) fun i j=>.int (i % j)):=opI fun i j _ _ _ _ _ hc q=>by
 have h1:(0:Int)<j:=hc
 exact mod_int' (by omega) (by rw[Int.fmod_eq_emod_of_nonneg i (by omega)];exact q)
theorem Zje:Jj X (binaryOp .Pow) (rI Zmc fun i j=>.int (i ^ j.toNat)):=opI fun _ _ _ _ _ _ _ hc q=>pow_int_small hc.1 hc.2.1 hc.2.2 q
theorem unI {f:Value->Sem Value}{g:Int->Int}
  (rule:∀(i:Int) (t:Tok) (s:Shared) (Q:Value->Shared->Prop) (E:Value->Shared->Prop),Q (.int (g i) s.toks) {s with toks:=s.toks+1}->wpAny (model X.prog X.w) X.A (f (.int i t)) Q E s) :
  UnR X f (rU fun i=>.int (g i)):=by
 intro pins s σ H x v Q I rx h
 obtain⟨i,rfl,q⟩:=h
 obtain⟨t,rfl⟩:=rx
 exact rule i t s _ _ ⟨.int (g i),H,I.tok _,⟨_,rfl⟩,q⟩
theorem ZiD:UnR X (unaryOp .USub) (rU fun i=>.int (-i)):=unI fun _ _ _ _ _ q=>neg_int q
end
def Zku:V->V->Bool
 | .non,.non=>true | .non,.int _=>true | .int _,.non=>true | .non,.bl _=>true | .bl _,.non=>true | .non,.str _=>true | .str _,.non=>true
 | .int _,.int _=>true | .bl _,.bl _=>true | .str _,.str _=>true | .byt _,.byt _=>true
 | .int _,.str _=>true | .str _,.int _=>true | .bl _,.str _=>true | .str _,.bl _=>true
 |_,_=>false
def rEq:R2:=fun x y H Q=>Zku x y=true/\Q (.bl (decide (x=y))) H
def rNe:R2:=fun x y H Q=>Zku x y=true/\Q (.bl (!decide (x=y))) H
theorem Zaa {i j:Int}:decide (V.int i=V.int j)=(i == j):=by
 rw[Bool.eq_iff_iff]
 simp
theorem Zgn {i j:Bool}:decide (V.bl i=V.bl j)=(i == j):=by
 rw[Bool.eq_iff_iff]
 simp
theorem Zdo {i j:Str}:decide (V.str i=V.str j)=(i == j):=by
 rw[Bool.eq_iff_iff]
 simp
theorem Zdp {i j:Array UInt8}:decide (V.byt i=V.byt j)=(i.toList == j.toList):=by
 rw[Bool.eq_iff_iff]
 cases i
 cases j
 simp
section
variable {X:Cx}{a b c:Expr}{ta tb tc:TE}{pos:Pos}
theorem ZG {pins:List (Addr×Obj)}{σ:St}{H:Hp}{s:Shared}{Q:VK}{k k':Bool}(I:Inv X pins σ H s)(q:Q (.bl k) H)(e:k=k'):EP X pins σ Q (.bool k') s:=by
 subst e
 exact⟨.bl k,H,I,rfl,q⟩
theorem ZcZ:Jj X (compareOp .Eq) rEq:=by
 intro pins s σ H x y v u Q I rx ry h
 obtain⟨hs,q⟩:=h
 cases x with
 |non=>
  cases rx
  cases y with
  |non=>cases ry;exact PySem.EqNone.eq_none_none (ZG I q (by simp))
  |bl j=>cases ry;exact PySem.EqNone.eq_none_bool (ZG I q (by simp))
  |int j=>obtain⟨t',rfl⟩:=ry;exact PySem.EqNone.eq_none_int (ZG I q (by simp))
  |str j=>obtain⟨t',rfl⟩:=ry;exact PySem.EqNone.eq_none_str (ZG I q (by simp))
  |_=>exact absurd (show false=true from hs) Bool.false_ne_true
 |bl i=>
  cases rx
  cases y with
  |non=>cases ry;exact PySem.EqNone.eq_bool_none (ZG I q (by simp))
  |bl j=>cases ry;exact eq_bool (ZG I q Zgn)
  |str j=>obtain⟨t',rfl⟩:=ry;exact PySem.EqMixed.eq_bool_str (ZG I q (by simp))
  |_=>exact absurd (show false=true from hs) Bool.false_ne_true
 |int i=>
  obtain⟨t,rfl⟩:=rx
  cases y with
  |non=>cases ry;exact PySem.EqNone.eq_int_none (ZG I q (by simp))
  |int j=>obtain⟨t',rfl⟩:=ry;exact eq_int (ZG I q Zaa)
  |str j=>obtain⟨t',rfl⟩:=ry;exact PySem.EqMixed.eq_int_str (ZG I q (by simp))
  |_=>exact absurd (show false=true from hs) Bool.false_ne_true
 |str i=>
  obtain⟨t,rfl⟩:=rx
  cases y with
  |non=>cases ry;exact PySem.EqNone.eq_str_none (ZG I q (by simp))
  |bl j=>cases ry;exact PySem.EqMixed.eq_str_bool (ZG I q (by simp))
  |int j=>obtain⟨t',rfl⟩:=ry;exact PySem.EqMixed.eq_str_int (ZG I q (by simp))
  |str j=>obtain⟨t',rfl⟩:=ry;exact eq_str (ZG I q Zdo)
  |_=>exact absurd (show false=true from hs) Bool.false_ne_true
 |byt i=>
  obtain⟨t,rfl⟩:=rx
  cases y with
  |byt j=>obtain⟨t',rfl⟩:=ry;exact PySem.W.eq_bytes (ZG I q Zdp)
  |_=>exact absurd (show false=true from hs) Bool.false_ne_true
 |_=>cases y <;> exact absurd (show false=true from hs) Bool.false_ne_true
theorem ZcX:Jj X (compareOp .NotEq) rNe:=by
 intro pins s σ H x y v u Q I rx ry h
 obtain⟨hs,q⟩:=h
 cases x with
 |non=>
  cases rx
  cases y with
  |non=>cases ry;exact PySem.EqNone.ne_none_none (ZG I q (by simp))
  |bl j=>cases ry;exact PySem.EqNone.ne_none_bool (ZG I q (by simp))
  |int j=>obtain⟨t',rfl⟩:=ry;exact PySem.EqNone.ne_none_int (ZG I q (by simp))
  |str j=>obtain⟨t',rfl⟩:=ry;exact PySem.EqNone.ne_none_str (ZG I q (by simp))
  |_=>exact absurd (show false=true from hs) Bool.false_ne_true
 |bl i=>
  cases rx
  cases y with
  |non=>cases ry;exact PySem.EqNone.ne_bool_none (ZG I q (by simp))
  |bl j=>cases ry;exact ne_bool (ZG I q (congrArg not Zgn))
  |str j=>obtain⟨t',rfl⟩:=ry;exact PySem.EqMixed.ne_bool_str (ZG I q (by simp))
  |_=>exact absurd (show false=true from hs) Bool.false_ne_true
 |int i=>
  obtain⟨t,rfl⟩:=rx
  cases y with
  |non=>cases ry;exact PySem.EqNone.ne_int_none (ZG I q (by simp))
  |int j=>obtain⟨t',rfl⟩:=ry;exact ne_int (ZG I q (congrArg not Zaa))
  |str j=>obtain⟨t',rfl⟩:=ry;exact PySem.EqMixed.ne_int_str (ZG I q (by simp))
  |_=>exact absurd (show false=true from hs) Bool.false_ne_true
 |str i=>
  obtain⟨t,rfl⟩:=rx
  cases y with
  |non=>cases ry;exact PySem.EqNone.ne_str_none (ZG I q (by simp))
  |bl j=>cases ry;exact PySem.EqMixed.ne_str_bool (ZG I q (by simp))
  |int j=>obtain⟨t',rfl⟩:=ry;exact PySem.EqMixed.ne_str_int (ZG I q (by simp))
  |str j=>obtain⟨t',rfl⟩:=ry;exact ne_str (ZG I q (congrArg not Zdo))
  |_=>exact absurd (show false=true from hs) Bool.false_ne_true
 |byt i=>
  obtain⟨t,rfl⟩:=rx
  cases y with
  |byt j=>obtain⟨t',rfl⟩:=ry;exact PySem.W.ne_bytes (ZG I q (congrArg not Zdp))
  |_=>exact absurd (show false=true from hs) Bool.false_ne_true
 |_=>cases y <;> exact absurd (show false=true from hs) Bool.false_ne_true
theorem ZaO:Jj X (compareOp .Lt) (rI0 fun i j=>.bl (decide (i<j))):=Zji fun _ _ _ _ _ _ _ q=>lt_int q
theorem ZkO:Jj X (compareOp .LtE) (rI0 fun i j=>.bl (decide (i<=j))):=Zji fun _ _ _ _ _ _ _ q=>le_int q
theorem ZcY:Jj X (compareOp .Gt) (rI0 fun i j=>.bl (decide (j<i))):=Zji fun _ _ _ _ _ _ _ q=>gt_int q
theorem Zjf:Jj X (compareOp .Is) (fun x y H Q=>y=.non/\Q (.bl (decide (x=.non))) H):=by
 intro pins s σ H x y v u Q I rx ry h
 obtain⟨rfl,q⟩:=h
 cases ry
 refine is_none_gen (ZG I q ?_)
 cases x <;> first
  |(cases rx;rfl)
  |(obtain⟨t,rfl⟩:=rx;rfl)
theorem ZM (b:Expr){op:CmpOp}(h:op≠.In:=by decide)(h2:op≠.NotIn:=by decide):behindInMarks op b=false:=by
 have e1:(op == CmpOp.In)=false:=by cases op <;> first|rfl|exact absurd rfl h
 have e2:(op == CmpOp.NotIn)=false:=by cases op <;> first|rfl|exact absurd rfl h2
 cases b <;> simp[behindInMarks,e1,e2]
theorem JN {op:CmpOp}{r:R2}(ho:Jj X (compareOp op) r)(ha:PE X a ta)(hb:PE X b tb)(hm:behindInMarks op b=false):PE X (.Compare a [op] [b] pos) (tOp r ta tb):=by
 intro pins s σ H Q I h
 exact wpAny_Compare1 (ZjT ha hb I h fun v u s2 x y H2 I2 rx ry q=>ho pins s2 σ H2 x y v u Q I2 rx ry q) hm
def Zkk (t:TE):TT:=fun σ H Q=>t σ H fun x H'=>∃k,x=.bl k/\Q k H'
theorem ZF {op:CmpOp}{r:R2}(ho:Jj X (compareOp op) r)(ha:PE X a ta)(hb:PE X b tb)(hm:behindInMarks op b=false):PT X (.Compare a [op] [b] pos) (Zkk (tOp r ta tb)):=by
 intro pins s σ H Q I h
 refine wpAny_isTrue_Compare1 (ZT (ha pins s σ H _ I h) fun v s1 ⟨x,H1,I1,r1,q1⟩=>ZT (hb pins s1 σ H1 _ I1 q1) fun u s2 ⟨y,H2,I2,r2,q2⟩=>
  ZT (ho pins s2 σ H2 x y v u _ I2 r1 r2 q2) fun c s3 ⟨z,H3,I3,r3,k,e,q3⟩=>?_) hm
 subst e
 cases r3
 exact wpAny_truthy_bool ⟨H3,I3,q3⟩
def ZiL (r r':R2)(ta tb tc:TE):TE:=fun σ H Q=>ta σ H fun x H1=>tb σ H1 fun y H2=>r x y H2 fun z H3=>∃k,z=.bl k/\
 (if k=true then tc σ H3 fun w' H4=>r' y w' H4 Q else Q (.bl false) H3)
theorem Zfj {op op':CmpOp}{r r':R2}(ho:Jj X (compareOp op) r)(ho':Jj X (compareOp op') r')(ha:PE X a ta)(hb:PE X b tb)(hc:PE X c tc)
  (hm:lastMarks [op,op'] [b,c]=false:=by with_unfolding_all rfl):PE X (.Compare a [op,op'] [b,c] pos) (ZiL r r' ta tb tc):=by
 intro pins s σ H Q I h
 refine Compare_chain (ZT (ha pins s σ H _ I h) fun v s1 ⟨x,H1,I1,r1,q1⟩=>chain_link (ZT (hb pins s1 σ H1 _ I1 q1) fun u s2 ⟨y,H2,I2,r2,q2⟩=>
  ZT (ho pins s2 σ H2 x y v u _ I2 r1 r2 q2) fun d s3 ⟨z,H3,I3,r3,k,e,q3⟩=>?_)) hm
 subst e
 cases r3
 refine wpAny_truthy_bool ?_
 cases k with
 |false=>exact ite_ff ⟨.bl false,H3,I3,rfl,q3⟩
 |true=>exact ite_tt (chain_last (ZT (hc pins s3 σ H3 _ I3 q3) fun w' s4 ⟨z',H4,I4,r4,q4⟩=>ho' pins s4 σ H4 y z' u w' Q I4 r2 r4 q4))
def Zk9 (K:PySem.W.Frag)(x:V)(H:Hp)(k:Bool):Prop:=
 match x with
 | .non=>k=false
 | .bl b=>k=b
 | .int i=>k=(i != 0)
 | .str y=>y.length<=sizeLine/\k=((y.length:Int) != 0)
 | .byt y=>y.size<=sizeLine/\k=((y.size:Int) != 0)
 | .ref p=>(∃xs,Y0 K H p xs/\k = !xs.isEmpty)\/(∃xs,Wu K H p xs/\k = !xs.isEmpty)\/∃kvs,H p=some (.dK kvs)/\k = !kvs.isEmpty
 |_=>False
theorem Zb9 {κ:Type}{kvs:List (κ×V)}{vs:List (κ×Value)}(r:KV kvs vs):(!vs.isEmpty) = !kvs.isEmpty:=by
 cases r <;> rfl
theorem Vl {xs:List V}{its:List Value}(r:ZB xs its):(!its.toArray.isEmpty) = !xs.isEmpty:=by
 cases r <;> simp
theorem Vi:(sizeLine:Nat)<2 ^ 63:=by rw[sizeLine_eq];decide
theorem ZiF:Zl6 X (fun x H Q=>∃k,Zk9 X.K x H k/\Q k H):=by
 intro pins s σ H x v Q I rx h
 obtain⟨k,e,q⟩:=h
 have hl:=Vi
 have hs:sizeLine=16777216:=sizeLine_eq
 cases x with
 |non=>
  cases rx
  have e':k=false:=e
  subst e'
  exact truthy_none ⟨H,I,q⟩
 |bl b=>
  cases rx
  have e':k=b:=e
  subst e'
  exact wpAny_truthy_bool ⟨H,I,q⟩
 |int i=>
  obtain⟨t,rfl⟩:=rx
  have e':k=(i != 0):=e
  subst e'
  exact PySem.P.truthy_int ⟨H,I,q⟩
 |str y=>
  obtain⟨t,rfl⟩:=rx
  obtain⟨hy,e'⟩:y.length<=sizeLine/\k=((y.length:Int) != 0):=e
  subst e'
  exact PySem.P.truthy_str (by omega) ⟨H,I.tok _,q⟩
 |byt y=>
  obtain⟨t,rfl⟩:=rx
  obtain⟨hy,e'⟩:y.size<=sizeLine/\k=((y.size:Int) != 0):=e
  subst e'
  exact PySem.W.truthy_bytes (by omega) ⟨H,I.tok _,q⟩
 |ref p=>
  cases rx
  have e':(∃xs,Y0 X.K H p xs/\k = !xs.isEmpty)\/(∃xs,Wu X.K H p xs/\k = !xs.isEmpty)\/∃kvs,H p=some (.dK kvs)/\k = !kvs.isEmpty:=e
  rcases e' with ⟨xs,hx,e'⟩|⟨xs,hx,e'⟩|⟨kvs,hx,e'⟩
  ·subst e'
   obtain⟨its,r,pl,hz⟩:=I.list hx
   have hlen:=r.length
   exact wpAny_truthy_list pl.isList (by simp only[Zh];omega) ⟨H,I.tok _,by rw[Vl r];exact q⟩
  ·subst e'
   obtain⟨its,r,pl,hz⟩:=I.tuple hx
   have hlen:=r.length
   exact truthy_tuple pl (by simp only[Zh];omega) ⟨H,I.tok _,by rw[Vl r];exact q⟩
  ·subst e'
   obtain⟨hz,hS,vs,r,m⟩:kvs.length<=sizeLine/\(p == sysModules)=false/\∃vs,KV kvs vs/\s.heap.DictOf (ZU X.prog X.w) p vs:=I.hok p _ hx
   have hlen:kvs.length=vs.length:=Paired.length r
   exact wpAny_truthy_dict hS m (by omega) ⟨H,I.tok _,by rw[Zb9 r];exact q⟩
 |_=>exact (show False from e).elim
theorem Zff (ha:PE X a ta)(he:∀whole,isTrue a X.env whole=(do let v <-whole;standAt a.pos;holding [v] (truthy v))) :
  PT X a (fun σ H Q=>ta σ H fun x H'=>∃k,Zk9 X.K x H' k/\Q k H'):=by
 intro pins s σ H Q I h
 exact isTrue_plain (ZT (ha pins s σ H _ I h) fun v s1 ⟨x,H1,I1,r1,q1⟩=>ZiF pins s1 σ H1 x v Q I1 r1 q1) (he _)
theorem vals1 {x:V}{us:List Value}(r:ZB [x] us):∃u,us=[u]/\RelV x u:=by
 cases r with
 |cons r1 r2=>cases r2;exact⟨_,rfl,r1⟩
theorem vals2 {x y:V}{us:List Value}(r:ZB [x,y] us):∃u w',us=[u,w']/\RelV x u/\RelV y w':=by
 cases r with
 |cons r1 r2=>
  cases r2 with
  |cons r3 r4=>cases r4;exact⟨_,_,rfl,r1,r3⟩
theorem Zet (hc:X.calm=true):ZP X (.builtin "max") (fun xs H Q=>∃i j,xs=[.int i,.int j]/\Q (.int (if j > i then j else i)) H):=by
 intro pins s σ H xs us Q I r h
 obtain⟨i,j,rfl,q⟩:=h
 obtain⟨u,w',rfl,⟨t,rfl⟩,⟨t',rfl⟩⟩:=vals2 r
 refine max_two_ints (I.ok.hd hc) fun h' tk k=>⟨_,H,I.kept k,?_,q⟩
 by_cases hj:j > i
 ·rw[if_pos hj,if_pos hj];exact⟨_,rfl⟩
 ·rw[if_neg hj,if_neg hj];exact⟨_,rfl⟩
end
structure Zj4 (h:Heap)(x dx C:Addr)(mA:Str->Option Value):Prop where
 obj:h.get? x=some (PySem.W.instObj C dx)
 ns:h.Ns1 dx mA
 ne:dx≠x
theorem Zd5 {h:Heap}{dx:Addr}{mA:Str->Option Value}(n:h.Ns1 dx mA):∃od,h.get? dx=some od/\∀name,PySem.W.lookIn name od=some (mA name):=by
 obtain⟨o,es,ep,ho,hd,hk,_,hm⟩:=n
 refine⟨o,ho,fun name=>?_⟩
 have e:=hm name
 unfold nsFind findBy at e
 rw[<-Array.find?_toList] at e
 unfold PySem.W.lookIn
 rw[hd]
 dsimp only
 split
 ·rename_i y q
  rw[q] at e
  exact congrArg some e
 ·rename_i q
  rw[q] at e
  have a:es.toList.any (·.refKey)=false:=by
   rw[List.any_eq_false]
   intro y hy
   obtain⟨z,t,hkey⟩:=hk y (Array.mem_toList_iff.mp hy)
   simp[DictEntry.refKey,hkey]
  have a':¬es.toList.any (·.refKey)=true:=by rw[a];exact Bool.false_ne_true
  rw[if_neg a']
  exact congrArg some e
theorem Zj4.look {h:Heap}{x dx C:Addr}{mA:Str->Option Value}(I:Zj4 h x dx C mA):∃od,PySem.W.InstAt h x (PySem.W.instObj C dx) C (some od)/\∀name,PySem.W.lookIn name od=some (mA name):=
 let ⟨od,ho,hl⟩:=Zd5 I.ns
 ⟨od,⟨I.obj,rfl,rfl,ho⟩,hl⟩
section
variable {prog:Program}{w:World}{A:Around}{E:Value->Shared->Prop}{s:Shared}{K:PySem.W.Frag}{x dx C f:Addr}{mA:Str->Option Value}{name:Str}{v:Value}
end
theorem Vz.some_of {v:V}{o:Option Value}(r:Vz (some v) o):∃u,o=some u/\RelV v u:=by
 cases o with
 |none=>exact (show False from r).elim
 |some u=>exact⟨u,rfl,r⟩
section
variable {P:Program}{w:World}{H H':Hp}{h h':Heap}{a C dx:Addr}{fs fs':List (Str×V)}
theorem XI (hok:W8 P w H h)(e:H a=some (.ins C dx fs)):∃mA,Zj4 h a dx C mA/\(∀f,Vz (fs.lookup f) (mA f))/\PySem.Within mA (fs.map (·.1))/\fs.length<=1000/\H dx=some (.own a):=by
 obtain⟨d,z,ne,ob,mA,n,r,q⟩:=(show ZN P w H h a (.ins C dx fs) from hok a _ e)
 exact⟨mA,⟨ob,n,ne⟩,r,q,z,d⟩
end
structure Cls (K:PySem.W.Frag)(C:Addr):Prop where
 pg:PySem.W.plainGet K C Str.empty=true
 hd:PySem.W.hasDictIn K C=true
 po:PySem.W.plainOver K C=true
 sa:PySem.W.findIn K (.ref C) "__setattr__"=some (some (.builtin "object.__setattr__"))
theorem Cls.get {K:PySem.W.Frag}{C:Addr}(c:Cls K C)(f:Str):PySem.W.plainGet K C f=true:=c.pg
section
variable {X:Cx}{pins:List (Addr×Obj)}{σ:St}{H:Hp}{s:Shared}{a C dx:Addr}{fs:List (Str×V)}{f:Str}{v:V}{A:Around}{E:Value->Shared->Prop}
end
section
variable {X:Cx}{o e value:Expr}{f:Str}{pos pos' tpos:Pos}{ta tv:TE}
end
section
variable {X:Cx}{pins:List (Addr×Obj)}{σ:St}{H:Hp}{s:Shared}{A:Around}{E:Value->Shared->Prop}{Q:Value->Shared->Prop}{c:Value}{b:Bool}
inductive JZ (K:PySem.W.Frag) (H:Hp):V->Value->Prop where
 |non:JZ K H .non (.type "NoneType")
 |bl (x:Bool):JZ K H (.bl x) (.type "bool")
 |int (i:Int):JZ K H (.int i) (.type "int")
 |str (x:Str):JZ K H (.str x) (.type "str")
 |flt (x:UInt64):JZ K H (.flt x) (.type "float")
 |lst {a:Addr}{xs:List V} (e:H a=some (.lst xs)):JZ K H (.ref a) (.type "list")
 |frz {a:Addr}{o:Obj}{xs:List V} (e:H a=some (.frz o (.lst xs))):JZ K H (.ref a) (.type "list")
 |tup {a:Addr}{xs:List V} (e:H a=some (.tup xs)):JZ K H (.ref a) (.type "tuple")
 |dK {a:Addr}{kvs:List (Z0×V)} (e:H a=some (.dK kvs)):JZ K H (.ref a) (.type "dict")
 |dT {a:Addr}{kvs:List (List Z0×V)} (e:H a=some (.dT kvs)):JZ K H (.ref a) (.type "dict")
 |ins {a C dx:Addr}{fs:List (Str×V)} (e:H a=some (.ins C dx fs)) (cl:Cls K C) (ha:PySem.W.findIn K (.ref C) "__class__"=some (some (.builtin "object.__class__")))
   (hn:PySem.W.specialIn K (.builtin "object.__class__") "__get__"=some (some (.builtin "getset_descriptor.__get__"))) (htk:PySem.W.takesIn K (.builtin "object.__class__")=some true)
   (hm:PySem.W.mroIn K C (.type "object")=some true):JZ K H (.ref a) (.ref C)
theorem Ub {x:V}{u t:Value}(I:Inv X pins σ H s)(rx:RelV x u)(ty:JZ X.K H x t)(e:PySem.W.kitOne X.K t c=some b)(h:∀tk,Q (.bool b) {s with toks:=tk}) :
  wpAny (model X.prog X.w) A (call (.builtin "isinstance") [u,c]) Q E s:=by
 cases ty with
 |non=>cases (show u=Value.none from rx);exact PySem.W.kia_one PySem.W.kitx_none I.kIn True.intro e (fun z=>nomatch z) h
 |bl y=>cases (show u=Value.bool y from rx);exact PySem.W.kia_one PySem.W.kitx_bool I.kIn True.intro e (fun z=>nomatch z) h
 |int i=>obtain⟨t,q⟩:=(show ∃t,u=Value.int i t from rx);cases q;exact PySem.W.kia_one PySem.W.kitx_int I.kIn True.intro e (fun z=>nomatch z) h
 |str y=>obtain⟨t,q⟩:=(show ∃t,u=Value.str y t from rx);cases q;exact PySem.W.kia_one PySem.W.kitx_str I.kIn True.intro e (fun z=>nomatch z) h
 |flt y=>obtain⟨t,q⟩:=(show ∃t,u=Value.float y t from rx);cases q;exact PySem.W.kia_one PySem.W.kitx_float I.kIn True.intro e (fun z=>nomatch z) h
 | @lst a xs ea=>
  cases (show u=Value.ref a from rx)
  obtain⟨_,_,n,_,h1⟩:=(show ZN X.prog X.w H s.heap a (.lst xs) from I.hok a _ ea)
  exact PySem.W.kia_one PySem.W.kitx_list I.kIn ⟨_,h1,rfl⟩ e (fun z=>nomatch z) h
 | @frz a ob xs ea=>
  cases (show u=Value.ref a from rx)
  obtain⟨_,_,_,n,_,h1⟩:=(show ZN X.prog X.w H s.heap a (.frz ob (.lst xs)) from I.hok a _ ea)
  exact PySem.W.kia_one PySem.W.kitx_list I.kIn ⟨_,h1,rfl⟩ e (fun z=>nomatch z) h
 | @tup a xs ea=>
  cases (show u=Value.ref a from rx)
  obtain⟨_,_,_,p⟩:=(show ZN X.prog X.w H s.heap a (.tup xs) from I.hok a _ ea)
  obtain⟨o,h1,h2,_⟩:=p
  exact PySem.W.kia_one PySem.W.kitx_tuple I.kIn ⟨o,h1,h2⟩ e (fun z=>nomatch z) h
 | @dK a kvs ea=>
  cases (show u=Value.ref a from rx)
  obtain⟨_,_,vs,_,p⟩:=(show ZN X.prog X.w H s.heap a (.dK kvs) from I.hok a _ ea)
  obtain⟨o,es,ep,h1,h2,_⟩:=p
  exact PySem.W.kia_one PySem.W.kitx_dict I.kIn ⟨o,h1,h2.1⟩ e (fun z=>nomatch z) h
 | @dT a kvs ea=>
  cases (show u=Value.ref a from rx)
  obtain⟨_,_,xs,_,o,es,ep,h1,h2,_⟩:=(show ZN X.prog X.w H s.heap a (.dT kvs) from I.hok a _ ea)
  exact PySem.W.kia_one PySem.W.kitx_dict I.kIn ⟨o,h1,h2.1⟩ e (fun z=>nomatch z) h
 | @ins a C dx fs ea cl ha hn htk hm=>
  cases (show u=Value.ref a from rx)
  obtain⟨mA,O,_⟩:=XI I.hok ea
  obtain⟨od,J,_⟩:=O.look
  exact PySem.W.kia_one (PySem.W.kitx_own (cl.get _) cl.hd ha hn htk hm) I.kIn J e (fun z=>nomatch z) h
end
structure Y7 (k:Nat)(A:Around):Prop where
 hd:A.handled=none
 dp:A.depth+3*k+5<recursionLimit
 un:A.units+16*k+200<cLine
 gd:A.guards=some []
theorem Y7.mono {j k:Nat}{A:Around}(r:Y7 k A)(h:j<=k):Y7 j A:=⟨r.hd,by have:=r.dp;omega,by have:=r.un;omega,r.gd⟩
theorem Y7.deeper {k:Nat}{A:Around}(r:Y7 (k+1) A)(env:Env):Y7 k (A.deeper env):=
 ⟨r.hd,by have:=r.dp;show A.depth+1+3*k+5<_;omega,by have:=r.un;show A.units+3+16*k+200<_;omega,r.gd⟩
theorem Y7.depth {k:Nat}{A:Around}(r:Y7 k A):A.depth<recursionLimit:=by have:=r.dp;omega
theorem Y7.units {k:Nat}{A:Around}(r:Y7 k A):A.units+64<cLine:=by have:=r.un;omega
def ZgU:TA:=fun _ H Q=>Q [] H
def Zau (ta:TE)(tr:TA):TA:=fun σ H Q=>ta σ H fun x H1=>tr σ H1 fun xs H2=>Q (x::xs) H2
section
variable {X:Cx}{e:Expr}{es:List Expr}{te:TE}{t:TA}{pos:Pos}
theorem Zs:PA X [] ZgU:=fun _ _ _ _ H Q I h=>Calls.spliced_nil ⟨[],H,I,.nil,h⟩
theorem Zhh (ha:PE X e te)(hr:PA X es t)(hs:starEach (e::es) X.env=(false,eval e X.env)::starEach es X.env:=by rfl):PA X (e::es) (Zau te t):=by
 intro pos pins s σ H Q I h
 rw[hs]
 show wpAny _ _ (spliced ((false,eval e X.env)::backTo pos (starEach es X.env))) _ _ s
 refine Calls.spliced_cons (ZT (ha pins s σ H _ I h) fun u s1 ⟨x,H1,I1,r1,q1⟩=>?_)
 exact ZT (hr pos pins s1 σ H1 _ I1 q1) fun us s2 ⟨xs,H2,I2,r2,q2⟩=>⟨x::xs,H2,I2,.cons r1 r2,q2⟩
def ZlB (t:TA):TE:=fun σ H Q=>t σ H fun xs H1=>xs.length<=sizeLine/\∀p,H1 p=none->Q (.ref p) (upd H1 p (.tup xs))
def ZiJ (t:TA):TE:=fun σ H Q=>t σ H fun xs H1=>xs.length<=sizeLine/\∀p,H1 p=none->Q (.ref p) (upd H1 p (.lst xs))
theorem Xb {x1}(h:PA X es t):PE X (.Tuple es x1 pos) (ZlB t):=by
 intro pins s σ H Q I hq
 refine wpAny_Tuple_spliced (ZT (h pos pins s σ H _ I hq) fun us s1 ⟨xs,H1,I1,r,z,q⟩=>⟨by rw[<-r.length];exact z,?_⟩)
 have hf:H1 s1.heap.objs.size=none:=I1.hok.fresh (Zq _)
 refine⟨.ref s1.heap.objs.size,upd H1 s1.heap.objs.size (.tup xs),I1.laid (t':=s1.toks) (fun b u e=>Zn _ e) (Zq _) ?_,rfl,q _ hf⟩
 exact⟨z,us,r,⟨_,Zo _ rfl,rfl,_,rfl⟩⟩
theorem Ya (h:PA X es t):PE X (.List es pos) (ZiJ t):=by
 intro pins s σ H Q I hq
 refine wpAny_List_spliced (ZT (h pos pins s σ H _ I hq) fun us s1 ⟨xs,H1,I1,r,z,q⟩=>⟨by rw[<-r.length];exact z,?_⟩)
 have hf:H1 s1.heap.objs.size=none:=I1.hok.fresh (Zq _)
 refine⟨.ref s1.heap.objs.size,upd H1 s1.heap.objs.size (.lst xs),I1.laid (t':=s1.toks) (fun b u e=>Zn _ e) (Zq _) ?_,rfl,q _ hf⟩
 exact⟨z,us,0,r,Zo _ rfl⟩
end
abbrev Sp:=List V->Hp->VK->XK->Prop
abbrev XO:=List Env->Hp->Shared->XK->Value->Shared->Prop
structure Zey (P:Program)(w:World)(K:PySem.W.Frag)(mg:Str->Option Value)(base:Heap)(A:Around)(outer:List Env)(s:Shared)(H:Hp):Prop where
 frames:A.frames=some outer
 mod:Mod K mg base
 bs:∀b o,base.get? b=some o->s.heap.get? b=some o/\H b=none
 bsz:base.objs.size<=s.heap.objs.size
 funs:s.heap.FunFrames base outer
 frf:∀b∈frs outer,H b=none
 hok:W8 P w H s.heap
 bare:AllBare s.gens
def CE (outer:List Env)(P:Program)(w:World)(H:Hp)(s:Shared)(Q:VK)(u:Value)(s':Shared):Prop:=
 ∃v H',s'.os=s.os/\AllBare s'.gens/\Un (frs outer) [] H H' s.heap s'.heap/\W8 P w H' s'.heap/\RelV v u/\Q v H'
def CR (CX:XO)(outer:List Env)(P:Program)(w:World)(H:Hp)(s:Shared)(Q:VK)(E:XK)(r:Result)(s':Shared):Prop:=
 match r with
 | .ok (.ret u)=>CE outer P w H s Q u s'
 | .ok _=>False
 | .error e=>CX outer H s E e s'
structure ZQ (P:Program)(w:World)(K:PySem.W.Frag)(mg:Str->Option Value)(base:Heap)(CX:XO)(k:Nat)(f:Addr)(fd:FuncData)(ps:List Str)(sp:Sp):Prop where
 len:∀vs H Q E,sp vs H Q E->vs.length=ps.length
 run:∀(A:Around) (outer:List Env) (s:Shared) (H:Hp) (args:Args) (us:List Value) (vs:List V) (Q:VK) (E:XK),Y7 k A->Zey P w K mg base A outer s H->BindsTo s fd args (ps.zip us)->ZB vs us->sp vs H Q E->
  codeAny (model P w) A (.call (.ref f) args) (CR CX outer P w H s Q E) s
section
variable {X:Cx}{pins:List (Addr×Obj)}{σ:St}{H:Hp}{s s':Shared}
theorem Inv.env0 (I:Inv X pins σ H s):Zey X.prog X.w X.K X.mg X.base X.A X.stack s H:=
 ⟨I.ok.frames,I.ok.mod,I.bs,Nat.le_trans I.ok.bsz I.sz,I.stack,I.stkFree,I.hok,I.bare⟩
theorem Inv.after {Q:VK}{u:Value}(I:Inv X pins σ H s)(h:CE X.stack X.prog X.w H s Q u s'):EP X pins σ Q u s':=by
 obtain⟨v,H',os,bare,un,hok,r,q⟩:=h
 obtain⟨hh,g,d,t,os'⟩:=s'
 obtain rfl:os'=s.os:=os
 exact⟨v,H',I.call (h':=hh) (g':=g) (d':=d) (t':=t) (ch:=[]) un hok bare (fun b z=>absurd z (by simp)),r,q⟩
end
def Zh6 (sp:Sp)(dvs:List V)(E:XK)(t:TA):TE:=fun σ H Q=>t σ H fun vs H1=>sp (vs++dvs) H1 Q E
def Binds (K:PySem.W.Frag)(fd:FuncData)(ps:List Str)(ds:List Value):Prop:=
 ∀(s:Shared) (us:List Value),K.In s.heap->(us++ds).length=ps.length->BindsTo s fd ⟨us,[]⟩ (ps.zip (us++ds))
theorem Binds.all {K:PySem.W.Frag}{fd:FuncData}{ps:List Str}(h:∀us:List Value,us.length=ps.length->bindArgs fd ⟨us,[]⟩=pure (ps.zip us)):Binds K fd ps []:=fun s us _ hl=>by
 rw[List.append_nil] at hl ⊢
 exact .of_eq (h us hl)
def W7 (CX:XO)(X:Cx)(E:XK):Prop:=∀(pins:List (Addr×Obj)) (σ:St) (H:Hp) (s:Shared) (e:Value) (s':Shared),Inv X pins σ H s->CX X.stack H s E e s'->X.xe e s'
section
variable {X:Cx}{CX:XO}{k:Nat}{f C:Addr}{fd:FuncData}{ps:List Str}{sp:Sp}{dvs:List V}{ds:List Value}{E:XK}{x m:Str}{p pos apos:Pos}{e o:Expr}{es:List Expr}{ta:TE}{t:TA}
theorem Ze6 {pins:List (Addr×Obj)}{σ:St}{H:Hp}{s:Shared}{Q:VK}{us:List Value}{vs:List V}(F:ZQ X.prog X.w X.K X.mg X.base CX k f fd ps sp)(hr:Y7 k X.A)(hb:Binds X.K fd ps ds)(hd:ZB dvs ds)(hx:W7 CX X E)
  (I:Inv X pins σ H s) (r:ZB vs us) (h:sp (vs++dvs) H Q E):wpAny (model X.prog X.w) X.A (call (.ref f) us) (EP X pins σ Q) X.xe s:=by
 have r2:ZB (vs++dvs) (us++ds):=r.append hd
 have hl:(us++ds).length=ps.length:=by rw[<-r2.length];exact F.len _ _ _ _ h
 refine wpAny_call (codeAny_mono (F.run X.A X.stack s H ⟨us,[]⟩ (us++ds) (vs++dvs) Q E hr I.env0 (hb s us I.kIn hl) r2 h) fun r s' hq=>?_)
 cases r with
 |error e=>exact hx pins σ H s e s' I hq
 |ok fl=>
  cases fl with
  |ret u=>exact I.after hq
  |next=>exact False.elim hq
  |brk=>exact False.elim hq
  |cont=>exact False.elim hq
theorem Zhd (F:ZQ X.prog X.w X.K X.mg X.base CX k f fd ps sp)(hr:Y7 k X.A)(hg:Gl X x)(hm:X.mg x=some (.ref f))(hk:PySem.W.keepIn X.K (.ref f)=true)(hb:Binds X.K fd ps ds)(hd:ZB dvs ds)(hx:W7 CX X E)
  (ha:PA X (e::es) t) (hdb:(x == ("__debug__":Str))=false:=by decide) (he:starEach (e::es) X.env=(false,eval e X.env)::starEach es X.env:=by rfl) (hpl:(backTo pos (starEach es X.env)).any (·.1)=false:=by rfl) :
  PE X (.Call (.Name x p) (e::es) [] pos) (Zh6 sp dvs E t):=by
 intro pins s σ H Q I h
 refine wpAny_Call_Name_kw (JR I hg hm ?_ hdb)
 refine PySem.W.callWith_K (h₀:=X.base) I.ok.mod.kin hk (ZT (ha pos pins s σ H _ I h) fun us s1 ⟨vs,H1,I1,r,q⟩=>⟨I1.kIn,?_⟩) he hpl
 exact Ze6 F hr hb hd hx I1 r q
end
section
variable {X:Cx}{CX:XO}{k:Nat}{f C:Addr}{fd:FuncData}{ps ks:List Str}{sp:Sp}{E:XK}{x m:Str}{p pos apos kpos:Pos}{e o:Expr}{es:List Expr}{kws:List Keyword}{te ta:TE}{t tk:TA}{nm:Option Str}
variable {g:List Value->List Value->List Value}{gV:List V->List V->List V}
end
structure J1 (N P:List Str)(sc:Scope):Prop where
 kind:sc.kind=.function
 co:sc.isCoroutine=false
 gen:sc.isGenerator=false
 nd:N.Nodup
 pre:N.take P.length=P
 par:∀x∈P,sc.names.lookup x=some .local\/sc.names.lookup x=some .cell
 nofree:∀y∈sc.names,y.2≠.free
theorem FS {N P:List Str}{sc:Scope}(a:sc.kind=.function:=by rfl)(b:sc.isCoroutine=false:=by rfl)(c:sc.isGenerator=false:=by rfl)(d:N.Nodup:=by decide +kernel)(e:N.take P.length=P:=by rfl)(f:∀x∈P,sc.names.lookup x=some .local\/sc.names.lookup x=some .cell:=by decide +kernel)(g:∀y∈sc.names,y.2≠.free:=by decide +kernel):J1 N P sc:=⟨a,b,c,d,e,f,g⟩
theorem bd1 {α:Type}{f g:List Value->α}(h:∀a,f [a]=g [a])(us:List Value)(l:us.length=1):f us=g us:=by
  cases us with
  |nil=>cases l
  |cons a r=>cases r with
    |nil=>exact h a
    |cons b r=>simp at l
theorem VD {α:Type}{f g:List Value->α}(h:∀a b,f [a,b]=g [a,b])(us:List Value)(l:us.length=2):f us=g us:=by
  cases us with
  |nil=>cases l
  |cons a r=>exact bd1 (f:=fun r=>f (a::r)) (g:=fun r=>g (a::r)) (h a) r (Nat.succ.inj l)
theorem bd3 {α:Type}{f g:List Value->α}(h:∀a b c,f [a,b,c]=g [a,b,c])(us:List Value)(l:us.length=3):f us=g us:=by
  cases us with
  |nil=>cases l
  |cons a r=>exact VD (f:=fun r=>f (a::r)) (g:=fun r=>g (a::r)) (h a) r (Nat.succ.inj l)
theorem bd4 {α:Type}{f g:List Value->α}(h:∀a b c d,f [a,b,c,d]=g [a,b,c,d])(us:List Value)(l:us.length=4):f us=g us:=by
  cases us with
  |nil=>cases l
  |cons a r=>exact bd3 (f:=fun r=>f (a::r)) (g:=fun r=>g (a::r)) (h a) r (Nat.succ.inj l)
theorem Ul {kindOf:Str->Option NameKind}{x:Str}:∀{binds:List (Str×Value)}{m:Str->Option Value},(∀v,(x,v)∉binds)->bindL kindOf binds m x=m x
 | [],_,_=>rfl
 |(n,v)::r,m,h=>by
  unfold bindL
  rw[Ul fun w hw=>h w (List.mem_cons_of_mem _ hw)]
  split
  ·have:x≠n:=by rintro rfl;exact h v List.mem_cons_self
   simp[this]
  ·rfl
theorem Um {kindOf:Str->Option NameKind}{x:Str}:∀{binds:List (Str×Value)}{m:Str->Option Value},(∀v,(x,v)∉binds)->bindC kindOf binds m x=m x
 | [],_,_=>rfl
 |(n,v)::r,m,h=>by
  unfold bindC
  rw[Um fun w hw=>h w (List.mem_cons_of_mem _ hw)]
  split
  ·rfl
  ·have:x≠n:=by rintro rfl;exact h v List.mem_cons_self
   simp[this]
theorem Xk {kindOf:Str->Option NameKind}{x:Str}{v:Value}:∀{P:List Str}{vs:List Value}{i:Nat}{m:Str->Option Value},P.Nodup->P[i]?=some x->vs[i]?=some v->kindOf x=some .local->
  bindL kindOf (P.zip vs) m x=some v
 | [],_,_,_,_,h,_,_=>by simp at h
 |_::_,[],_,_,_,_,h,_=>by simp at h
 |p::P,w::vs,0,m,nd,h1,h2,hk=>by
  simp at h1 h2;subst h1;subst h2
  show bindL kindOf ((p,w)::P.zip vs) m p=_
  unfold bindL
  rw[Ul fun v hv=>(List.nodup_cons.mp nd).1 (List.of_mem_zip hv).1,if_pos hk]
  simp
 |p::P,w::vs,i+1,m,nd,h1,h2,hk=>by
  show bindL kindOf ((p,w)::P.zip vs) m x=_
  unfold bindL
  exact Xk (i:=i) (List.nodup_cons.mp nd).2 (by simpa using h1) (by simpa using h2) hk
theorem Xl {kindOf:Str->Option NameKind}{x:Str}{v:Value}:∀{P:List Str}{vs:List Value}{i:Nat}{m:Str->Option Value},P.Nodup->P[i]?=some x->vs[i]?=some v->kindOf x≠some .local->
  bindC kindOf (P.zip vs) m x=some v
 | [],_,_,_,_,h,_,_=>by simp at h
 |_::_,[],_,_,_,_,h,_=>by simp at h
 |p::P,w::vs,0,m,nd,h1,h2,hk=>by
  simp at h1 h2;subst h1;subst h2
  show bindC kindOf ((p,w)::P.zip vs) m p=_
  unfold bindC
  rw[Um fun v hv=>(List.nodup_cons.mp nd).1 (List.of_mem_zip hv).1,if_neg hk]
  simp
 |p::P,w::vs,i+1,m,nd,h1,h2,hk=>by
  show bindC kindOf ((p,w)::P.zip vs) m x=_
  unfold bindC
  exact Xl (i:=i) (List.nodup_cons.mp nd).2 (by simpa using h1) (by simpa using h2) hk
def start (N:List Str)(vs:List V):St:=vs.map some++List.replicate (N.length-vs.length) none
def Zac (CX:XO)(P:Program)(w:World)(K:PySem.W.Frag)(mg:Str->Option Value)(base:Heap)(N:List Str)(qual:Str)(scope:Scope)(f:Addr)(cd:Value)(A:Around)(outer:List Env)(s:Shared)(H:Hp)(E:XK):Cx where
 prog:=P
 w:=w
 K:=K
 mg:=mg
 base:=base
 A:=A.deeper (envOfC qual scope s.heap.objs.size f cd)
 N:=N
 s₀:=s
 H₀:=H
 env:=envOfC qual scope s.heap.objs.size f cd
 outer:=outer
 stack:=envOfC qual scope s.heap.objs.size f cd::outer
 ex:=[]
 calm:=true
 fn:=fun _=>true
 pn:=[]
 xe:=fun e s'=>wpAny (model P w) (A.deeper (envOfC qual scope s.heap.objs.size f cd)) (leaving (envOfC qual scope s.heap.objs.size f cd) e) (fun _ s''=>CX outer H s E e s'') (fun e' s''=>CX outer H s E e' s'') s'
theorem JY {sc:Scope}{n:Nat}{x:Str}(h:sc.names.lookup x=some .cell):∃c,(cellsFrom n sc.names []).lookup x=some c:=by
 have q:=PySem.W.cellsFrom_some sc.names n [] (.inl h)
 exact Option.isSome_iff_exists.mp q
theorem Zec {CX:XO}{P:Program}{w:World}{K:PySem.W.Frag}{mg:Str->Option Value}{base:Heap}{N ps:List Str}{qual:Str}{scope:Scope}{f:Addr}{cd:Value}{A:Around}{outer:List Env}{s s1:Shared}{H:Hp}{E:XK}{us:List Value}{vs:List V}
  (S:J1 N ps scope) (hd:A.handled=none) (e0:Zey P w K mg base A outer s H) (hl:vs.length=ps.length) (r:ZB vs us)
  (x:InCallC s s.heap.objs.size (bindL (envOfC qual scope s.heap.objs.size f cd).kindOf (ps.zip us) fun _=>none) (cellsFrom (s.heap.objs.size+1) scope.names []) (bindC (envOfC qual scope s.heap.objs.size f cd).kindOf (ps.zip us) fun _=>none) s1) :
  Inv (Zac CX P w K mg base N qual scope f cd A outer s H E) [] (start N vs) H s1:=by
 have hpl:ps.length<=N.length:=by have:=congrArg List.length S.pre;rw[List.length_take] at this;omega
 obtain⟨h1,tk,rfl,hk⟩:=x.done
 have noA:∀b:Addr,b∉(Zac CX P w K mg base N qual scope f cd A outer s H E).ex:=fun b z=>absurd (show b∈([]:List Addr) from z) (by simp)
 refine⟨⟨e0.mod,S.kind,rfl,rfl,Zq _,fun y z c h1 h2=>?_,fun y hy=>?_,fun y c _ h=>?_,fun _=>hd,Around.frames_deeper e0.frames,.inr ⟨rfl,rfl⟩,fun b z=>absurd z (noA b),e0.bs,e0.bsz,fun b _ _=>noA b,fun b z=>absurd z (noA b),e0.funs,e0.frf⟩,
  rfl,e0.bare,Un.kept hk,⟨_,x.toInCall.ns,fun i y v h1 h2 h3=>?_⟩,fun y c h=>⟨_,x.cell y c h⟩,e0.hok.fresh (Zq _),fun y c h=>?_,fun p hp=>absurd (show p∈([]:List (Addr×Obj)) from hp) (by simp),e0.hok.kept hk,?_⟩
 ·exact name_of_addr x.apart (PySem.mem_of_lookup h1) (PySem.mem_of_lookup h2)
 ·have hy:scope.names.lookup y=some .cell\/scope.names.lookup y=some .free:=hy
  rcases hy with hy|hy
  ·exact JY hy
  ·exact absurd rfl (S.nofree _ (PySem.mem_of_lookup hy))
 ·exact Nat.le_of_lt (x.above y c (PySem.mem_of_lookup h))
 ·have hi:i<vs.length:=by
   unfold start at h2
   by_cases hi:i<vs.length
   ·exact hi
   ·rw[List.getElem?_append_right (by simpa using hi)] at h2
    rw[List.getElem?_replicate] at h2
    split at h2 <;> cases h2
  have ha:vs[i]?=some v:=by
   unfold start at h2
   rw[List.getElem?_append_left (by simpa using hi),Zc] at h2
   cases e:vs[i]? with
   |none=>rw[e] at h2;cases h2
   |some a=>rw[e] at h2;cases h2;rfl
  obtain⟨u,hu,rv⟩:=r.get ha
  have hp:ps[i]?=some y:=by
   rw[<-S.pre,List.getElem?_take_of_lt (by omega)];exact h1
  have ndP:ps.Nodup:=by rw[<-S.pre];exact S.nd.sublist (List.take_sublist _ _)
  refine⟨u,rv,?_⟩
  rcases S.par y (List.mem_of_getElem? hp) with k|k
  ·exact .inl ⟨k,Xk ndP hp hu k⟩
  ·obtain⟨c,e⟩:=JY (n:=s.heap.objs.size+1) k
   refine .inr ⟨.inl k,c,e,?_⟩
   have q:=x.cell y c e
   rw[Xl ndP hp hu (by show scope.names.lookup y≠_;rw[k];decide)] at q
   exact q
 ·exact e0.hok.fresh (Nat.le_of_lt (x.above y c (PySem.mem_of_lookup h)))
 ·unfold start
  show _=N.length
  rw[Zd,Za,Ze]
  omega
theorem Zf8 {CX:XO}{P:Program}{w:World}{K:PySem.W.Frag}{mg:Str->Option Value}{base:Heap}{k:Nat}{f:Addr}{name qual:Str}{params:Arguments}{body:List Stmt}{scope:Scope}{dV kV doc pm cdv ct oc:Value}{an od:Option Addr}
  {osl:Array (Option Value)}{N ps:List Str}{sp:Sp} (lk:K.lookup f=some ⟨oc,od,.func (PySem.W.fnOf name qual params body scope dV kV doc pm an cdv ct),osl⟩) (hcd:PySem.W.codeIn K cdv qual=true) (S:J1 N ps scope)
  (len:∀vs H Q E,sp vs H Q E->vs.length=ps.length)
  (hbody:∀(A:Around) (outer:List Env) (s:Shared) (H:Hp) (vs:List V) (Q:VK) (E:XK),Y7 k (A.deeper (envOfC qual scope s.heap.objs.size f cdv))->sp vs H Q E->
   ∃t,VM (Zac CX P w K mg base N qual scope f cdv A outer s H E) body t/\t {nx:=fun _ H'=>Q .non H',rt:=Q} (start N vs) H) :
  ZQ P w K mg base CX (k+1) f (PySem.W.fnOf name qual params body scope dV kV doc pm an cdv ct) ps sp:=by
 refine⟨len,fun A outer s H args us vs Q E hr e0 hb r hsp=>?_⟩
 have hl:=len _ _ _ _ hsp
 have KX:K.In s.heap:=e0.mod.kin.keeps fun b o e=>(e0.bs b o e).1
 have lim:s.heap.NoLimit:=e0.mod.nolimit.keeps fun b o e=>(e0.bs b o e).1
 have hkind:∀y∈ps.zip us,scope.names.lookup y.1=some .local\/(scope.names.lookup y.1=some .cell/\((cellsFrom (s.heap.objs.size+1) scope.names []).lookup y.1).isSome=true):=fun ⟨n,v⟩ hy=>by
  rcases S.par n (List.of_mem_zip hy).1 with q|q
  ·exact .inl q
  ·exact .inr ⟨q,PySem.W.cellsFrom_some _ _ _ (.inl q)⟩
 refine codeAny_call_function hr.depth (KX _ _ lk) rfl S.co S.gen rfl (PySem.W.codeRec_of KX hcd) (hb _ _ _ _ ?_)
 refine wpAny_newFunctionEnv_cells S.kind hkind fun env he s1 x=>?_
 subst he
 refine⟨lim.keeps x.toInCall.keep,codeAny_func ?_⟩
 obtain⟨t,ht,hq⟩:=hbody A outer s H vs Q E (hr.deeper _) hsp
 have I:Inv (Zac CX P w K mg base N qual scope f cdv A outer s H E) [] (start N vs) H s1:=Zec S hr.hd e0 hl r x
 refine wpAny_mono (ht [] s1 (start N vs) H _ I hq) (fun fl s' hs=>?_) fun e s' hs=>hs
 have fin:∀{σ':St}{H':Hp}{v:V}{u:Value},Inv (Zac CX P w K mg base N qual scope f cdv A outer s H E) [] σ' H' s'->RelV v u->Q v H'->CE outer P w H s Q u s':=
  fun {σ' H' v u} J rv q=>⟨v,H',J.os,J.bare,J.base,J.hok,rv,q⟩
 cases fl with
 |ret u=>
  obtain⟨v,σ',H',J,rv,q⟩:=hs
  exact fin J rv q
 |next=>
  obtain⟨σ',H',J,q⟩:=hs
  exact fin (v:=V.non) (u:=Value.none) J rfl q
 |brk=>
  obtain⟨_,_,_,q⟩:=hs
  exact False.elim q
 |cont=>
  obtain⟨_,_,_,q⟩:=hs
  exact False.elim q
section
variable {X:Cx}{x:Str}{p pos:Pos}{e:Expr}{es:List Expr}{t:TA}{id T:String}{r:List V->Hp->VK->Prop}
def tCB (r:List V->Hp->VK->Prop)(t:TA):TE:=fun σ H Q=>t σ H fun vs H1=>r vs H1 Q
theorem Zfm (hc:ZP X (.builtin id) r)(hg:Gl X x)(hm:X.mg x=none)(hv:bootBuiltins x=some (.builtin id))(ha:PA X (e::es) t)(hn:x ≠ "__name__":=by decide)(hdb:(x == ("__debug__":Str))=false:=by decide)
  (he:starEach (e::es) X.env=(false,eval e X.env)::starEach es X.env:=by rfl) (hpl:(backTo pos (starEach es X.env)).any (·.1)=false:=by rfl):PE X (.Call (.Name x p) (e::es) [] pos) (tCB r t):=by
 intro pins s σ H Q I h
 refine wpAny_Call_Name_kw (Vj I hg hm hv ?_ hn hdb)
 exact PyProof.Rows.callWith_builtin1 (ZT (ha pos pins s σ H _ I h) fun us s1 ⟨vs,H1,I1,r1,q1⟩=>hc pins s1 σ H1 vs us Q I1 r1 q1) he hpl
theorem ZdP (hc:ZP X (.type T) r)(hg:Gl X x)(hm:X.mg x=none)(hv:bootBuiltins x=some (.type T))(ha:PA X (e::es) t)(hn:x ≠ "__name__":=by decide)(hdb:(x == ("__debug__":Str))=false:=by decide)
  (he:starEach (e::es) X.env=(false,eval e X.env)::starEach es X.env:=by rfl) (hpl:(backTo pos (starEach es X.env)).any (·.1)=false:=by rfl):PE X (.Call (.Name x p) (e::es) [] pos) (tCB r t):=by
 intro pins s σ H Q I h
 refine wpAny_Call_Name_kw (Vj I hg hm hv ?_ hn hdb)
 exact PyProof.Rows.callWith_type1 (ZT (ha pos pins s σ H _ I h) fun us s1 ⟨vs,H1,I1,r1,q1⟩=>hc pins s1 σ H1 vs us Q I1 r1 q1) he hpl
end
end L2
namespace HT
open PySem PyProof.Rows
section
open PySem.SeqAt
open PySem.AutoSeq1 (wpAny_loadPart')
open PySem.MeetsSeq PySem.MeetsSeq2 PySem.MeetsSeq3
end
section
variable {prog:Program}{w:World}{A:Around}{E:Value->Shared->Prop}{s:Shared}
def UD (n d:Nat):Option Int->Nat
 |none=>d
 |some v=>if v<0 then (v+(n:Int)).toNat else min v.toNat n
theorem ZaG (n d:Nat):UD n d none=d:=rfl
theorem ZcN (n d k:Nat):UD n d (some (k:Int))=min k n:=by
 show (if (k:Int)<0 then ((k:Int)+(n:Int)).toNat else min (k:Int).toNat n)=min k n
 rw[if_neg (by omega),Zj]
end
end HT
namespace L2
open PySem PySem.Spec PyProof.Rows
abbrev TO:=St->Hp->(Option Int->Hp->Prop)->Prop
def PO (X:Cx)(e:Option Expr)(t:TO):Prop:=
 ∀(pins:List (Addr×Obj)) (s:Shared) (σ:St) (H:Hp) (Q:Option Int->Hp->Prop),Inv X pins σ H s->t σ H Q->
  wpAny (model X.prog X.w) X.A (evalPart e X.env) (fun u s'=>∃o H',Inv X pins σ H' s'/\IsPart u o/\Q o H') X.xe s
def ZgT:TO:=fun _ H Q=>Q none H
def Zkl (t:TE):TO:=fun σ H Q=>t σ H fun x H1=>∃i,x=.int i/\Q (some i) H1
section
variable {X:Cx}{e:Expr}{te:TE}{lo hi:Option Expr}{tl th:TO}{pos p2:Pos}
theorem UP:PO X none ZgT:=by
 intro pins s σ H Q I h
 rw[evalPart_none]
 exact Zm ⟨none,H,I,.none,h⟩
theorem UO (h:PE X e te):PO X (some e) (Zkl te):=by
 intro pins s σ H Q I hw
 rw[evalPart_some]
 refine ZT (h pins s σ H _ I hw) fun u s1 ⟨x,H1,I1,r1,q1⟩=>?_
 obtain⟨i,rfl,q⟩:=q1
 obtain⟨t,rfl⟩:=r1
 exact⟨some i,H1,I1,.int i t,q⟩
def SlR (X:Cx)(r:V->Option Int->Option Int->Hp->VK->Prop):Prop:=
 ∀(pins:List (Addr×Obj)) (s:Shared) (σ:St) (H:Hp) (x:V) (v vl vu:Value) (lo hi:Option Int) (sl:Addr) (Q:VK),Inv X pins σ H s->RelV x v->s.heap.IsSliceOf sl vl vu .none->IsPart vl lo->IsPart vu hi->r x lo hi H Q->
  ∃T id,typeLookup (.type T) "__getitem__"=pure (some (.builtin id))/\s.TypeIs v T/\wpAny (model X.prog X.w) X.A (getItem v (.ref sl)) (EP X pins σ Q) X.xe s
def tSl (r:V->Option Int->Option Int->Hp->VK->Prop)(te:TE)(tl th:TO):TE:=fun σ H Q=>te σ H fun x H1=>tl σ H1 fun l H2=>th σ H2 fun u H3=>r x l u H3 Q
theorem Vc {r:V->Option Int->Option Int->Hp->VK->Prop}(hr:SlR X r)(he:PE X e te)(hl:PO X lo tl)(hu:PO X hi th):PE X (.Subscript e (.Slice lo hi none p2) pos) (tSl r te tl th):=by
 intro pins s σ H Q I h
 refine Subscript_ (ZT (he pins s σ H _ I h) fun v s1 ⟨x,H1,I1,r1,q1⟩=>?_)
 refine wpAny_Slice (ZT (hl pins s1 σ H1 _ I1 q1) fun vl s2 ⟨l,H2,I2,pl,q2⟩=>ZT (hu pins s2 σ H2 _ I2 q2) fun vu s3 ⟨u,H3,I3,pu,q3⟩=>?_)
 rw[evalPart_none]
 refine Zm ?_
 have I4:Inv X pins σ H3 {s3 with heap:=s3.heap.push {cls:=.type "slice",data:=.fields #[vl,vu,.none]}}:=I3.kept (t':=s3.toks) fun b ob q=>Zn _ q
 obtain⟨T,id,hT,ht,hg⟩:=hr pins {s3 with heap:=s3.heap.push {cls:=.type "slice",data:=.fields #[vl,vu,.none]}} σ H3 x v vl vu l u s3.heap.objs.size Q I4 r1 (Heap.IsSliceOf.new ..) pl pu q3
 show wpAny (model X.prog X.w) X.A (subscriptTail e (.Slice lo hi none p2) v (.ref s3.heap.objs.size)) (EP X pins σ Q) X.xe {s3 with heap:=s3.heap.push {cls:=.type "slice",data:=.fields #[vl,vu,.none]}}
 exact tail_any (ops:=[.ref s3.heap.objs.size,v]) ht hT hg (by with_unfolding_all rfl)
def Zad (xs:List V)(lo hi:Option Int):List V:=(xs.drop (HT.UD xs.length 0 lo)).take (HT.UD xs.length xs.length hi-HT.UD xs.length 0 lo)
theorem Xx (xs:List V)(lo hi:Option Int):(Zad xs lo hi).length<=xs.length:=by
 unfold Zad
 rw[List.length_take,List.length_drop]
 omega
end
def ixN (n:Nat)(i:Int):Option Nat:=if 0<=i then (if i<n then some i.toNat else none) else if -(n:Int)<=i then some (i+n).toNat else none
def atI {α:Type}(xs:List α)(i:Int):Option α:=(ixN xs.length i).bind fun j=>xs[j]?
theorem U5 {n:Nat}{i:Int}{j:Nat}(h:ixN n i=some j):seqIndex? i n=some j/\j<n/\-(n:Int)<=i/\i<n:=by
 unfold ixN at h
 by_cases h0:0<=i
 ·rw[if_pos h0] at h
  by_cases h1:i<n
  ·rw[if_pos h1] at h
   have e:i.toNat=j:=Option.some.inj h
   exact⟨by rw[seqIndex_of h0 h1,e],by omega,by omega,h1⟩
  ·rw[if_neg h1] at h;cases h
 ·rw[if_neg h0] at h
  by_cases h1:-(n:Int)<=i
  ·rw[if_pos h1] at h
   have e:(i+n).toNat=j:=Option.some.inj h
   exact⟨by rw[seqIndex_neg (by omega) h1,e],by omega,h1,by omega⟩
  ·rw[if_neg h1] at h;cases h
theorem Zdv {α:Type}{xs:List α}{i:Int}{v:α}(h:atI xs i=some v):∃j,seqIndex? i xs.length=some j/\xs[j]?=some v/\j<xs.length/\-(xs.length:Int)<=i/\i<xs.length:=by
 unfold atI at h
 cases e:ixN xs.length i with
 |none=>rw[e] at h;cases h
 |some j=>
  rw[e] at h
  obtain⟨h1,h2,h3,h4⟩:=U5 e
  exact⟨j,h1,h,h2,h3,h4⟩
theorem YV {α:Type}{xs:List α}{j:Nat}{v:α}(h:xs[j]?=some v):atI xs (j:Int)=some v:=by
 have hj:j<xs.length:=(List.getElem?_eq_some_iff.mp h).1
 have e:ixN xs.length (j:Int)=some j:=by
  unfold ixN
  rw[if_pos (by omega),if_pos (by omega)];simp
 unfold atI;rw[e];exact h
def ZhY (b:Expr):Prop:=∀o i,subscripted b false o i=operate [o,i] (getItem o i)
def IxR (X:Cx)(r:R2):Prop:=
 ∀(value slice:Expr) (pins:List (Addr×Obj)) (s:Shared) (σ:St) (H:Hp) (x y:V) (v u:Value) (Q:VK),Inv X pins σ H s->RelV x v->RelV y u->r x y H Q->
  subscripted slice false v u=operate [v,u] (getItem v u)->wpAny (model X.prog X.w) X.A (subscriptTail value slice v u) (EP X pins σ Q) X.xe s
def MtR (X:Cx)(id:String)(r:V->List V->Hp->VK->Prop):Prop:=
 ∀(pins:List (Addr×Obj)) (s:Shared) (σ:St) (H:Hp) (x:V) (xs:List V) (v:Value) (us:List Value) (Q:VK),Inv X pins σ H s->RelV x v->ZB xs us->r x xs H Q->
  wpAny (model X.prog X.w) X.A (call (.builtin id) (v::us)) (EP X pins σ Q) X.xe s
section
variable {X:Cx}{a b:Expr}{ta tb:TE}{pos:Pos}
theorem ZE {r:R2}(hr:IxR X r)(ha:PE X a ta)(hb:PE X b tb)(hs:ZhY b):PE X (.Subscript a b pos) (tOp r ta tb):=by
 intro pins s σ H Q I h
 exact Subscript_ (ZjT ha hb I h fun v u s2 x y H2 I2 rx ry q=>hr a b pins s2 σ H2 x y v u Q I2 rx ry q (hs _ _))
def ZkC (K:PySem.W.Frag):R2:=fun x y H Q=>∃p xs i v,x=.ref p/\y=.int i/\Y0 K H p xs/\atI xs i=some v/\Q v H
def ZkB (K:PySem.W.Frag):R2:=fun x y H Q=>∃p xs i v,x=.ref p/\y=.int i/\Wu K H p xs/\atI xs i=some v/\Q v H
theorem ZhI:IxR X (ZkC X.K):=by
 intro value slice pins s σ H x y v u Q I rx ry h hs
 obtain⟨p,xs,i,z,rfl,rfl,hq,he,q⟩:=h
 cases rx
 obtain⟨t,rfl⟩:=ry
 obtain⟨its,r,pl,hz⟩:=I.list hq
 obtain⟨j,h1,h2,h3,h4,h5⟩:=Zdv he
 obtain⟨w,ew,rw'⟩:=r.get h2
 have hl:=r.length
 have hn:=Vi
 have fin:EP X pins σ Q w s:=⟨z,H,I,rw',q⟩
 by_cases h0:0<=i
 ·have hj:i.toNat=j:=by
   rw[seqIndex_of h0 h5] at h1
   exact Option.some.inj h1
  exact item_listR pl.isList h0 (by omega) (by rw[hj];simpa using ew) fin hs
 ·have hj:(i+(its.toArray.size:Int)).toNat=j:=by
   rw[seqIndex_neg (by omega) h4] at h1
   rw[Zh,<-hl]
   exact Option.some.inj h1
  exact subscriptTail_builtinR (x:=w) pl.isList.typeIs slot_list_getitem.lookup
   (wpAny_getItem_list_neg (Q:=fun r s'=>r=w/\EP X pins σ Q r s') pl.isList (by omega) (by rw[Zh] <;> omega) (by omega) (by rw[hj];simpa using ew) ⟨rfl,fin⟩) hs
theorem Zjy:IxR X (ZkB X.K):=by
 intro value slice pins s σ H x y v u Q I rx ry h hs
 obtain⟨p,xs,i,z,rfl,rfl,hq,he,q⟩:=h
 cases rx
 obtain⟨t,rfl⟩:=ry
 obtain⟨its,r,pl,hz⟩:=I.tuple hq
 obtain⟨j,h1,h2,h3,h4,h5⟩:=Zdv he
 obtain⟨w,ew,rw'⟩:=r.get h2
 have hl:=r.length
 have hn:=Vi
 have fin:EP X pins σ Q w s:=⟨z,H,I,rw',q⟩
 exact subscriptTail_builtinR (x:=w) pl.typeIs slot_tuple_getitem.lookup
  (getItem_tuple (j:=j) (Q:=fun r s'=>r=w/\EP X pins σ Q r s') pl (by omega) (by omega) (by rw[Zh,<-hl];exact h1) (by simpa using ew) ⟨rfl,fin⟩) hs
theorem Zb7 (its:List Value)(n j:Nat)(u:Value):Obj.mapSeq (·.setIfInBounds j u) {cls:=.type "list",data:=.seq its.toArray n}={cls:=.type "list",data:=.seq (its.set j u).toArray n}:=by
 simp[Obj.mapSeq]
theorem Inv.lst {pins:List (Addr×Obj)}{σ:St}{H:Hp}{s:Shared}{p:Addr}{xs:List V}(I:Inv X pins σ H s)(h:H p=some (.lst xs)) :
  ∃(its:List Value) (n:Nat),ZB xs its/\s.heap.get? p=some {cls:=.type "list",data:=.seq its.toArray n}/\xs.length<=sizeLine:=by
 obtain⟨z,its,n,r,e⟩:=I.hok p _ h
 exact⟨its,n,r,e,z⟩
theorem Inv.lstUpd {pins:List (Addr×Obj)}{σ:St}{H:Hp}{s:Shared}{p:Addr}{xs ys:List V}{its its':List Value}{n n':Nat}{f:Obj->Obj}(I:Inv X pins σ H s)(h:H p=some (.lst xs))
  (ho:s.heap.get? p=some {cls:=.type "list",data:=.seq its.toArray n}) (hf:f {cls:=.type "list",data:=.seq its.toArray n}={cls:=.type "list",data:=.seq its'.toArray n'}) (r:ZB ys its') (hz:ys.length<=sizeLine) (t:Nat) :
  Inv X pins σ (upd H p (.lst ys)) {s with heap:=s.heap.update p f,toks:=t}:=by
 have e:(s.heap.update p f).get? p=some {cls:=.type "list",data:=.seq its'.toArray n'}:=by
  rw[Heap.get?_update_self f ho (by rw[hf] <;> rfl),hf]
 refine I.write (x:=p) (e:=p) (by rw[h];trivial) (.inl rfl) (fun b u hb q=>(Heap.get?_update_other _ _ (Ne.symm hb)).trans q) ⟨_,e⟩ ?_
 exact⟨hz,its',n',r,e⟩
def ZkA:V->V->V->Hp->(Hp->Prop)->Prop:=fun o i v H Q=>∃p xs k j,o=.ref p/\i=.int k/\H p=some (.lst xs)/\ixN xs.length k=some j/\Q (upd H p (.lst (xs.set j v)))
theorem ZeT:Zlc X ZkA:=by
 intro pins s σ H o i v ov iv u Q I ro ri rv h
 obtain⟨p,xs,k,j,rfl,rfl,hp,hj,q⟩:=h
 cases ro
 obtain⟨t,rfl⟩:=ri
 obtain⟨its,n,r,ho,hz⟩:=I.lst hp
 obtain⟨h1,h2,h3,h4⟩:=U5 hj
 have hl:=r.length
 have hn:=Vi
 have I':Inv X pins σ (upd H p (.lst (xs.set j v))) {s with heap:=s.heap.update p (Obj.mapSeq (·.setIfInBounds j u))}:=
  I.lstUpd hp ho (Zb7 its n j u) (r.set rv j) (by rw[List.length_set];exact hz) s.toks
 by_cases h0:0<=k
 ·have hk:k.toNat=j:=by
   rw[seqIndex_of h0 h4] at h1
   exact Option.some.inj h1
  exact PySem.W.ki_setAt ho h0 (by omega) (by rw[Zh,<-hl];exact h4) (by rw[hk];exact⟨_,I',q⟩)
 ·have hk:(k+(its.toArray.size:Int)).toNat=j:=by
   rw[seqIndex_neg (by omega) h3] at h1
   rw[Zh,<-hl]
   exact Option.some.inj h1
  exact PySem.W.ki_setBack ho (by omega) (by rw[Zh,<-hl];exact h3) (by omega) (by rw[hk];exact⟨_,I',q⟩)
theorem Uy (lo hi:Option Int)(n:Nat):(sliceBounds lo hi none n).1=((HT.UD n 0 lo:Nat):Int)/\(sliceBounds lo hi none n).2.1=((HT.UD n n hi:Nat):Int)/\(sliceBounds lo hi none n).2.2=1:=by
 refine⟨?_,?_,rfl⟩
 ·cases lo with
  |none=>simp[sliceBounds,HT.UD]
  |some i=>
   simp only[sliceBounds,HT.UD,Option.getD_none,show (1:Int) > 0 by decide,if_true]
   by_cases h:i<0
   ·simp only[h,if_true] <;> omega
   ·simp only[h,if_false] <;> omega
 ·cases hi with
  |none=>simp[sliceBounds,HT.UD]
  |some i=>
   simp only[sliceBounds,HT.UD,Option.getD_none,show (1:Int) > 0 by decide,if_true]
   by_cases h:i<0
   ·simp only[h,if_true] <;> omega
   ·simp only[h,if_false] <;> omega
theorem VH (its:List Value)(lo hi:Option Int):slicePick its.toArray lo hi none=((its.drop (HT.UD its.length 0 lo)).take (HT.UD its.length its.length hi-HT.UD its.length 0 lo)).toArray:=by
 obtain⟨h1,h2,h3⟩:=Uy lo hi its.toArray.size
 unfold slicePick
 rw[h1,h2,h3]
 simp only[sliceRange_one,pick_run,Zh] <;> rfl
def ZlL (K:PySem.W.Frag):V->Option Int->Option Int->Hp->VK->Prop:=fun x lo hi H Q=>∃a xs,x=.ref a/\Y0 K H a xs/\∀p,H p=none->Q (.ref p) (upd H p (.lst (Zad xs lo hi)))
theorem Uz:SlR X (ZlL X.K):=by
 intro pins s σ H x v vl vu lo hi sl Q I rx hs pl pu h
 obtain⟨a,xs,rfl,hx,q⟩:=h
 cases rx
 obtain⟨its,r,ht,hz⟩:=I.list hx
 have hlen:=r.length
 refine⟨"list",_,slot_list_getitem.lookup,ht.isList.typeIs,?_⟩
 refine wpAny_getItem_list_slice ht.isList hs pl pu .none (by simp) ?_ (by rw[Zh] <;> omega)
 rw[VH,<-hlen]
 refine⟨.ref s.heap.objs.size,_,I.laid (t':=s.toks) (o:=.lst (Zad xs lo hi)) (fun b ob q=>Zn _ q) (Zq _) ?_,rfl,q _ (I.hok.fresh (Zq _))⟩
 exact⟨Nat.le_trans (Xx xs lo hi) hz,_,0,(r.drop (HT.UD xs.length 0 lo)).take (HT.UD xs.length xs.length hi-HT.UD xs.length 0 lo),Zo _ rfl⟩
def WW:V->Bool
 | .non=>true
 | .bl _=>true
 | .int _=>true
 | .str _=>true
 |_=>false
def eqV:V->V->Bool
 | .non,.non=>true
 | .bl a,.bl b=>a == b
 | .bl a,.int b=>(if a then 1 else 0) == b
 | .int a,.bl b=>a == (if b then 1 else 0)
 | .int a,.int b=>a == b
 | .str a,.str b=>a == b
 |_,_=>false
theorem ZjO {A:Around}{s:Shared}{y x:V}{u v:Value}(ry:RelV y u)(rx:RelV x v)(fy:WW y=true)(fx:WW x=true):SeqAt.EqAt A s u v (eqV y x):=by
 cases y with
 |non=>
  cases ry
  cases x with
  |non=>cases rx;exact SeqAt.EqAt.same _
  |bl b=>cases rx;exact SeqAt.EqAt.none_bool b
  |int b=>obtain⟨t,rfl⟩:=rx;exact SeqAt.EqAt.none_int b t
  |str b=>obtain⟨t,rfl⟩:=rx;exact SeqAt.EqAt.none_str b t
  |_=>exact absurd (show false=true from fx) Bool.false_ne_true
 |bl a=>
  cases ry
  cases x with
  |non=>cases rx;exact SeqAt.EqAt.bool_none a
  |bl b=>cases rx;exact SeqAt.EqAt.bool_bool a b
  |int b=>obtain⟨t,rfl⟩:=rx;exact SeqAt.EqAt.bool_int a b t
  |str b=>obtain⟨t,rfl⟩:=rx;exact SeqAt.EqAt.bool_str a b t
  |_=>exact absurd (show false=true from fx) Bool.false_ne_true
 |int a=>
  obtain⟨t',rfl⟩:=ry
  cases x with
  |non=>cases rx;exact SeqAt.EqAt.int_none a t'
  |bl b=>cases rx;exact SeqAt.EqAt.int_bool a t' b
  |int b=>obtain⟨t,rfl⟩:=rx;exact SeqAt.EqAt.int_int a t' b t
  |str b=>obtain⟨t,rfl⟩:=rx;exact SeqAt.EqAt.int_str a t' b t
  |_=>exact absurd (show false=true from fx) Bool.false_ne_true
 |str a=>
  obtain⟨t',rfl⟩:=ry
  cases x with
  |non=>cases rx;exact SeqAt.EqAt.str_none a t'
  |bl b=>cases rx;exact SeqAt.EqAt.str_bool a t' b
  |int b=>obtain⟨t,rfl⟩:=rx;exact SeqAt.EqAt.str_int a t' b t
  |str b=>obtain⟨t,rfl⟩:=rx;exact SeqAt.EqAt.str_str a t' b t
  |_=>exact absurd (show false=true from fx) Bool.false_ne_true
 |_=>exact absurd (show false=true from fy) Bool.false_ne_true
def eqU (x:V)(u:Value):Bool:=match u with
 | .none=>eqV .non x
 | .bool b=>eqV (.bl b) x
 | .int i _=>eqV (.int i) x
 | .str z _=>eqV (.str z) x
 |_=>false
theorem Zcg {x y:V}{u:Value}(r:RelV y u)(f:WW y=true):eqU x u=eqV y x:=by
 cases y with
 |non=>cases r;rfl
 |bl b=>cases r;rfl
 |int i=>obtain⟨t,rfl⟩:=r;rfl
 |str z=>obtain⟨t,rfl⟩:=r;rfl
 |_=>exact absurd (show false=true from f) Bool.false_ne_true
theorem Zal {x:V}:∀{xs:List V}{us:List Value},ZB xs us->xs.all WW=true->us.any (eqU x)=xs.any fun y=>eqV y x
 |_,_,.nil,_=>rfl
 |y::xs,u::us,.cons r t,f=>by
  rw[List.all_cons,Bool.and_eq_true] at f
  rw[List.any_cons,List.any_cons,Zcg r f.1,Zal t f.2]
theorem JP {A:Around}{s:Shared}{x:V}{v:Value}(rx:RelV x v)(fx:WW x=true):∀{xs:List V}{us:List Value},ZB xs us->xs.all WW=true->∀u∈us,SeqAt.EqAt A s u v (eqU x u)
 |_,_,.nil,_=>fun u hu=>by cases hu
 |y::xs,u::us,.cons r t,f=>fun u' hu=>by
  rw[List.all_cons,Bool.and_eq_true] at f
  rcases List.mem_cons.mp hu with rfl|hu
  ·rw[Zcg r f.1];exact ZjO r rx f.1 fx
  ·exact JP rx fx t f.2 u' hu
def inV (x:V)(xs:List V):Bool:=xs.any fun y=>eqV y x
def rIn (K:PySem.W.Frag)(neg:Bool):R2:=fun x y H Q=>∃p xs,y=.ref p/\(Y0 K H p xs\/Wu K H p xs)/\WW x=true/\xs.all WW=true/\Q (.bl (if neg then !inV x xs else inV x xs)) H
theorem UU:Jj X (compareOp .NotIn) (rIn X.K true):=by
 intro pins s σ H x y v u Q I rx ry h
 obtain⟨p,xs,rfl,hq,fx,fs,q⟩:=h
 cases ry
 rcases hq with hq|hq
 ·obtain⟨its,r,pl,hz⟩:=I.list hq
  refine SeqAt.notIn_listAt (eqU x) pl.isList (fun w hw=>JP rx fx r fs w (by simpa using hw)) ⟨.bl _,H,I,rfl,?_⟩
  rw[show its.toArray.any (eqU x)=its.any (eqU x) by simp,Zal r fs]
  exact q
 ·obtain⟨its,r,pl,hz⟩:=I.tuple hq
  refine SeqAt.notIn_tupleAt (eqU x) pl (fun w hw=>JP rx fx r fs w (by simpa using hw)) ⟨.bl _,H,I,rfl,?_⟩
  rw[show its.toArray.any (eqU x)=its.any (eqU x) by simp,Zal r fs]
  exact q
theorem Zag:ZP X (.builtin "len") (fun xs H Q=>∃p ys,xs=[.ref p]/\(Y0 X.K H p ys\/Wu X.K H p ys)/\Q (.int ys.length) H):=by
 intro pins s σ H xs us Q I r h
 obtain⟨p,ys,rfl,hq,q⟩:=h
 obtain⟨u,rfl,rx⟩:=vals1 r
 cases rx
 have hn:=Vi
 rcases hq with hq|hq
 ·obtain⟨its,r',pl,hz⟩:=I.list hq
  have hlen:=r'.length
  exact Calls.call_len_list pl.isList (by simp only[Zh] <;> omega) ⟨.int ys.length,H,I.tok _,⟨s.toks+1,by rw[Zh,hlen]⟩,q⟩
 ·obtain⟨its,r',pl,hz⟩:=I.tuple hq
  have hlen:=r'.length
  exact len_tuple pl (by simp only[Zh] <;> omega) ⟨.int ys.length,H,I.tok _,⟨s.toks+1,by rw[Zh,hlen]⟩,q⟩
theorem Zaf:ZP X (.type "list") (fun xs H Q=>∃p ys,xs=[.ref p]/\(Y0 X.K H p ys\/Wu X.K H p ys)/\∀l,H l=none->Q (.ref l) (upd H l (.lst ys))):=by
 intro pins s σ H xs us Q I r h
 obtain⟨p,ys,rfl,hq,q⟩:=h
 obtain⟨u,rfl,rx⟩:=vals1 r
 cases rx
 have fin:∀(its:List Value),ZB ys its->ys.length<=sizeLine->∀(h':Heap) (c':Nat),(∀b o',s.heap.get? b=some o'->h'.get? b=some o')->
   h'.get? s.heap.objs.size=some {cls:=.type "list",dict:=none,data:=.seq its.toArray c',slots:=#[]}->EP X pins σ Q (.ref s.heap.objs.size) {s with heap:=h'}:=fun its r' hz h' c' kp e=>
  ⟨.ref s.heap.objs.size,_,I.laid (t':=s.toks) kp (Zq _) (show ZN X.prog X.w _ h' _ (.lst ys) from ⟨hz,its,c',r',e⟩),rfl,q _ (I.hok.fresh (Zq _))⟩
 rcases hq with hq|hq
 ·obtain⟨its,r',pl,hz⟩:=I.list hq
  have hlen:=r'.length
  obtain⟨o,ho,hc,n,hd⟩:=pl.isList
  exact call_list_seq p (.inl rfl) ho hc hd (fun h' c' kp e=>fin its r' hz h' c' kp e) (by simp only[Zh] <;> omega)
 ·obtain⟨its,r',pl,hz⟩:=I.tuple hq
  have hlen:=r'.length
  obtain⟨o,ho,hc,n,hd⟩:=pl
  exact call_list_seq p (.inr rfl) ho hc hd (fun h' c' kp e=>fin its r' hz h' c' kp e) (by simp only[Zh] <;> omega)
theorem ZI:ZP X (.type "tuple") (fun xs H Q=>∃p ys,xs=[.ref p]/\((Y0 X.K H p ys/\∀l,H l=none->Q (.ref l) (upd H l (.tup ys)))\/(Wu X.K H p ys/\Q (.ref p) H))):=by
 intro pins s σ H xs us Q I r h
 obtain⟨p,ys,rfl,h⟩:=h
 obtain⟨u,rfl,rx⟩:=vals1 r
 cases rx
 rcases h with ⟨hq,q⟩|⟨hq,q⟩
 ·obtain⟨its,r',pl,hz⟩:=I.list hq
  have hlen:=r'.length
  refine call_tuple_list pl.isList (fun h' kp=>?_) (by simp only[Zh] <;> omega)
  have I1:Inv X pins σ H {s with heap:=h'}:=I.kept (t':=s.toks) kp
  have I2:Inv X pins σ (upd H h'.objs.size (.tup ys)) {s with heap:=h'.push {cls:=.type "tuple",data:=.seq its.toArray}}:=
   I1.laid (t':=s.toks) (fun b o e=>Zn _ e) (Zq _) (show ZN X.prog X.w _ _ _ (.tup ys) from ⟨hz,its,r',IsTup.new _ _⟩)
  exact⟨.ref h'.objs.size,_,I2,rfl,q _ (I1.hok.fresh (Zq _))⟩
 ·obtain⟨its,r',pl,hz⟩:=I.tuple hq
  exact call_tuple_same pl ⟨.ref p,H,I,rfl,q⟩
def tyV (K:PySem.W.Frag)(T:String)(x:V)(H:Hp):Prop:=match x with
 | .str _=>T = "str"
 | .int _=>T = "int"
 | .ref p=>(T = "list"/\∃xs,Y0 K H p xs)\/(T = "tuple"/\∃o,K.lookup p=some o/\o.cls=.type "tuple"/\o.dict=none)\/
   (T = "dict"/\((∃kvs,H p=some (.dK kvs))\/∃kvs,H p=some (.dT kvs)))\/(T = "set"/\∃S n,H p=some (.set S n))
 |_=>False
theorem ZeE {pins:List (Addr×Obj)}{σ:St}{H:Hp}{s:Shared}{T:String}{x:V}{v:Value}(I:Inv X pins σ H s)(r:RelV x v)(ty:tyV X.K T x H) :
  s.TypeIs v T/\∀a,v=.ref a->∃ob,s.heap.get? a=some ob/\ob.dict=none:=by
 cases x with
 |str z=>
  obtain⟨t,rfl⟩:=r
  cases (show T = "str" from ty)
  exact⟨typeIs_str s z t,fun _ e=>nomatch e⟩
 |int i=>
  obtain⟨t,rfl⟩:=r
  cases (show T = "int" from ty)
  exact⟨typeIs_int s i t,fun _ e=>nomatch e⟩
 |ref p=>
  cases r
  rcases ty with ⟨rfl,xs,hq⟩|⟨rfl,o,hk,hc,hd⟩|⟨rfl,hk⟩|⟨rfl,S,n,hk⟩
  ·obtain⟨its,_,pl,_⟩:=I.list hq
   refine⟨pl.isList.typeIs,fun a e=>?_⟩
   cases e
   obtain⟨o,n,e,c,hd,_⟩:=pl
   exact⟨o,e,hd⟩
  ·refine⟨⟨o,I.kIn p o hk,hc⟩,fun a e=>?_⟩
   cases e
   exact⟨o,I.kIn _ o hk,hd⟩
  ·have z:∃o,s.heap.get? p=some o/\o.ExactDict:=by
    rcases hk with ⟨kvs,hk⟩|⟨kvs,hk⟩
    ·obtain⟨_,_,_,_,o,_,_,e,ex,_⟩:=I.hok p _ hk
     exact⟨o,e,ex⟩
    ·obtain⟨_,_,_,_,o,_,_,e,ex,_⟩:=I.hok p _ hk
     exact⟨o,e,ex⟩
   obtain⟨o,e,ex⟩:=z
   refine⟨⟨o,e,ex.1⟩,fun a e2=>?_⟩
   cases e2
   exact⟨o,e,ex.2.1⟩
  ·obtain⟨o,_,_,_,e,ex,_⟩:=I.hok p _ hk
   refine⟨⟨o,e,ex.1⟩,fun a e2=>?_⟩
   cases e2
   exact⟨o,e,ex.2.1⟩
 |_=>exact False.elim ty
def ZlH (K:PySem.W.Frag)(T:String)(r:V->List V->Hp->VK->Prop)(to:TE):TE:=fun σ H Q=>to σ H fun x H1=>tyV K T x H1/\r x [] H1 Q
def tBM (K:PySem.W.Frag)(T:String)(r:V->List V->Hp->VK->Prop)(to:TE)(t:TA):TE:=fun σ H Q=>to σ H fun x H1=>tyV K T x H1/\t σ H1 fun xs H2=>r x xs H2 Q
variable {o e:Expr}{es:List Expr}{to:TE}{t:TA}{name:Str}{apos cpos:Pos}{T id:String}{r:V->List V->Hp->VK->Prop}
theorem Zfo (pa:PlainAttrs T)(slot:Slot T name id)(hty:typeOf (.builtin id)=pure (.type "method_descriptor"))(hm:MtR X id r)(ho:PE X o to)
  (hbase:attributeBase o name X.env (eval o X.env)=eval o X.env:=by rfl) (hline:(apos.endLine == cpos.line)=true:=by rfl):PE X (.Call (.Attribute o name apos) [] [] cpos) (ZlH X.K T r to):=by
 intro pins s σ H Q I h
 refine wpAny_Call_method0_late hbase hline (ZT (ho pins s σ H _ I h) fun v s1 ⟨x,H1,I1,r1,ty,q1⟩=>?_)
 obtain⟨h1,h2⟩:=ZeE I1 r1 ty
 exact⟨T,id,pa,slot,hty,h1,h2,Calls.callWith_builtin rfl (PySem.evalArgs_none (hm pins s1 σ H1 x [] v [] Q I1 r1 .nil q1))⟩
theorem JO (pa:PlainAttrs T)(slot:Slot T name id)(hty:typeOf (.builtin id)=pure (.type "method_descriptor"))(hm:MtR X id r)(ho:PE X o to)(ha:PA X (e::es) t)
  (hbase:attributeBase o name X.env (eval o X.env)=eval o X.env:=by rfl)
  (hfew:((backTo cpos (starEach (e::es) X.env)).all (fun x=>!x.1) && (backToKw cpos (keywordEach [] X.env)).all (fun x=>x.1.isSome)
   && decide ((e::es).length+([]:List Keyword).length+(if ([]:List Keyword).isEmpty then 0 else 1)<30))=true:=by rfl)
  (hline:(apos.endLine == cpos.line)=true:=by rfl) (hs:starEach (e::es) X.env=(false,eval e X.env)::starEach es X.env:=by rfl) (hplain:(backTo cpos (starEach es X.env)).any (·.1)=false:=by rfl) :
  PE X (.Call (.Attribute o name apos) (e::es) [] cpos) (tBM X.K T r to t):=by
 intro pins s σ H Q I h
 refine wpAny_Call_method_late hbase hfew hline rfl (ZT (ho pins s σ H _ I h) fun v s1 ⟨x,H1,I1,r1,ty,q1⟩=>?_)
 obtain⟨h1,h2⟩:=ZeE I1 r1 ty
 refine⟨T,id,pa,slot,hty,h1,h2,?_⟩
 have hA:=ha cpos pins s1 σ H1 _ I1 q1
 rw[hs] at hA ⊢
 refine Calls.callWith_builtin (by show (false || (backTo cpos (starEach es X.env)).any (·.1))=false;rw[hplain] <;> rfl) (Calls.evalArgs_plain ?_)
 exact ZT hA fun us s2 ⟨vs,H2,I2,r2,q2⟩=>hm pins s2 σ H2 x vs v us Q I2 r1 r2 q2
end
def MtM (X:Cx)(id:String)(r:V->List V->Hp->VK->Prop):Prop:=
 ∀(pins:List (Addr×Obj)) (s:Shared) (σ:St) (H:Hp) (x:V) (xs:List V) (v:Value) (us:List Value) (Q:VK),Inv X pins σ H s->RelV x v->ZB xs us->r x xs H Q->
  wpAny (model X.prog X.w) X.A (call (.builtin id) (v::us)) (EP X pins σ Q) X.xe s
theorem ZB.one:∀{x:V}{us:List Value},ZB [x] us->∃u,us=[u]/\RelV x u
 |_,_,.cons r .nil=>⟨_,rfl,r⟩
theorem ZB.zero:∀{us:List Value},ZB [] us->us=[]
 |_,.nil=>rfl
theorem ZB.dropLast {xs:List V}{us:List Value}(h:ZB xs us):ZB xs.dropLast us.dropLast:=by
 induction h with
 |nil=>exact .nil
 |cons r t ih=>
  cases t with
  |nil=>exact .nil
  |cons q t'=>exact .cons r ih
theorem ZB.eraseIdx:∀{xs:List V}{us:List Value} (i:Nat),ZB xs us->ZB (xs.eraseIdx i) (us.eraseIdx i)
 |_,_,_,.nil=>.nil
 |_,_,0,.cons _ t=>t
 |_,_,i+1,.cons r t=>.cons r (ZB.eraseIdx i t)
theorem ZB.rep {xs:List V}{us:List Value}(h:ZB xs us):∀k:Nat,ZB (List.replicate k xs).flatten (List.replicate k us).flatten
 |0=>.nil
 |k+1=>by
  rw[List.replicate_succ,List.replicate_succ,List.flatten_cons,List.flatten_cons]
  exact ZB.append h (ZB.rep h k)
theorem Zcf {α:Type}(l:List α):l.eraseIdx (l.length-1)=l.dropLast:=by
 induction l with
 |nil=>rfl
 |cons a r ih=>
  cases r with
  |nil=>rfl
  |cons b r=>
   have e:(a::b::r).length-1=((b::r).length-1)+1:=by
    have h1:(a::b::r).length=r.length+2:=rfl
    have h2:(b::r).length=r.length+1:=rfl
    omega
   rw[e,List.eraseIdx_cons_succ,ih]
   all_goals rfl
theorem V6 {α:Type}:∀(l:List α) (i:Nat),(l.eraseIdx i).length<=l.length
 | [],_=>Zq _
 |_::_,0=>Nat.le_succ _
 |_::r,i+1=>Nat.succ_le_succ (V6 r i)
theorem foldl_rep (its:List Value):∀(k:Nat) (acc:List Value),
  List.foldl (fun x1 x2=>x1++x2) acc.toArray (List.replicate k its.toArray)=(acc++(List.replicate k its).flatten).toArray
 |0,acc=>by simp
 |k+1,acc=>by
  have e:acc.toArray++its.toArray=(acc++its).toArray:=by simp
  have e2:(acc++its)++(List.replicate k its).flatten=acc++(List.replicate (k+1) its).flatten:=by
   rw[List.replicate_succ,List.flatten_cons,List.append_assoc]
  rw[<-e2,<-foldl_rep its k (acc++its),<-e,List.replicate_succ,List.foldl_cons]
section
variable {X:Cx}{pins:List (Addr×Obj)}{σ:St}{H:Hp}{s:Shared}{l b:Addr}{xs ys zs:List V}
theorem Inv.lset {its its':List Value}{n:Nat}{f:Array Value->Array Value}{t':Nat}(I:Inv X pins σ H s)(hH:H l=some (.lst xs))
  (e:s.heap.get? l=some {cls:=.type "list",data:=.seq its.toArray n}) (hf:f its.toArray=its'.toArray) (hv:ZB ys its') (hz:ys.length<=sizeLine) :
  Inv X pins σ (upd H l (.lst ys)) {s with heap:=s.heap.update l (Obj.mapSeq f),toks:=t'}:=by
 have q:=PySem.IsL.update e f
 rw[hf] at q
 refine I.write (x:=l) (e:=l) (by rw[hH];exact trivial) (.inl rfl) (fun b' u hb hu=>(Heap.get?_update_other s.heap (Obj.mapSeq f) (Ne.symm hb)).trans hu) ⟨_,q⟩ ?_
 exact⟨hz,its',_,hv,q⟩
theorem Inv.lnew {its:List Value}{t':Nat}(I:Inv X pins σ H s)(hv:ZB ys its)(hz:ys.length<=sizeLine) :
  Inv X pins σ (upd H s.heap.objs.size (.lst ys)) {s with heap:=s.heap.push {cls:=.type "list",data:=.seq its.toArray},toks:=t'}:=
 I.laid (fun _ _ q=>Zn _ q) (Zq _) ⟨hz,its,0,hv,Zo _ rfl⟩
theorem Inv.fresh (I:Inv X pins σ H s):H s.heap.objs.size=none:=I.hok.fresh (Zq _)
theorem Inv.lstM (I:Inv X pins σ H s)(hH:H l=some (.lst xs)):xs.length<=sizeLine/\∃(its:List Value) (n:Nat),ZB xs its/\xs.length=its.length/\s.heap.get? l=some {cls:=.type "list",data:=.seq its.toArray n}:=by
 obtain⟨z,its,n,r,e⟩:=I.hok l _ hH
 exact⟨z,its,n,r,r.length,e⟩
theorem ZaS {n:Nat}(h:n<=sizeLine):Builtin.List.listTooLong n=false:=by
 unfold Builtin.List.listTooLong
 exact decide_eq_false (by omega)
end
section
variable {X:Cx}
def UJ:V->List V->Hp->VK->Prop:=fun x vs H Q=>∃l xs y,x=.ref l/\vs=[y]/\H l=some (.lst xs)/\xs.length<sizeLine/\Q .non (upd H l (.lst (xs++[y])))
theorem Yk:MtM X "list.append" UJ:=by
 intro pins s σ H x vs v us Q I rx rv h
 obtain⟨l,xs,y,rfl,rfl,hH,hz,q⟩:=h
 cases rx
 obtain⟨u,rfl,ru⟩:=rv.one
 obtain⟨z,its,n,r,hl,e⟩:=I.lstM hH
 refine call_meets F.slot_list_append ⟨_,e,rfl⟩ F.entry_list_append (F.args_list_append_2 _ _) (PySem.list_append l its.toArray n u (by rw[Zh];omega)) ⟨e,?_⟩
 refine⟨.non,_,I.lset (its':=its++[u]) hH e (by simp) (r.append (.cons ru .nil)) ?_,rfl,q⟩
 rw[Zd,Zk]
 omega
def ZlN:V->List V->Hp->VK->Prop:=fun x vs H Q=>∃l xs y,x=.ref l/\vs=[]/\H l=some (.lst xs)/\xs[xs.length-1]?=some y/\Q y (upd H l (.lst xs.dropLast))
theorem ZfI:MtM X "list.pop" ZlN:=by
 intro pins s σ H x vs v us Q I rx rv h
 obtain⟨l,xs,y,rfl,rfl,hH,hy,q⟩:=h
 cases rx
 have hus:=rv.zero
 subst hus
 obtain⟨z,its,n,r,hl,e⟩:=I.lstM hH
 obtain⟨u,hu,ru⟩:=r.get hy
 have hy':its.toArray[its.toArray.size-1]?=some u:=by
  show its.toArray[its.length-1]?=some u
  rw[<-Array.getElem?_toList,<-hl]
  exact hu
 refine call_meets F.slot_list_pop ⟨_,e,rfl⟩ F.entry_list_pop (F.args_list_pop_1 _) (MeetsSeq.list_pop_last l its.toArray n u hy' (by rw[Zh];omega)) ⟨e,?_⟩
 refine⟨y,_,I.lset (its':=its.dropLast) hH e ?_ r.dropLast ?_,ru,q⟩
 ·show its.toArray.eraseIdxIfInBounds (its.toArray.size-1)=its.dropLast.toArray
  rw[Zh,List.eraseIdxIfInBounds_toArray,Zcf]
 ·rw[List.length_dropLast]
  omega
def ZiT:V->List V->Hp->VK->Prop:=fun x vs H Q=>∃l xs i k y,x=.ref l/\vs=[.int i]/\H l=some (.lst xs)/\-(2 ^ 63)<=i/\i<2 ^ 63/\seqIndex? i xs.length=some k/\xs[k]?=some y/\Q y (upd H l (.lst (xs.eraseIdx k)))
theorem ZfH:MtM X "list.pop" ZiT:=by
 intro pins s σ H x vs v us Q I rx rv h
 obtain⟨l,xs,i,k,y,rfl,rfl,hH,h1,h2,hk,hy,q⟩:=h
 cases rx
 obtain⟨u,rfl,ru⟩:=rv.one
 obtain⟨t,rfl⟩:=ru
 obtain⟨z,its,n,r,hl,e⟩:=I.lstM hH
 obtain⟨w,hw,rw'⟩:=r.get hy
 refine call_meets F.slot_list_pop ⟨_,e,rfl⟩ F.entry_list_pop (F.args_list_pop_2 _ _)
  (MeetsSeq.list_pop_at l its.toArray n i t k w (fitsIndex_both h1 h2) (by rw[Zh,<-hl];exact hk) (by rw[<-Array.getElem?_toList];exact hw) (by rw[Zh];omega)) ⟨e,?_⟩
 refine⟨y,_,I.lset (its':=its.eraseIdx k) hH e ?_ (r.eraseIdx k) ?_,rw',q⟩
 ·show its.toArray.eraseIdxIfInBounds k=(its.eraseIdx k).toArray
  rw[List.eraseIdxIfInBounds_toArray]
 ·have:=V6 xs k
  omega
def ZlR:R2:=fun x y H Q=>∃l b xs zs,x=.ref l/\y=.ref b/\H l=some (.lst xs)/\H b=some (.lst zs)/\xs.length+zs.length<=sizeLine/\∀p,H p=none->Q (.ref p) (upd H p (.lst (xs++zs)))
theorem Zjh:Jj X (binaryOp .Add) ZlR:=by
 intro pins s σ H x y v u Q I rx ry h
 obtain⟨l,b,xs,zs,rfl,rfl,hH,hB,hz,q⟩:=h
 cases rx
 cases ry
 obtain⟨z,its,n,r,hl,e⟩:=I.lstM hH
 obtain⟨z2,its2,n2,r2,hl2,e2⟩:=I.lstM hB
 refine PySem.P.add_list e e2 ?_ (by rw[Zh,Zh];omega)
 have ea:its.toArray++its2.toArray=(its++its2).toArray:=by simp
 rw[ea]
 exact⟨.ref _,_,I.lnew (t':=s.toks) (r.append r2) (by rw[Zd];omega),rfl,q _ I.fresh⟩
def ZlM:R2:=fun x y H Q=>∃l k xs,x=.ref l/\y=.int k/\H l=some (.lst xs)/\-(2 ^ 63)<=k/\k<2 ^ 63/\xs.length*k.toNat<=sizeLine/\
 ∀p,H p=none->Q (.ref p) (upd H p (.lst (List.replicate k.toNat xs).flatten))
theorem ZhD {α:Type}(xs:List α)(k:Nat):(List.replicate k xs).flatten.length=k*xs.length:=by
 induction k with
 |zero=>simp
 |succ k ih=>rw[List.replicate_succ,List.flatten_cons,Zd,ih,Nat.succ_mul,Nat.add_comm]
theorem Zjd:Jj X (binaryOp .Mult) ZlM:=by
 intro pins s σ H x y v u Q I rx ry h
 obtain⟨l,k,xs,rfl,rfl,hH,h1,h2,hz,q⟩:=h
 cases rx
 obtain⟨t,rfl⟩:=ry
 obtain⟨z,its,n,r,hl,e⟩:=I.lstM hH
 have hlen:its.toArray.size*k.toNat<=sizeLine:=by rw[Zh,<-hl];exact hz
 have hcap:¬its.toArray.size*k.toNat > (2 ^ 63-1) / 8:=by
  have:(sizeLine:Nat)<=(2 ^ 63-1) / 8:=by decide
  omega
 have hfit:¬(!Builtin.List.listFitsIndex k)=true:=by
  rw[fitsIndex_both h1 h2]
  exact Bool.false_ne_true
 have hlong:¬Builtin.List.listTooLong (its.toArray.size*k.toNat)=true:=by
  rw[ZaS hlen]
  exact Bool.false_ne_true
 have hnew:List.foldl (fun x1 x2=>x1++x2) #[] (List.replicate (if its.toArray.isEmpty=true then 0 else k.toNat) its.toArray)=(List.replicate k.toNat its).flatten.toArray:=by
  have f0:∀m:Nat,List.foldl (fun x1 x2=>x1++x2) #[] (List.replicate m its.toArray)=(List.replicate m its).flatten.toArray:=fun m=>by
   have:=foldl_rep its m []
   rw[List.nil_append] at this
   exact this
  rw[f0]
  cases its with
  |nil=>simp
  |cons a r'=>rw[if_neg (by simp)]
 refine wpAny_binaryOp_repeat_ref (T:="list") (U:="int") (by decide) ⟨_,e,rfl⟩ (fun s'=>typeIs_int s' k t) noFill_list_mul F.fills_int_mul F.slot_int_rmul repeat_list F.slot_int_index.lookup
  (call_meets F.slot_int_rmul (typeIs_int s k t) F.entry_int_rmul (F.args_int_rmul_2 _ _) (int___rmul___int_list k t l its.toArray n)
   ⟨e,rfl,⟨_,e,rfl⟩,call_meets F.slot_list_mul ⟨_,e,rfl⟩ F.entry_list_mul (F.args_list_mul_2 _ _) (AutoListH.list___mul___list_int_3 l its.toArray n k t hfit hcap hlong) ⟨e,?_⟩⟩)
 rw[hnew]
 exact⟨.ref _,_,I.lnew (t':=s.toks) (r.rep k.toNat) (by rw[ZhD,Nat.mul_comm];exact hz),rfl,q _ I.fresh⟩
end
section
variable {prog:Program}{w:World}{A:Around}{E:Value->Shared->Prop}{s:Shared}
end
section
variable {X:Cx}
end
end L2
namespace Att
open PySem PySem.W PySem.Calls PyProof.Rows
theorem XD {P:Params}{h:Heap}:∀(ns:List Int) (vs:List Value),WellAll P h vs (ns.map WData.int)->IntsAre vs ns:=by
 intro ns
 induction ns with
 |nil=>
  intro vs w
  rw[List.map_nil] at w
  cases w
  exact .nil
 |cons n ns ih=>
  intro vs w
  rw[List.map_cons] at w
  cases w with
  |cons a b=>
   cases a
   exact .cons _ _ (ih _ b)
theorem ZdH {l:OpenLaw}{n:Nat}(hn:l.most=some n){P:Params}{h:Heap}{args:List WData}{Yw:List Value}
  (hpre:l.row.toRowW.claim.pre args=true) (hwl:WellAll P h Yw args) :
  ∃a vs ns,Yw=[Value.ref a]/\args=[WData.list (ns.map WData.int)]/\h.get? a=some {cls:=.type "list",data:=.seq vs.toArray}/\IntsAre vs ns/\ns.length<=n:=by
 have hsh:WShape.hasAll [] args [.list .int]=true:=(pre_splitW hpre).1
 have hc:l.pre.holds [] {args:=args}=true:=(pre_splitW hpre).2
 obtain⟨d,r,rfl,h1,h2⟩:=hasAllW_cons hsh
 obtain rfl:=hasAllW_nil h2
 obtain⟨xs,rfl,h3⟩:=hasW_list h1
 obtain⟨ns,rfl⟩:=items_int h3
 have hlen:ns.length<=n:=by
  unfold OpenLaw.pre at hc
  have h4:(WTm.not (.lt (.lit (.int (n:Int))) (.len (.arg 0)))).holds [] {args:=[.list (ns.map .int)]}=true:=by
   have h4:=(holds_andW hc).1
   rw[hn] at h4
   exact h4
  have h5:=condW_of h4 (w_not (w_lt w_lit (w_len_list (w_arg rfl))))
  rw[Za] at h5
  refine Nat.le_of_not_lt fun q=>?_
  have q':(n:Int)<((ns.length:Nat):Int):=by omega
  first
   |(rw[decide_eq_true q'] at h5;exact absurd h5 (by decide))
   |(simp at h5;omega)
 cases hwl with
 |cons w1 w2=>
  cases w2
  cases w1 with
  |list ho hall=>exact⟨_,_,ns,rfl,rfl,ho,XD ns _ hall,hlen⟩
theorem ZdM (l:OpenLaw)(args:List WData):l.row.toRowW.claim.post args (.bool true) args=true:=
 postW_of (r:=l.row.toRowW) (X:=(true == true))
  (show WShape.has [] (.bool true) .bool=true by first|rfl|decide|simp[WShape.has,WShape.arms,WShape.armsAll])
  (show (WTm.eq .res (.lit (.bool true))).value [] {args:=args,res:=some (.bool true),after:=args}=some (.bool (true == true)) from w_eq_bool (w_res rfl) w_lit) rfl
theorem Zbo {l:OpenLaw}{n:Nat}{q:Program}{loose:List Str}{XP:(Str->Option Value)->Heap->Prop}{YP:World->Heap->Prop}{d:DefRec}
  (hn:l.most=some n) (hdf:d.params.defaults=[])
  (call:∀(w:World) (s₀ s₁:Shared) (mg mb:Str->Option Value) (fa:Addr) (o:Obj) (pm cd doc:Value) (a:Addr) (vs:List Value) (ns:List Int),
   Ground q loose [] XP w s₀ mg mb s₁.heap->YP w s₁.heap->
   s₁.heap.get? fa=some o->o.data=.func (docDef d.name d.params d.body d.scope pm cd doc)->s₁.heap.CodeRec cd d.name->mg d.name=some (.ref fa)->
   s₁.heap.get? a=some {cls:=.type "list",data:=.seq vs.toArray}->IntsAre vs ns->ns.length<=n->s₁.gens=#[]->
   codeAny (model l.prog w) callerA (.call (.ref fa) ⟨[.ref a],[]⟩) (fun r s'=>r=.ok (.ret (.bool true))/\OldK s₁.heap s'.heap/\s'.os=s₁.os/\AllBare s'.gens) s₁) :
  WalkO q loose XP YP l.row.toRowW d [] (fun f vs=>PySem.call f vs):=by
 intro w s₀ s₁ mg mb G Y fa o pm cd doc dV kV ho hd hcd hD hmg hg args Yw as hpre hlay hrd hwl hlo
 obtain rfl:dV=.none:=Dflts.none hD hdf
 obtain rfl:kV=.none:=Dflts.noKw hD
 obtain⟨a,vs,ns,rfl,rfl,hobj,hints,hlen⟩:=ZdH hn hpre hwl
 refine enter_call (codeAny_mono (call w s₀ s₁ mg mb fa o pm cd doc a vs ns G Y ho (fd_plain hd) hcd hmg hobj hints hlen hg) fun r s' hq=>?_)
 obtain⟨rfl,h2,h3,h4⟩:=hq
 exact⟨.inl ⟨.bool true,.bool true,[],rfl,fun _=>rfl,.bool true,ZdM l _,fun _=>⟨List.Pairwise.nil,fun _ hm=>(nomatch hm)⟩⟩,h2,h3,h4⟩
section
variable {prog:Program}{w:World}{A:Around}{E:Value->Shared->Prop}{s:Shared}{K:Frag}
end
end Att
namespace L2
open PySem PySem.Spec PyProof.Rows
theorem VP:∀{vs:List Value}{ns:List Int},IntsAre vs ns->ZB (ns.map V.int) vs
 |_,_,.nil=>.nil
 |_,_,.cons n t h=>.cons ⟨t,rfl⟩ (VP h)
def Yq (s:Stmt):Arguments:=match s with
 | .FunctionDef _ a _ _ _ _ _ _ _ _=>a
 |_=>{posonlyargs:=[],args:=[],vararg:=none,kwonlyargs:=[],kw_defaults:=[],kwarg:=none,defaults:=[]}
def ZX (s:Stmt):List Stmt:=match s with
 | .FunctionDef _ _ b _ _ _ _ _ _ _=>b
 |_=>[]
def ZH (s:Stmt):Scope:=match s with
 | .FunctionDef _ _ _ _ _ _ sc _ _ _=>sc
 |_=>{kind:=.function,names:=[],isGenerator:=false,isCoroutine:=false}
abbrev Z2:XO:=fun _ _ _ _ _ _=>False
abbrev E0:XK:=fun _ _ _=>False
theorem ZK {X:Cx}:W7 Z2 X E0:=fun _ _ _ _ _ _ _ h=>h.elim
structure Wf (K:PySem.W.Frag)(x qual:Str)(st:Stmt)(f:Addr)(fd:FuncData):Prop where
 ex:∃(oc:Value) (od:Option Addr) (kV doc pm:Value) (an:Option Addr) (cdv ct:Value) (osl:Array (Option Value)),
  fd=PySem.W.fnOf x qual (Yq st) (ZX st) (ZH st) .none kV doc pm an cdv ct/\K.lookup f=some ⟨oc,od,.func fd,osl⟩/\PySem.W.codeIn K cdv qual=true
 kp:PySem.W.keepIn K (.ref f)=true
section
variable {P:Program}{w:World}{K:PySem.W.Frag}{mg:Str->Option Value}{base:Heap}
theorem Wf.ok {x qual:Str}{st:Stmt}{f:Addr}{fd:FuncData}{N ps:List Str}{k:Nat}{sp:Sp}(F:Wf K x qual st f fd)(S:J1 N ps (ZH st))(len:∀vs H Q E,sp vs H Q E->vs.length=ps.length)
  (hbody:∀(cdv:Value) (A:Around) (outer:List Env) (s:Shared) (H:Hp) (vs:List V) (Q:VK) (E:XK),Y7 k (A.deeper (envOfC qual (ZH st) s.heap.objs.size f cdv))->sp vs H Q E->
   ∃t,VM (Zac Z2 P w K mg base N qual (ZH st) f cdv A outer s H E).nox (ZX st) t/\t {nx:=fun _ H'=>Q .non H',rt:=Q} (start N vs) H):ZQ P w K mg base Z2 (k+1) f fd ps sp:=by
 obtain⟨oc,od,kV,doc,pm,an,cdv,ct,osl,rfl,lk,hcd⟩:=F.ex
 refine Zf8 lk hcd S len fun A outer s H vs Q E hr hsp=>?_
 obtain⟨t,h,q⟩:=hbody cdv A outer s H vs Q E hr hsp
 exact⟨t,h.nox,q⟩
theorem Wf.binds {x qual:Str}{st:Stmt}{f:Addr}{fd:FuncData}{ps:List Str}(F:Wf K x qual st f fd)
  (h:∀(kV doc pm:Value) (an:Option Addr) (cdv ct:Value) (us:List Value),us.length=ps.length->bindArgs (PySem.W.fnOf x qual (Yq st) (ZX st) (ZH st) .none kV doc pm an cdv ct) ⟨us,[]⟩=pure (ps.zip us)):Binds K fd ps []:=by
 obtain⟨oc,od,kV,doc,pm,an,cdv,ct,osl,rfl,lk,hcd⟩:=F.ex
 exact .all (h kV doc pm an cdv ct)
theorem Zcc {x qual:Str}{st:Stmt}{f:Addr}{oc:Value}{od an:Option Addr}{osl:Array (Option Value)}{kV doc pm cdv ct:Value}(l:K.lookup f=some ⟨oc,od,.func (PySem.W.fnOf x qual (Yq st) (ZX st) (ZH st) .none kV doc pm an cdv ct),osl⟩)
  (c:PySem.W.codeIn K cdv qual=true) (k:PySem.W.keepIn K (.ref f)=true):Wf K x qual st f (PySem.W.fnOf x qual (Yq st) (ZX st) (ZH st) .none kV doc pm an cdv ct):=⟨⟨oc,od,kV,doc,pm,an,cdv,ct,osl,rfl,l,c⟩,k⟩
end
section
variable {X:Cx}
end
theorem JS {c A B:Prop} [Decidable c](h1:c->A)(h2:¬c->B):if c then A else B:=by
 by_cases h:c
 ·rw[if_pos h]
  exact h1 h
 ·rw[if_neg h]
  exact h2 h
def Same (H H':Hp):Prop:=∀b o,H b=some o->H' b=some o
theorem Same.refl (H:Hp):Same H H:=fun _ _ h=>h
theorem Same.trans {H H1 H2:Hp}(a:Same H H1)(b:Same H1 H2):Same H H2:=fun c o h=>b c o (a c o h)
theorem Same.free {H H':Hp}(e:Same H H'){l:Addr}(h:H' l=Option.none):H l=Option.none:=by
 cases q:H l with
 |none=>rfl
 |some o=>
  rw[e l o q] at h
  cases h
theorem Same.seq {K:PySem.W.Frag}{H H':Hp}{a:Addr}{xs:List V}(e:Same H H')(h:Y0 K H a xs):Y0 K H' a xs:=by
 rcases h with (h|⟨o,h⟩)|h
 ·exact .inl (.inl (e _ _ h))
 ·exact .inl (.inr ⟨o,e _ _ h⟩)
 ·exact .inr h
end L2
set_option maxHeartbeats 4000000
namespace L2
open PySem PySem.Spec PyProof.Rows
structure Wt (N:List Str)(esc:Scope)(own:List Str)(caps:List Nat)(N':List Str)(sc:Scope):Prop where
 kind:sc.kind=.function
 ndn:(sc.names.map (·.1)).Nodup
 uniq:∀y∈sc.names,y.2=.local->sc.names.lookup y.1=some .local
 nd:N'.Nodup
 eqN:N'=own++caps.map fun j=>N.getD j ""
 cap:∀j∈caps,j<N.length/\sc.names.lookup (N.getD j "")=some .free
 fr:∀y∈sc.names,y.2=.free->esc.names.lookup y.1=some .cell\/esc.names.lookup y.1=some .free
def XE (own:List Str)(caps:List Nat)(σ:St):St:=List.replicate own.length none++caps.map fun j=>(σ[j]?).join
theorem Ju {env:Env}:∀(names:List (Str×NameKind)) (acc:List (Str×Addr)),(∀y∈names,y.2=.free->∃c,env.cells.lookup y.1=some c)->(∀y c,acc.lookup y=some c->env.cells.lookup y=some c)->
  ∃cl,(forIn names acc (fun x r=>if (x.2 == NameKind.free)=true then (do let c <-cellOf env x.1;pure (ForInStep.yield ((x.1,c)::r))) else pure (ForInStep.yield r)):Sem (List (Str×Addr)))=pure cl/\
   (∀y c,cl.lookup y=some c->env.cells.lookup y=some c)/\(∀y,(∃c,acc.lookup y=some c)->∃c,cl.lookup y=some c)/\∀y∈names,y.2=.free->∃c,cl.lookup y.1=some c
 | [],acc,_,ha=>⟨acc,rfl,ha,fun _ h=>h,fun _ h=>absurd h (by simp)⟩
 | (n,k)::r,acc,hn,ha=>by
  rw[List.forIn_cons]
  by_cases hk:k=.free
  ·subst hk
   obtain⟨c,hc⟩:=hn (n,.free) List.mem_cons_self rfl
   have ha':∀y d,((n,c)::acc).lookup y=some d->env.cells.lookup y=some d:=fun y d e=>by
    rw[List.lookup_cons] at e
    cases q:y == n with
    |true=>rw[q] at e;cases e;rw[beq_iff_eq.mp q];exact hc
    |false=>rw[q] at e;exact ha y d e
   obtain⟨cl,e,h1,h2,h3⟩:=Ju r ((n,c)::acc) (fun y hy=>hn y (List.mem_cons_of_mem _ hy)) ha'
   have hh:∀y,(∃d,acc.lookup y=some d)->∃d,((n,c)::acc).lookup y=some d:=fun y ⟨d,hd⟩=>by
    rw[List.lookup_cons]
    cases q:y == n with
    |true=>exact⟨c,rfl⟩
    |false=>exact⟨d,hd⟩
   have hs:∃d,((n,c)::acc).lookup n=some d:=⟨c,by rw[List.lookup_cons,beq_self_eq_true]⟩
   refine⟨cl,?_,h1,fun y hy=>h2 y (hh y hy),fun y hy hf=>?_⟩
   ·have hcell:cellOf env n=pure c:=by simp only[cellOf,hc]
    simp only[beq_self_eq_true,if_true,hcell]
    simp only[pure_bind]
    exact e
   ·rcases List.mem_cons.mp hy with rfl|hy
    ·exact h2 _ hs
    ·exact h3 y hy hf
  ·obtain⟨cl,e,h1,h2,h3⟩:=Ju r acc (fun y hy=>hn y (List.mem_cons_of_mem _ hy)) ha
   refine⟨cl,?_,h1,h2,fun y hy hf=>?_⟩
   ·have hb:(k == NameKind.free)=false:=by simpa using hk
    simp only[hb,Bool.false_eq_true,if_false,pure_bind]
    exact e
   ·rcases List.mem_cons.mp hy with rfl|hy
    ·exact absurd hf hk
    ·exact h3 y hy hf
theorem Vv {scope:Scope}{env:Env}(h:∀y∈scope.names,y.2=.free->∃c,env.cells.lookup y.1=some c) :
  ∃cl,closureFor scope env=pure cl/\(∀y c,cl.lookup y=some c->env.cells.lookup y=some c)/\∀y∈scope.names,y.2=.free->∃c,cl.lookup y.1=some c:=by
 obtain⟨cl,e,h1,_,h3⟩:=Ju (env:=env) scope.names [] h (fun y c e=>by simp at e)
 refine⟨cl,?_,h1,h3⟩
 have q:closureFor scope env=((forIn scope.names ([]:List (Str×Addr)) (fun x r=>if (x.2 == NameKind.free)=true then (do let c <-cellOf env x.1;pure (ForInStep.yield ((x.1,c)::r))) else pure (ForInStep.yield r)):Sem (List (Str×Addr))) >>= fun cs=>pure cs):=rfl
 rw[q,e]
 rfl
theorem Y4 {names:List (Str×NameKind)}{x:Str}{k:NameKind}(h:names.lookup x=some k):(x,k)∈names:=PySem.mem_of_lookup h
theorem Yp {env:Env}{x:Str}:∀{names:List (Str×NameKind)}{k:NameKind},
  (names.map fun (n,k)=>if (k == NameKind.free && env.scope.kind == .function && env.kindOf n == some .cell) then (n,NameKind.cell) else (n,k)).lookup x=some k->
  names.lookup x=some k\/(k=.cell/\names.lookup x=some .free)
 | [],_,h=>by simp at h
 | (n,k0)::r,k,h=>by
  have ih:=@Yp env x r k
  have h:List.lookup x ((if (k0 == NameKind.free && env.scope.kind == .function && env.kindOf n == some .cell)=true then (n,NameKind.cell) else (n,k0))::_)=some k:=h
  rw[List.lookup_cons]
  by_cases hc:(k0 == NameKind.free && env.scope.kind == .function && env.kindOf n == some .cell)=true
  ·rw[if_pos hc,List.lookup_cons] at h
   have hk0:k0=.free:=by
    simp only[Bool.and_eq_true,beq_iff_eq] at hc
    exact hc.1.1
   cases q:x == n with
   |true=>rw[q] at h;cases h;right;exact⟨rfl,by rw[hk0]⟩
   |false=>rw[q] at h;exact ih h
  ·rw[if_neg hc,List.lookup_cons] at h
   cases q:x == n with
   |true=>rw[q] at h;cases h;left;rfl
   |false=>rw[q] at h;exact ih h
section
variable {X:Cx}
def Zgx (scope:Scope)(x:Str):Bool:=scope.names.any fun y=>y.1 == x && (match y.2 with | .cell=>true|_=>false)
theorem Zer {scope:Scope}{x:Str}(h:Zgx scope x=true):(x,NameKind.cell)∈scope.names:=by
 unfold Zgx at h
 obtain⟨⟨n,k⟩,hm,hy⟩:=List.any_eq_true.mp h
 rw[Bool.and_eq_true] at hy
 obtain⟨h1,h2⟩:=hy
 have e:n=x:=by simpa using h1
 subst e
 cases k <;> first|exact hm|cases h2
theorem Jb {x:Str}{k:NameKind}:∀{names:List (Str×NameKind)},(names.map (·.1)).Nodup->(x,k)∈names->names.lookup x=some k
 | [],_,h=>by cases h
 | (n,k0)::r,nd,h=>by
  rw[List.map_cons,List.nodup_cons] at nd
  rw[List.lookup_cons]
  rcases List.mem_cons.mp h with e|h
  ·cases e
   simp
  ·have:(x == n)=false:=by
    refine Bool.eq_false_iff.mpr fun z=>nd.1 ?_
    rw[<-beq_iff_eq.mp z]
    exact List.mem_map.mpr ⟨_,h,rfl⟩
   rw[this]
   exact Jb nd.2 h
theorem Wo:∀(names:List (Str×NameKind)) (n:Nat) (acc:List (Str×Addr)),cellsFrom n names acc=cellsFrom n names []++acc
 | [],n,acc=>rfl
 |(x,k)::r,n,acc=>by
  unfold cellsFrom
  by_cases hk:(k == NameKind.cell)=true
  ·rw[if_pos hk,if_pos hk,Wo r (n+1) ((x,n)::acc),Wo r (n+1) [(x,n)],List.append_assoc]
   rfl
  ·rw[if_neg hk,if_neg hk,Wo r n acc]
theorem Jf {x:Str}{c:Addr}:∀(names:List (Str×NameKind)) (n:Nat) (acc:List (Str×Addr)),(x,c)∈cellsFrom n names acc->(x,NameKind.cell)∈names\/(x,c)∈acc
 | [],n,acc,h=>.inr h
 | (y,k)::r,n,acc,h=>by
  unfold cellsFrom at h
  by_cases hk:(k == NameKind.cell)=true
  ·rw[if_pos hk] at h
   rcases Jf r (n+1) _ h with z|z
   ·exact .inl (List.mem_cons_of_mem _ z)
   ·rcases List.mem_cons.mp z with e|z
    ·cases e
     have:k=.cell:=by cases k <;> first|rfl|cases hk
     rw[this]
     exact .inl List.mem_cons_self
    ·exact .inr z
  ·rw[if_neg hk] at h
   rcases Jf r n _ h with z|z
   ·exact .inl (List.mem_cons_of_mem _ z)
   ·exact .inr z
theorem Zhx {M:Model}{A:Around}{E:Value->Shared->Prop}{s:Shared}{scope:Scope}{globals:Addr}{cl:List (Str×Addr)}{qual:Str}{around:Env}{Q:Env->Shared->Prop}
  (hQ:Q (newEnv scope s.heap.objs.size globals (cellsFrom (s.heap.objs.size+1) scope.names cl) qual none .none (some around) builtinsNs) {s with heap:=pushCells (s.heap.push {cls:=.type "dict",data:=.dict #[]}) scope.names}) :
  wpAny M A (newFunctionEnv scope globals cl [] qual none .none (some around)) Q E s:=by
 unfold newFunctionEnv
 refine Zl (wpAny_alloc ?_)
 refine Zl (wpAny_layCells _ (fun name kind cells=>by cases hkc:kind == NameKind.cell <;> simp[hkc]) _ _ _ _ ?_)
 rw[show ({s with heap:=s.heap.push {cls:=.type (if (some around).isSome=true then "dict" else "frame"),data:=.dict #[]}}:Shared).heap.objs.size=s.heap.objs.size+1 from Heap.size_push ..]
 exact Zl (by rw[List.forIn_nil];exact Zm (Zm hQ))
def Ye (X:Cx)(scope:Scope)(cl:List (Str×Addr))(N':List Str)(C:Addr)(s:Shared)(H:Hp)(ex:List Addr):Cx:=
 {X with N:=N',s₀:=s,H₀:=H,env:=compEnvC scope cl C X.env,outer:=X.stack,ex:=ex,fn:=Zgx scope,pn:=[],xe:=fun _ _=>False}
def J3 (own:List Str)(caps:List Nat)(g:TG)(tc:TT)(te:TE)(σ:St)(Q:VK)(J:It)(H1:Hp):Prop:=∀D,H1 D=none->
 ∃W:Nat->Nat->St->Hp->Prop,(∃m,W 0 m (XE own caps σ) (upd H1 D (.lst [])))/\∀i m σ' H',W i m σ' H'->
  (J.stop i H'/\Q (.ref D) H')\/(J.go i H'/\∃N:St->Hp->Prop,(∀ σ2 H2,N σ2 H2->∃m',m'<m/\W (i+1) m' σ2 H2)/\∀x H2,J.yld i H' x H2->g x σ' H2 fun σ3 H3=>tc σ3 H3 fun b H4=>
   if b=true then te σ3 H4 fun v H5=>∃xs,H5 D=some (.lst xs)/\xs.length<sizeLine/\N σ3 (upd H5 D (.lst (xs++[v]))) else N σ3 H4)
def Zcv (own:List Str)(caps:List Nat)(wi:TI)(g:TG)(tc:TT)(te:TE):TE:=fun σ H Q=>wi σ H fun J H1=>J3 own caps g tc te σ Q J H1
def Jl:TT:=fun _ H Q=>Q true H
def PIf (X:Cx)(ifs:List Expr)(t:TT):Prop:=
 ∀(pins:List (Addr×Obj)) (s:Shared) (σ:St) (H:Hp) (Q:Bool->Hp->Prop),Inv X pins σ H s->t σ H Q->
  wpAny (model X.prog X.w) X.A (forIn ifs true fun c r=>if r=true then do let ok <-isTrue c X.env (eval c X.env);pure (ForInStep.yield ok) else pure (ForInStep.yield r)) (TP X pins σ Q) X.xe s
theorem ZW:PIf X [] Jl:=fun _ _ _ H _ I h=>wpAny_tests_nil ⟨H,I,h⟩
theorem ZcT {c:Expr}{t:TT}(h:PT X c t):PIf X [c] t:=fun pins s σ H Q I q=>wpAny_tests_one (h pins s σ H Q I q)
theorem W1 {prog:Program}{w:World}{A:Around}{R:Result->Shared->Prop}{s:Shared}{elt target iter:Expr}{ifs:List Expr}{scope:Scope}{pos:Pos}{it acc:Value}{env:Env}(I:Nat->Shared->Prop)
  (turn:∀n s,I n s->wpAny (model prog w) A (pyNext it) (fun r s₁=>match r with
   |none=>R (.ok .next) s₁
   |some v=>wpAny (model prog w) A (letOwnedTupleGo target it v) (fun _ s₁'=>wpAny (model prog w) A (assign target env v) (fun _ s₂=>
     wpAny (model prog w) A (forIn ifs true fun c r=>if r=true then do let ok <-isTrue c env (eval c env);pure (ForInStep.yield ok) else pure (ForInStep.yield r)) (fun ok s₃=>
      if ok=true then wpAny (model prog w) A (eval elt env) (fun x s₄=>
       wpAny (model prog w) A (call (.builtin "list.append") [acc,x]) (fun _ s₅=>∃m,m<n/\I m s₅) (fun _ _=>False) s₄) (fun _ _=>False) s₃
      else ∃m,m<n/\I m s₃) (fun _ _=>False) s₂) (fun _ _=>False) s₁') (fun _ _=>False) s₁) (fun _ _=>False) s)
  (n:Nat) (h:I n s) :
  codeAny (model prog w) A (.compLoop (.ListComp elt [⟨target,iter,ifs,0⟩] scope pos) 0 it acc env) R s:=by
 refine codeAny_loop rfl I (fun n s hI=>?_) n h
 show wpAny _ A ((compTurn (.ListComp elt [⟨target,iter,ifs,0⟩] scope pos) 0 it acc env).onRaise (fun x=>do noteFrame x env;theTreesLotGoes x)) _ _ s
 refine wpAny_noted ?_
 rw[compTurn_list]
 refine Zl (wpAny_standAt (Zl (wpAny_mono (turn n s hI) (fun r s₁ h₁=>?_) fun _ _ h'=>h'.elim)))
 cases r with
 |none=>exact Zm h₁
 |some v=>
  refine Zl (wpAny_mono h₁ (fun _ s₁' h₁'=>?_) fun _ _ h'=>h'.elim)
  refine Zl (wpAny_mono h₁' (fun _ s₂ h₂=>Zl (wpAny_mono h₂ (fun ok s₃ h₃=>?_) fun _ _ h'=>h'.elim)) fun _ _ h'=>h'.elim)
  cases ok with
  |false=>exact Zm ⟨rfl,h₃⟩
  |true=>
   exact Zl (Zl (wpAny_mono h₃ (fun x s₄ h₄=>Zl (wpAny_mono h₄ (fun _ s₅ h₅=>Zm (Zm ⟨rfl,h₅⟩)) fun _ _ h'=>h'.elim)) fun _ _ h'=>h'.elim))
theorem Vu {own:List Str}{caps:List Nat}{N':List Str}{esc scope:Scope}{elt iter tg:Expr}{ifs:List Expr}{pos:Pos}{g:TG}{tc:TT}{te:TE}{cl:List (Str×Addr)}
  (hesc:X.env.scope=esc) (S:Wt X.N esc own caps N' scope) (hc:X.calm=true)
  (hcl1:∀y c,cl.lookup y=some c->X.env.cells.lookup y=some c) (hcl2:∀y∈scope.names,y.2=.free->∃c,cl.lookup y.1=some c)
  (hg:∀cl C s H ex,PG (Ye X scope cl N' C s H ex) tg g) (ht:∀cl C s H ex,PIf (Ye X scope cl N' C s H ex) ifs tc) (he:∀cl C s H ex,PE (Ye X scope cl N' C s H ex) elt te)
  {pins:List (Addr×Obj)}{σ:St}{H2:Hp}{s2:Shared}{it:Addr}{fp:List Addr}{tn:Nat->Heap->Prop}{J:It}{Q:VK}{RR:Value->Addr->Result->Shared->Prop}{E:Value->Shared->Prop}
  (I2:Inv X pins σ H2 s2) (T:Zco X.prog X.w X.K tg J fp it tn) (st2:tn 0 s2.heap) (f2:∀b∈fp,VN X pins H2 b)
  (h:J3 own caps g tc te σ Q J H2)
  (hRR:∀D C s' m H',s'.heap.Ns C m->C≠X.env.locals->(∀x c,X.env.cells.lookup x=some c->c≠C)->X.s₀.heap.objs.size<=C->(∀p∈X.pn++pins,p.1≠C)->H' C=none->Q (.ref D) H'->(∀h',Heap.SameBut C s'.heap h'->Inv X pins σ H' {s' with heap:=h'})->RR (.ref D) C (.ok .next) s') :
  wpAny (model X.prog X.w) X.A (newList []) (fun acc s₃=>wpAny (model X.prog X.w) X.A (newFunctionEnv scope X.env.globals cl [] X.env.qual none .none (some X.env)) (fun cenv s₄=>
   codeAny (model X.prog X.w) X.A (.compStart (.ListComp elt [⟨tg,iter,ifs,0⟩] scope pos) 0 (.ref it) acc {cenv with scope:=relabel scope X.env}) (RR acc cenv.locals) s₄) E s₃) E s2:=by
 refine wpAny_newObj_type (Zhx ?_)
 dsimp only
 have hD:H2 s2.heap.objs.size=none:=I2.hok.fresh (Zq _)
 obtain⟨W,⟨m0,w0⟩,turn⟩:=h _ hD
 generalize hH3:s2.heap.push {cls:=.type "list",dict:=none,data:=.seq ([]:List Value).toArray}=g3
 have hC:g3.objs.size=s2.heap.objs.size+1:=by rw[<-hH3,Heap.size_push]
 have old3:∀b o,s2.heap.get? b=some o->g3.get? b=some o:=fun b o e=>hH3▸Zn _ e
 have I3:Inv X pins σ (upd H2 s2.heap.objs.size (.lst [])) {s2 with heap:=g3,toks:=s2.toks}:=
  I2.laid (t':=s2.toks) old3 (Zq _) ⟨Nat.zero_le _,[],0,.nil,hH3▸Zo _ rfl⟩
 generalize hh1:pushCells (g3.push {cls:=.type "dict",data:=.dict #[]}) scope.names=h₁
 have k1:∀b o,g3.get? b=some o->h₁.get? b=some o:=fun b o e=>hh1▸pushCells_keeps _ _ b o (Zn _ e)
 have hns₁:h₁.Ns g3.objs.size (fun _=>none):=hh1▸(Heap.Ns.new g3 (.type "dict")).keeps (pushCells_keeps _ _)
 have okA:CellsOk h₁ (g3.objs.size+1) (cellsFrom (g3.objs.size+1) scope.names []):=by
  have q:=cellsFrom_ok scope.names (g3.push {cls:=.type "dict",data:=.dict #[]}) (g3.objs.size+1) [] ⟨fun _ _ hm=>(nomatch hm),List.Pairwise.nil⟩ (by rw[Heap.size_push];exact Zq _)
  rw[Heap.size_push,hh1] at q
  exact q
 have hcl':cellsFrom (g3.objs.size+1) scope.names cl=cellsFrom (g3.objs.size+1) scope.names []++cl:=Wo _ _ _
 have hsomeA:∀y,scope.names.lookup y=some .cell->∃c,(cellsFrom (g3.objs.size+1) scope.names []).lookup y=some c:=fun y hy=>Option.isSome_iff_exists.mp (PySem.W.cellsFrom_some scope.names (g3.objs.size+1) [] (.inl hy))
 generalize hcA:cellsFrom (g3.objs.size+1) scope.names []=cA at okA hcl' hsomeA
 have memA:∀y c,cA.lookup y=some c->(y,NameKind.cell)∈scope.names:=fun y c e=>by
  have:=PySem.mem_of_lookup e
  rw[<-hcA] at this
  rcases Jf _ _ _ this with z|z
  ·exact z
  ·cases z
 generalize hcE:cellsFrom (g3.objs.size+1) scope.names cl=cE at hcl'
 have lkE:∀y c,cE.lookup y=some c->cA.lookup y=some c\/(cA.lookup y=none/\cl.lookup y=some c):=fun y c e=>by
  rw[hcl',List.lookup_append] at e
  cases q:cA.lookup y with
  |none=>rw[q] at e;exact .inr ⟨rfl,by simpa using e⟩
  |some c'=>rw[q] at e;exact .inl (by simpa using e)
 have lkF:∀y c,scope.names.lookup y=some .free->cl.lookup y=some c->cE.lookup y=some c:=fun y c hy e=>by
  rw[hcl',List.lookup_append]
  cases q:cA.lookup y with
  |none=>simpa using e
  |some c'=>
   have:=Jb S.ndn (memA y c' q)
   rw[hy] at this
   cases this
 have fpn:∀b∈fp,upd H2 s2.heap.objs.size (.lst []) b=none:=fun b hb=>by
  obtain⟨o,ho,_⟩:=T.obj _ _ st2 b hb
  rw[Zw (Nat.ne_of_lt (Zp ho))]
  exact (f2 b hb).1
 have fplt:∀b∈fp,b<g3.objs.size:=fun b hb=>by
  obtain⟨o,ho,_⟩:=T.obj _ _ st2 b hb
  rw[hC];exact Nat.lt_succ_of_lt (Zp ho)
 generalize hX':Ye X scope cE N' g3.objs.size {s2 with heap:=g3,toks:=s2.toks} (upd H2 s2.heap.objs.size (.lst [])) fp=X'
 have hfs:X'.fs=frs X.stack:=by rw[<-hX'];rfl
 have kindL:∀y,X'.env.kindOf y=some .cell\/X'.env.kindOf y=some .free->∃c,cE.lookup y=some c:=fun y hy=>by
  have hy':(relabel scope X.env).names.lookup y=some .cell\/(relabel scope X.env).names.lookup y=some .free:=by rw[<-hX'] at hy;exact hy
  have hf:scope.names.lookup y=some .free->∃c,cE.lookup y=some c:=fun hf=>by
   obtain⟨c,hc'⟩:=hcl2 _ (Y4 hf) rfl
   exact⟨c,lkF y c hf hc'⟩
  have hcc:scope.names.lookup y=some .cell->∃c,cE.lookup y=some c:=fun hf=>by
   obtain⟨c,hc'⟩:=hsomeA y hf
   exact⟨c,by rw[hcl',List.lookup_append,hc'];rfl⟩
  rcases hy' with q|q
  ·rcases Yp q with z|z
   ·exact hcc z
   ·exact hf z.2
  ·rcases Yp q with z|z
   ·exact hf z
   ·exact absurd z.1 (by decide)
 have cellsX:X'.env.cells=cE:=by rw[<-hX'];rfl
 have locX:X'.env.locals=g3.objs.size:=by rw[<-hX'];rfl
 have cne:∀x c,cl.lookup x=some c->c≠g3.objs.size/\c<g3.objs.size:=fun x c e=>by
  obtain⟨v,q⟩:=I3.cell x c (hcl1 x c e)
  exact⟨Nat.ne_of_lt q.lt,q.lt⟩
 have aboveA:∀x c,cA.lookup x=some c->g3.objs.size+1<=c:=fun x c e=>(okA.empty x c (PySem.mem_of_lookup e)).2
 have injE:∀x y c,cE.lookup x=some c->cE.lookup y=some c->x=y:=fun x y c a b=>by
  rcases lkE x c a with a|⟨_,a⟩ <;> rcases lkE y c b with b|⟨_,b⟩
  ·exact name_of_addr okA.apart (PySem.mem_of_lookup a) (PySem.mem_of_lookup b)
  ·have h1:g3.objs.size+1<=c:=aboveA x c a
   exact absurd (Nat.lt_of_lt_of_le (cne y c b).2 (Nat.le_of_succ_le h1)) (Nat.lt_irrefl _)
  ·have h1:g3.objs.size+1<=c:=aboveA y c b
   exact absurd (Nat.lt_of_lt_of_le (cne x c a).2 (Nat.le_of_succ_le h1)) (Nat.lt_irrefl _)
  ·exact I3.ok.inj x y c (hcl1 x c a) (hcl1 y c b)
 have ok':X'.Ok:=by
  refine hX'▸⟨I3.ok.mod,S.kind,I3.ok.glob,I3.ok.blt,Zq _,injE,?_,?cab,I3.ok.hd,I3.ok.frames,.inl rfl,?_,?_,?_,?_,?_,I3.stack,I3.stkFree⟩
  ·intro y hy
   exact kindL y (by rw[<-hX'];exact hy)
  ·intro x c z e
   have hm:=Jb S.ndn (Zer z)
   rcases lkE x c e with e|⟨n,_⟩
   ·exact Nat.le_of_succ_le (aboveA x c e)
   ·obtain⟨c',hc'⟩:=hsomeA x hm
    rw[n] at hc'
    cases hc'
  ·intro b hb
   refine⟨Nat.ne_of_lt (fplt b hb),fun x c e=>?_⟩
   rcases lkE x c e with e|⟨_,e⟩
   ·have h1:g3.objs.size+1<=c:=aboveA x c e
    exact fun z=>absurd (Nat.lt_of_lt_of_le (fplt b hb) (Nat.le_of_succ_le h1)) (by rw[z];exact Nat.lt_irrefl _)
   ·exact (f2 b hb).2.2.2.2.1 x c (hcl1 x c e)
  ·exact I3.bs
  ·exact Nat.le_trans I3.ok.bsz I3.sz
  ·intro b o e hb
   rcases (f2 b hb).2.2.2.1 with z|z
   ·exact I3.ok.noex b o e z
   ·exact absurd (Nat.lt_of_lt_of_le (Zp e) (Nat.le_trans I3.ok.bsz z)) (Nat.lt_irrefl _)
  ·intro b hb z
   rcases List.mem_cons.mp (I3.stkSub b z) with e|e
   ·exact (f2 b hb).2.1 e
   ·exact (f2 b hb).2.2.1 e
 have I4:Inv X' [] (XE own caps σ) (upd H2 s2.heap.objs.size (.lst [])) {s2 with heap:=h₁,toks:=s2.toks}:=by
  refine⟨ok',hX'▸rfl,I3.bare,?_,⟨_,by rw[locX];exact hns₁,?_⟩,?_,?_,?_,?_,?_,?_⟩
  ·rw[<-hX'];exact Un.kept k1
  ·intro i x v hN hσ hV
   have hN':N'[i]?=some x:=by rw[<-hX'] at hN;exact hN
   unfold XE at hσ
   by_cases hi:i<own.length
   ·rw[List.getElem?_append_left (by simpa using hi),List.getElem?_replicate] at hσ
    rw[if_pos hi] at hσ;cases hσ
   ·rw[List.getElem?_append_right (by simpa using hi),Ze,Zc] at hσ
    rw[S.eqN,List.getElem?_append_right (by omega),Zc] at hN'
    cases hj:caps[i-own.length]? with
    |none=>rw[hj] at hσ;cases hσ
    |some j=>
     rw[hj] at hσ hN'
     have hx:X.N.getD j ""=x:=Option.some.inj hN'
     obtain⟨hjl,hjf⟩:=S.cap j (List.mem_of_getElem? hj)
     rw[hx] at hjf
     have hjN:X.N[j]?=some x:=by
      rw[Zf hjl,<-hx,Zb,Zf hjl];rfl
     have hv:σ[j]?=some (some v):=by
      have q:(σ[j]?).join=some v:=Option.some.inj hσ
      cases q':σ[j]? with
      |none=>rw[q'] at q;cases q
      |some o=>rw[q'] at q;rw[show o=some v from q]
     have hkX:=S.fr (x,.free) (Y4 hjf) rfl
     rw[<-hesc] at hkX
     obtain⟨m,hn,hl⟩:=I3.loc
     have visX:Vis X.env.scope x:=hkX.elim (fun z=>.inr (.inl z)) fun z=>.inr (.inr z)
     obtain⟨u,ru,look⟩:=hl j x v hjN hv visX
     refine⟨u,ru,?_⟩
     obtain⟨c,hcc⟩:=hcl2 (x,.free) (Y4 hjf) rfl
     rcases look with ⟨a,_⟩|⟨_,c',hc',hcell⟩
     ·rcases hkX with z|z
      ·rw[show X.env.kindOf x=X.env.scope.names.lookup x from rfl,z] at a;cases a
      ·rw[show X.env.kindOf x=X.env.scope.names.lookup x from rfl,z] at a;cases a
     ·have:c'=c:=by rw[hcl1 _ _ hcc] at hc';cases hc';rfl
      subst this
      refine .inr ⟨?_,c',by rw[cellsX];exact lkF _ _ hjf hcc,hcell.keeps k1⟩
      rcases hV with q|q|q
      ·have q':(relabel scope X.env).names.lookup x=some .local:=by rw[<-hX'] at q;exact q
       rcases Yp q' with z|z
       ·rw[hjf] at z;cases z
       ·exact absurd z.1 (by decide)
      ·exact .inl q
      ·exact .inr q
  ·intro x c e
   rw[cellsX] at e
   rcases lkE x c e with e|⟨_,e⟩
   ·exact⟨_,(okA.empty x c (PySem.mem_of_lookup e)).1⟩
   ·obtain⟨v,q⟩:=I3.cell x c (hcl1 x c e)
    exact⟨v,q.keeps k1⟩
  ·rw[locX];exact I3.hok.fresh (Zq _)
  ·intro x c e
   rw[cellsX] at e
   rcases lkE x c e with e|⟨_,e⟩
   ·exact I3.hok.fresh (Nat.le_of_succ_le (aboveA x c e))
   ·exact I3.freeC x c (hcl1 x c e)
  ·intro p hp
   have:p∈([]:List (Addr×Obj)):=by rw[<-hX'] at hp;exact hp
   cases this
  ·rw[<-hX'];exact I3.hok.kept k1
  ·rw[<-hX']
   show (XE own caps σ).length=N'.length
   unfold XE
   rw[S.eqN,Zd,Zd,Ze,Za,Za]
 have pX:X'.prog=X.prog:=by rw[<-hX'];rfl
 have wX:X'.w=X.w:=by rw[<-hX'];rfl
 have KX:X'.K=X.K:=by rw[<-hX'];rfl
 have AX:X'.A=X.A:=by rw[<-hX'];rfl
 have cX:X'.calm=true:=by rw[<-hX'];exact hc
 have xX:X'.xe=fun _ _=>False:=by rw[<-hX'];rfl
 have envX:X'.env=compEnvC scope cE g3.objs.size X.env:=by rw[<-hX'];rfl
 have exX:X'.ex=fp:=by rw[<-hX'];rfl
 have hg':PG X' tg g:=hX'▸hg _ _ _ _ _
 have ht':PIf X' ifs tc:=hX'▸ht _ _ _ _ _
 have he':PE X' elt te:=hX'▸he _ _ _ _ _
 have fpk:∀{H':Hp},(∀b∈fp,H' b=none)->∀b∈fp,VN X' [] H' b:=fun {H'} hn b hb=>by
  refine⟨hn b hb,?_,?_,?_,?_,?_⟩
  ·rw[locX];exact Nat.ne_of_lt (fplt b hb)
  ·rw[hfs];intro z
   rcases List.mem_cons.mp (I3.stkSub b z) with e|e
   ·exact (f2 b hb).2.1 e
   ·exact (f2 b hb).2.2.1 e
  ·rw[exX];exact .inl hb
  ·intro x c e
   rw[cellsX] at e
   rcases lkE x c e with e|⟨_,e⟩
   ·have h1:g3.objs.size+1<=c:=aboveA x c e
    exact fun z=>absurd (Nat.lt_of_lt_of_le (fplt b hb) (Nat.le_of_succ_le h1)) (by rw[z];exact Nat.lt_irrefl _)
   ·exact (f2 b hb).2.2.2.2.1 x c (hcl1 x c e)
  ·intro p hp
   have:p∈([]:List (Addr×Obj)):=by rw[<-hX'] at hp;exact hp
   cases this
 have st1:tn 0 h₁:=T.keep _ _ _ st2 fun b hb o e=>k1 b o (old3 b o e)
 have back:∀{σ':St}{H':Hp}{s':Shared}{pp:List (Addr×Obj)}{h':Heap},Inv X' pp σ' H' s'->Heap.SameBut g3.objs.size s'.heap h'->Inv X pins σ H' {s' with heap:=h'}:=fun {σ' H' s' pp h'} I' sb=>by
  have u:=I'.base
  rw[hfs,exX] at u
  have hs0:X'.s₀.heap=g3:=by rw[<-hX'];rfl
  have hH0:X'.H₀=upd H2 s2.heap.objs.size (.lst []):=by rw[<-hX'];rfl
  rw[hs0,hH0] at u
  have ne:∀b o,g3.get? b=some o->b≠g3.objs.size:=fun b o e=>Nat.ne_of_lt (Zp e)
  have hCn:H' g3.objs.size=none:=by have:=I'.free;rw[locX] at this;exact this
  refine I3.call' (s':={s' with heap:=h'}) (ch:=fp) ?_ ⟨?_,?_,?_,?_,?_,?_,?_⟩ ?_ I'.bare ?_
  ·have:=I'.os;rw[<-hX'] at this;exact this
  ·intro b o e n hb hx;exact sb.extBut b o (ne b o e) (u.keep b o e n hb hx)
  ·intro b o e n hb hx
   obtain⟨sl,q⟩:=u.slot b o e n hb hx
   exact⟨sl,sb.extBut b _ (ne b o e) q⟩
  ·exact u.free
  ·intro b o e hx
   obtain⟨o',q⟩:=u.there b o e hx
   exact⟨o',sb.extBut b _ (ne b o e) q⟩
  ·exact u.tups
  ·exact u.frzs
  ·exact u.tbls
  ·have hok:=I'.hok
   rw[pX,wX] at hok
   intro a o e
   refine (hok a o e).stay (fun b v hb r=>sb.extBut b v ?_ r) (fun b r=>r) fun b xs r=>r
   rcases hb with rfl|hb
   ·intro z;rw[z,hCn] at e;cases e
   ·intro z;rw[z,hCn] at hb;cases hb
  ·intro b hb
   refine⟨(f2 b hb).2.2.2.1,(f2 b hb).2.1,(f2 b hb).2.2.2.2.1,(f2 b hb).2.2.2.2.2⟩
 have loop:∀s3:Shared,s3={s2 with heap:=h₁,toks:=s2.toks}->
   codeAny (model X.prog X.w) X.A (.compLoop (.ListComp elt [⟨tg,iter,ifs,0⟩] scope pos) 0 (.ref it) (.ref s2.heap.objs.size) (compEnvC scope cE g3.objs.size X.env)) (RR (.ref s2.heap.objs.size) g3.objs.size) s3:=by
  rintro s3 rfl
  refine W1 (fun n s'=>∃i σ' H',Inv X' [] σ' H' s'/\tn i s'.heap/\(∀b∈fp,H' b=none)/\W i n σ' H') ?_ m0 ⟨0,_,_,I4,st1,fpn,w0⟩
  rintro n s5 ⟨i,σ5,H5,I5,st5,fr5,w5⟩
  rcases turn i n σ5 H5 w5 with ⟨stop,qn⟩|⟨go,N,hN,step⟩
  ·have q:=T.done X' pX wX KX cX i [] s5 σ5 H5 (fun _ _=>False) I5 (fpk fr5) st5 stop
   rw[AX] at q
   refine ZT q fun r s6 ⟨hr,I6⟩=>?_
   subst hr
   obtain⟨m,hn,_⟩:=I6.loc
   rw[locX] at hn
   refine hRR _ _ s6 m H5 hn ?_ ?_ I3.sz ?_ ?_ qn fun h' sb=>back I6 sb
   ·exact Nat.ne_of_gt I3.lt
   ·intro x c e
    obtain⟨v,q⟩:=I3.cell x c e
    exact Nat.ne_of_lt q.lt
   ·intro pp hpp
    exact Nat.ne_of_lt (Zp (I3.pin pp hpp).1)
   ·have:=I6.free;rw[locX] at this;exact this
  ·have q:=T.item X' pX wX KX cX i [] s5 σ5 H5 (fun _ _=>False) I5 (fpk fr5) st5 go
   rw[AX] at q
   refine ZT q fun r s6 ⟨u,hr,h6⟩=>?_
   subst hr
   refine ZT h6 fun _ s7 ⟨x,H7,I7,r7,y7,st7,fr7⟩=>?_
   have I7':=I7.pinned (fpk fr7) (T.obj _ _ st7)
   have q8:=hg' _ s7 σ5 H7 x u _ I7' r7 (step x H7 y7)
   rw[pX,wX,AX,envX,xX] at q8
   refine ZT q8 fun _ s8 ⟨σ8,H8,I8,q8⟩=>?_
   have q9:=ht' _ s8 σ8 H8 _ I8 q8
   rw[pX,wX,AX,envX,xX] at q9
   have again:∀{σ':St}{H':Hp}{s':Shared},Inv X' ([]++Vb fp s7.heap) σ' H' s'->N σ' H'->∃m,m<n/\∃i σ' H',Inv X' [] σ' H' s'/\tn i s'.heap/\(∀b∈fp,H' b=none)/\W i m σ' H':=fun {σ' H' s'} I' n'=>by
    obtain⟨m',hm,w'⟩:=hN σ' H' n'
    refine⟨m',hm,i+1,σ',H',I'.unpinned,T.keep _ _ _ st7 fun b hb o e=>(I'.pin (b,o) (List.mem_append_right _ (List.mem_append_right _ (Wy hb e)))).1,fun b hb=>?_,w'⟩
    obtain⟨o,e,d⟩:=T.obj _ _ st7 b hb
    exact (I'.pin (b,o) (List.mem_append_right _ (List.mem_append_right _ (Wy hb e)))).2.1
   refine ZT q9 fun ok s9 ⟨H9,I9,q9⟩=>?_
   cases ok with
   |false=>
    simp only[Bool.false_eq_true,if_false] at q9 ⊢
    exact again I9 q9
   |true=>
    simp only[if_true] at q9 ⊢
    have q10:=he' _ s9 σ8 H9 _ I9 q9
    rw[pX,wX,AX,envX,xX] at q10
    refine ZT q10 fun y s10 ⟨v,H10,I10,rv,xs,hxs,hz,q10⟩=>?_
    have q11:=Yk (X:=X') _ s10 σ8 H10 (.ref s2.heap.objs.size) [v] (.ref s2.heap.objs.size) [y] (fun _ H'=>N σ8 H') I10 rfl (.cons rv .nil) ⟨_,xs,v,rfl,rfl,hxs,hz,q10⟩
    rw[pX,wX,AX,xX] at q11
    exact ZT q11 fun _ s11 ⟨_,H11,I11,_,q11⟩=>again I11 q11
 exact codeAny_compStart_list (loop _ rfl) (T.self _ 0 _ _ _ st1 (loop _ rfl))
theorem Zhc {own:List Str}{caps:List Nat}{N':List Str}{esc scope:Scope}{elt iter tg:Expr}{ifs:List Expr}{pos:Pos}{wi:TI}{g:TG}{tc:TT}{te:TE}
  (hesc:X.env.scope=esc) (S:Wt X.N esc own caps N' scope) (hc:X.calm=true) (hi:PI X tg iter wi)
  (hg:∀cl C s H ex,PG (Ye X scope cl N' C s H ex) tg g) (ht:∀cl C s H ex,PIf (Ye X scope cl N' C s H ex) ifs tc) (he:∀cl C s H ex,PE (Ye X scope cl N' C s H ex) elt te)
  (hs:∀x,foldedSetIterable iter X.env x=pure x:=by intro _;rfl) :
  PE X (.ListComp elt [⟨tg,iter,ifs,0⟩] scope pos) (Zcv own caps wi g tc te):=by
 intro pins s σ H Q I h
 obtain⟨cl,hcl,hcl1,hcl2⟩:=Vv (scope:=scope) (env:=X.env) fun y hy hf=>by
  have:=S.fr y hy hf
  rw[<-hesc] at this
  exact I.ok.has y.1 this
 rw[eval_ListComp]
 refine wpAny_comprehension_free (use:=none) rfl hs hcl S.kind S.uniq (ZT (hi pins s σ H _ I h) fun v s1 h1=>ZT h1 fun itv s2 h2=>?_)
 obtain⟨it,fp,tn,J,H2,e,I2,T,st2,f2,q⟩:=h2
 subst e
 refine Vu (RR:=fun acc C=>compPost (model X.prog X.w) X.A X.xe none (EP X pins σ Q) acc C) hesc S hc hcl1 hcl2 hg ht he I2 T st2 f2 q ?_
 intro D C s' m H' hn _ _ _ _ _ q' hb
 exact⟨m,hn,fun h' sb=>⟨.ref D,H',hb h' sb,rfl,q'⟩⟩
theorem ZbV {own:List Str}{caps:List Nat}{N':List Str}{esc scope:Scope}{elt iter tg:Expr}{ifs:List Expr}{pos spos py:Pos}{y:Str}{i:Nat}{wi:TI}{g:TG}{tc:TT}{te:TE}
  (hesc:X.env.scope=esc) (S:Wt X.N esc own caps N' scope) (hc:X.calm=true) (hi:PI X tg iter wi)
  (hg:∀cl C s H ex,PG (Ye X scope cl N' C s H ex) tg g) (ht:∀cl C s H ex,PIf (Ye X scope cl N' C s H ex) ifs tc) (he:∀cl C s H ex,PE (Ye X scope cl N' C s H ex) elt te)
  (hN:X.N.Nodup) (hy:X.N[i]?=some y) (hx:Loc X.env.scope y) (hf:X.fn y=true\/X.env.scope.names.lookup y=some .local)
  (hsw:swapsWith (.ListComp elt [⟨tg,iter,ifs,0⟩] scope pos) (some (.Name y py)) spos.line X.env=pure true)
  (hs:∀x,foldedSetIterable iter X.env x=pure x:=by intro _;rfl) :
  PS X (.Assign [.Name y py] (.ListComp elt [⟨tg,iter,ifs,0⟩] scope pos) spos) (ZbD (Zcv own caps wi g tc te) (Yl i)):=by
 intro pins s σ H D0 I h
 obtain⟨cl,hcl,hcl1,hcl2⟩:=Vv (scope:=scope) (env:=X.env) fun y hy hf=>by
  have:=S.fr y hy hf
  rw[<-hesc] at this
  exact I.ok.has y.1 this
 rw[exec_Assign_Name_used _ _ _ _ hsw]
 refine Zl (wpAny_standAt (Zl ?_))
 show wpAny _ X.A (do let _ <-comprehension (.ListComp elt [⟨tg,iter,ifs,0⟩] scope pos) scope X.env _ (newList []) false (eval iter X.env) (some (assign (.Name y py) X.env))) _ _ s
 refine Zl (wpAny_mono (wpAny_comprehension_free (use:=some (assign (.Name y py) X.env)) (Q:=fun _ s'=>SP X pins D0 .next s') rfl hs hcl S.kind S.uniq
  (ZT (hi pins s σ H _ I h) fun v s1 h1=>ZT h1 fun itv s2 h2=>?_)) (fun _ s' hq=>Zm (Zm hq)) fun _ _ e=>e)
 obtain⟨it,fp,tn,J,H2,e,I2,T,st2,f2,q⟩:=h2
 subst e
 refine Vu (RR:=fun acc C=>compPost (model X.prog X.w) X.A X.xe (some (assign (.Name y py) X.env)) (fun _ s'=>SP X pins D0 .next s') acc C) hesc S hc hcl1 hcl2 hg ht he I2 T st2 f2 q ?_
 intro D C s' m H' hn hCL hCc hC0 hCp hCn q' hb
 have I':Inv X pins σ H' s':=hb s'.heap (.refl ..)
 show wpAny _ X.A (assign (.Name y py) X.env (.ref D)) _ _ s'
 refine wpAny_assign_Name (VR I' hN hy hx (v:=.ref D) rfl (fun s'' I'' ⟨a,sb,ha⟩=>?_) hf)
 have hCa:C≠a:=by
  rcases ha with rfl|ha
  ·exact hCL
  ·exact fun z=>hCc y a ha z.symm
 refine⟨m,hn.sameBut sb hCa,fun h' sb'=>⟨_,H',?_,q'⟩⟩
 exact I''.turned (t':=s''.toks) (fun b o hb e=>sb'.extBut b o hb e) hCn hCL (.inr hC0) hCc hCp
end
section
variable {κ:Type} [DecidableEq κ]
def WF (kvs:List (κ×V))(k:κ):Option V:=(kvs.find? fun kv=>decide (kv.1=k)).map (·.2)
def Yf (kvs:List (κ×V))(k:κ)(v:V):List (κ×V):=
 if (kvs.any fun kv=>decide (kv.1=k))=true then kvs.map (fun kv=>if kv.1=k then (kv.1,v) else kv) else kvs++[(k,v)]
theorem XR {p:κ×V}{r:List (κ×V)}{k:κ}(e:p.1=k):WF (p::r) k=some p.2:=by simp[WF,List.find?_cons,e]
theorem XS {p:κ×V}{r:List (κ×V)}{k:κ}(e:¬p.1=k):WF (p::r) k=WF r k:=by simp[WF,List.find?_cons,e]
theorem WI (k:κ):∀kvs:List (κ×V),(kvs.any fun kv=>decide (kv.1=k))=(WF kvs k).isSome
 | []=>rfl
 |p::r=>by
  rw[List.any_cons]
  by_cases e:p.1=k
  ·simp only[XR e,decide_eq_true e,Bool.true_or,Option.isSome_some]
  ·rw[XS e,decide_eq_false e,Bool.false_or];exact WI k r
theorem WS (kvs:List (κ×V))(k:κ)(v:V):(Yf kvs k v).length<=kvs.length+1:=by
 unfold Yf
 split
 ·rw[Za];omega
 ·rw[Zd,Zi,List.length_nil];omega
theorem Zfe {kvs:List (κ×V)}{k:κ}(v:V)(h:WF kvs k=none):Yf kvs k v=kvs++[(k,v)]:=by
 unfold Yf
 rw[WI,h]
 exact if_neg (by decide)
theorem Vz.isSome_eq {o:Option V}{u:Option Value}(r:Vz o u):o.isSome=u.isSome:=by
 cases o with
 |none=>cases u with
  |none=>rfl
  |some _=>exact (show False from r).elim
 |some _=>cases u with
  |none=>exact (show False from r).elim
  |some _=>rfl
theorem KV.val {kvs:List (κ×V)}{vs:List (κ×Value)}(r:KV kvs vs)(k:κ):Vz (WF kvs k) (valueAt vs k):=by
 unfold KV at r
 induction r with
 |nil=>exact True.intro
 | @cons p q ps qs h t ih=>
  obtain⟨h1,h2⟩:=h
  by_cases e:p.1=k
  ·have e':q.1=k:=h1.symm.trans e
   have b:valueAt (q::qs) k=some q.2:=by simp[valueAt,List.find?_cons,e']
   rw[XR e,b];exact h2
  ·have e':¬q.1=k:=fun z=>e (h1.trans z)
   have b:valueAt (q::qs) k=valueAt qs k:=by simp[valueAt,List.find?_cons,e']
   rw[XS e,b];exact ih
theorem KV.any {kvs:List (κ×V)}{vs:List (κ×Value)}(r:KV kvs vs)(k:κ):(kvs.any fun kv=>decide (kv.1=k))=vs.any fun kv=>decide (kv.1=k):=by
 unfold KV at r
 induction r with
 |nil=>rfl
 |cons h t ih=>rw[List.any_cons,List.any_cons,ih,h.1]
theorem KV.repl {kvs:List (κ×V)}{vs:List (κ×Value)}(r:KV kvs vs)(k:κ){y:V}{u:Value}(ry:RelV y u) :
  KV (kvs.map fun kv=>if kv.1=k then (kv.1,y) else kv) (vs.map fun kv=>if kv.1=k then (kv.1,u) else kv):=by
 unfold KV at r ⊢
 induction r with
 |nil=>exact .nil
 | @cons p q ps qs h t ih=>
  rw[List.map_cons,List.map_cons]
  refine .cons ?_ ih
  obtain⟨h1,h2⟩:=h
  by_cases e:p.1=k
  ·rw[if_pos e,if_pos (h1.symm.trans e)];exact⟨h1,ry⟩
  ·rw[if_neg e,if_neg (fun z=>e (h1.trans z))];exact⟨h1,h2⟩
theorem KV.put {kvs:List (κ×V)}{vs:List (κ×Value)}(r:KV kvs vs)(k:κ){y:V}{u:Value}(ry:RelV y u):KV (Yf kvs k y) (stored vs k u):=by
 unfold Yf stored
 rw[r.any k]
 by_cases e:(vs.any fun kv=>decide (kv.1=k))=true
 ·rw[if_pos e,if_pos e];exact r.repl k ry
 ·rw[if_neg e,if_neg e];exact Paired.snoc r ⟨rfl,ry⟩
theorem KV.keys {kvs:List (κ×V)}{vs:List (κ×Value)}(r:KV kvs vs):kvs.map (·.1)=vs.map (·.1):=by
 unfold KV at r
 induction r with
 |nil=>rfl
 |cons h t ih=>rw[List.map_cons,List.map_cons,ih,h.1]
theorem KV.length {kvs:List (κ×V)}{vs:List (κ×Value)}(r:KV kvs vs):kvs.length=vs.length:=Paired.length r
end
theorem Za7 {P:Program}{w:World}{k:Z0}{u:Value}(r:RelV (kV k) u):(ZU P w).is k u=true:=by
 cases k with
 |inl i=>obtain⟨t,e⟩:=(show ∃t,u=Value.int i t from r);subst e;exact ZaW P w i t
 |inr x=>obtain⟨t,e⟩:=(show ∃t,u=Value.str x t from r);subst e;exact ZaV P w x t
theorem V9 {P:Program}{w:World}:∀{ks:List Z0}{us:List Value},ZB (ks.map kV) us->ItemsAre (ZU P w) ks us
 | [],_,r=>by rw[List.map_nil] at r;cases r;exact .nil
 |k::ks,_,r=>by
  rw[List.map_cons] at r
  cases r with
  |cons h t=>exact .cons (Za7 h) (V9 t)
abbrev KT (H:Hp):List (List Z0×V)->List (List Z0×Addr×Value)->Prop:=Paired fun p q=>p.1=q.1/\H q.2.1=some (.tup (p.1.map kV))/\RelV p.2 q.2.2
theorem KT.val {H:Hp}{kvs:List (List Z0×V)}{xs:List (List Z0×Addr×Value)}(r:KT H kvs xs)(k:List Z0):Vz (WF kvs k) ((atKey xs k).map (·.2)):=by
 induction r with
 |nil=>exact True.intro
 | @cons p q ps qs h t ih=>
  obtain⟨h1,_,h2⟩:=h
  by_cases e:p.1=k
  ·have e':q.1=k:=h1.symm.trans e
   have b:atKey (q::qs) k=some q.2:=by simp[atKey,List.find?_cons,e']
   rw[XR e,b];exact h2
  ·have e':¬q.1=k:=fun z=>e (h1.trans z)
   have b:atKey (q::qs) k=atKey qs k:=by simp[atKey,List.find?_cons,e']
   rw[XS e,b];exact ih
theorem KT.repl {H:Hp}{kvs:List (List Z0×V)}{xs:List (List Z0×Addr×Value)}(r:KT H kvs xs)(k:List Z0){y:V}{u:Value}(ry:RelV y u) :
  KT H (kvs.map fun kv=>if kv.1=k then (kv.1,y) else kv) (xs.map (putAt k u)):=by
 induction r with
 |nil=>exact .nil
 | @cons p q ps qs h t ih=>
  rw[List.map_cons,List.map_cons]
  refine .cons ?_ ih
  obtain⟨h1,h2,h3⟩:=h
  unfold putAt
  by_cases e:p.1=k
  ·rw[if_pos e,if_pos (h1.symm.trans e)];exact⟨h1,h2,ry⟩
  ·rw[if_neg e,if_neg (fun z=>e (h1.trans z))];exact⟨h1,h2,h3⟩
theorem KT.put {H:Hp}{kvs:List (List Z0×V)}{xs:List (List Z0×Addr×Value)}(r:KT H kvs xs)(k:List Z0){b:Addr}{y:V}{u:Value}(hb:H b=some (.tup (k.map kV)))(ry:RelV y u) :
  KT H (Yf kvs k y) (storedH xs k b u):=by
 have e:(kvs.any fun kv=>decide (kv.1=k))=(atKey xs k).isSome:=by
  rw[WI,(r.val k).isSome_eq,Option.isSome_map]
 unfold Yf storedH
 rw[e]
 by_cases q:(atKey xs k).isSome=true
 ·rw[if_pos q,if_pos q];exact r.repl k ry
 ·rw[if_neg q,if_neg q];exact Paired.snoc r ⟨rfl,hb,ry⟩
theorem KT.keeps {H H':Hp}{kvs:List (List Z0×V)}{xs:List (List Z0×Addr×Value)}(r:KT H kvs xs)(ht:∀b ys,H b=some (.tup ys)->H' b=some (.tup ys)):KT H' kvs xs:=
 Paired.mapP r fun _ _ z=>⟨z.1,ht _ _ z.2.1,z.2.2⟩
section
variable {P:Program}{w:World}{H:Hp}{h:Heap}{a:Addr}
theorem Zii {u:HO}(ok:W8 P w H h)(e:Rd H a u):ZN P w H h a u:=e.ok ok
theorem Zbf {kvs:List (Z0×V)}(ok:W8 P w H h)(e:Rd H a (.dK kvs)):kvs.length<=sizeLine/\(a == sysModules)=false/\∃vs,KV kvs vs/\h.DictOf (ZU P w) a vs:=
 show ZN P w H h a (.dK kvs) from Zii ok e
theorem Zgk {kvs:List (Z0×V)}(ok:W8 P w H h)(e:H a=some (.dK kvs)):kvs.length<=sizeLine/\(a == sysModules)=false/\∃vs,KV kvs vs/\h.DictOf (ZU P w) a vs:=Zbf ok (.inl e)
theorem U3 {ks:List Z0}(ok:W8 P w H h)(e:H a=some (.tup (ks.map kV))):(tupleKind (ZU P w)).is h ks a:=by
 obtain⟨_,its,r,o,h1,h2,n,h3⟩:=(show ZN P w H h a (.tup (ks.map kV)) from ok a _ e)
 exact⟨o,its.toArray,n,h1,h2,h3,by simpa using V9 r⟩
theorem Zdk {kvs:List (List Z0×V)}(ok:W8 P w H h)(e:Rd H a (.dT kvs)):kvs.length<=sizeLine/\(a == sysModules)=false/\
  ∃xs,KT H kvs xs/\h.DictOfH (tupleKind (ZU P w)) a xs:=by
 obtain⟨z,y,xs,r,o,es,ep,h1,h2,h3,h4,h5⟩:=(show ZN P w H h a (.dT kvs) from Zii ok e)
 refine⟨z,y,xs,r,o,es,ep,h1,h2,h3,h4,fun x hx=>?_,h5⟩
 have all:∀{l:List (List Z0×V)}{m:List (List Z0×Addr×Value)},KT H l m->∀x∈m,(tupleKind (ZU P w)).is h x.1 x.2.1:=by
  intro l m q
  induction q with
  |nil=>intro x hx;exact nomatch hx
  | @cons p q ps qs hq t ih=>
   intro x hx
   rcases List.mem_cons.mp hx with e|hx
   ·subst e
    exact U3 ok (by rw[<-hq.1];exact hq.2.1)
   ·exact ih x hx
 exact all r x hx
theorem Zk5 {kvs:List (List Z0×V)}(ok:W8 P w H h)(e:H a=some (.dT kvs)):kvs.length<=sizeLine/\(a == sysModules)=false/\
  ∃xs,KT H kvs xs/\h.DictOfH (tupleKind (ZU P w)) a xs:=Zdk ok (.inl e)
end
def WH (H:Hp)(a:Addr)(y:V)(r:Option V):Prop:=
 (∃kvs k,Rd H a (.dK kvs)/\y=kV k/\r=WF kvs k)\/∃kvs k b,Rd H a (.dT kvs)/\y=.ref b/\H b=some (.tup (k.map kV))/\r=WF kvs k
def Xo (H:Hp)(a:Addr)(y v:V)(H':Hp):Prop:=
 (∃kvs k,H a=some (.dK kvs)/\y=kV k/\kvs.length<sizeLine/\H'=upd H a (.dK (Yf kvs k v)))\/
 ∃kvs k b,H a=some (.dT kvs)/\y=.ref b/\H b=some (.tup (k.map kV))/\kvs.length<sizeLine/\H'=upd H a (.dT (Yf kvs k v))
theorem WH.k {H:Hp}{a:Addr}{kvs:List (Z0×V)}{k:Z0}(e:H a=some (.dK kvs)):WH H a (kV k) (WF kvs k):=.inl ⟨kvs,k,.inl e,rfl,rfl⟩
theorem WH.t {H:Hp}{a b:Addr}{kvs:List (List Z0×V)}{k:List Z0}(e:H a=some (.dT kvs))(eb:H b=some (.tup (k.map kV))):WH H a (.ref b) (WF kvs k):=.inr ⟨kvs,k,b,.inl e,rfl,eb,rfl⟩
theorem Xo.k {H:Hp}{a:Addr}{kvs:List (Z0×V)}{k:Z0}{v:V}(e:H a=some (.dK kvs))(hl:kvs.length<sizeLine):Xo H a (kV k) v (upd H a (.dK (Yf kvs k v))):=.inl ⟨kvs,k,e,rfl,hl,rfl⟩
theorem Xo.t {H:Hp}{a b:Addr}{kvs:List (List Z0×V)}{k:List Z0}{v:V}(e:H a=some (.dT kvs))(eb:H b=some (.tup (k.map kV)))(hl:kvs.length<sizeLine) :
  Xo H a (.ref b) v (upd H a (.dT (Yf kvs k v))):=.inr ⟨kvs,k,b,e,rfl,eb,hl,rfl⟩
section
variable {X:Cx}{pins:List (Addr×Obj)}{σ:St}{H:Hp}{s:Shared}{a:Addr}{y v:V}{u r:Value}{o:Option V}{A:Around}{E:Value->Shared->Prop}
theorem Inv.big (I:Inv X pins σ H s):sysModules<s.heap.objs.size:=by
 have h:mainGlobals<s.heap.objs.size:=(I.mod.glob.keeps I.bk).lt
 exact Nat.lt_trans (by decide) h
theorem Zen {Q:Value->Shared->Prop}(hu:A.units+1<cLine)(I:Inv X pins σ H s)(g:WH H a y (some v))(ry:RelV y u)(h:∀w' s',Inv X pins σ H s'->RelV v w'->Q w' s') :
  wpAny (model X.prog X.w) A (getItem (.ref a) u) Q E s:=by
 rcases g with ⟨kvs,k,e,ey,l⟩|⟨kvs,k,b,e,ey,eb,l⟩
 ·subst ey
  obtain⟨z,hd,vs,rel,dd⟩:=Zbf I.hok e
  obtain⟨w',hw,rw'⟩:=Vz.some_of (v:=v) (o:=valueAt vs k) (by rw[l];exact rel.val k)
  exact wpAny_getItem_of (Za7 ry) dd.mapOf hw (h w' _ (I.tok _) rw')
 ·subst ey
  cases (show u=Value.ref b from ry)
  obtain⟨z,hd,xs,rel,dd⟩:=Zdk I.hok e
  obtain⟨w',hw,rw'⟩:=Vz.some_of (v:=v) (o:=(atKey xs k).map (·.2)) (by rw[l];exact rel.val k)
  obtain⟨p,hp,hp2⟩:=Option.map_eq_some_iff.mp hw
  refine wpAny_getItem_heap (tupleKind_room_in1 hu) (U3 I.hok eb) dd hp ?_
  rw[hp2]
  exact h w' _ (I.tok _) rw'
theorem ZhP {Q:Value->Shared->Prop}(hu:A.units+1<cLine)(I:Inv X pins σ H s)(g:WH H a y o)(ry:RelV y u)(h:∀s',Inv X pins σ H s'->Q (.bool (!o.isSome)) s') :
  wpAny (model X.prog X.w) A (compareOp .NotIn u (.ref a)) Q E s:=by
 rcases g with ⟨kvs,k,e,ey,l⟩|⟨kvs,k,b,e,ey,eb,l⟩
 ·subst ey
  obtain⟨z,hd,vs,rel,dd⟩:=Zbf I.hok e
  refine wpAny_notIn_of (Za7 ry) hd dd.mapOf ?_
  rw[<-(rel.val k).isSome_eq,<-l]
  exact h _ (I.tok _)
 ·subst ey
  cases (show u=Value.ref b from ry)
  obtain⟨z,hd,xs,rel,dd⟩:=Zdk I.hok e
  refine wpAny_notIn_heap (tupleKind_room_in1 hu) (U3 I.hok eb) hd dd ?_
  have q:=(rel.val k).isSome_eq
  rw[Option.isSome_map] at q
  rw[<-q,<-l]
  exact h _ (I.tok _)
theorem Zab {h':Heap}{t':Nat}{ob:HO}(I:Inv X pins σ H s)(mu:Mut (H a))(hs:Heap.SameBut a s.heap h')(he:∃q,h'.get? a=some q)(new:ZN X.prog X.w (upd H a ob) h' a ob) :
  Inv X pins σ (upd H a ob) {s with heap:=h',toks:=t'}:=
 I.write (x:=a) (e:=a) mu (.inl rfl) (fun b q hb z=>(hs.2 b hb).trans z) he new
theorem Zgl {P:Program}{w:World}{H':Hp}{h':Heap}{kvs:List (Z0×V)}{vs:List (Z0×Value)}(z:kvs.length<=sizeLine)(hd:(a == sysModules)=false)(rel:KV kvs vs)(dd:h'.DictOf (ZU P w) a vs) :
  ZN P w H' h' a (.dK kvs):=⟨z,hd,vs,rel,dd⟩
theorem Zem {H':Hp}{Q:Unit->Shared->Prop}(hu:A.units+1<cLine)(I:Inv X pins σ H s)(g:Xo H a y v H')(ry:RelV y u)(rv:RelV v r)(h:∀s',Inv X pins σ H' s'->Q () s') :
  wpAny (model X.prog X.w) A (setItem (.ref a) u r) Q E s:=by
 rcases g with ⟨kvs,k,e,ey,l,eH⟩|⟨kvs,k,b,e,ey,eb,l,eH⟩
 ·subst ey eH
  obtain⟨z,hd,vs,rel,dd⟩:=Zgk I.hok e
  have hz:vs.length<=sizeLine:=by rw[<-rel.length];exact z
  have hl:(Yf kvs k v).length<=sizeLine:=by have:=WS kvs k v;omega
  refine wpAny_setItem_pairs (hsz:=hz) (Za7 ry) dd fun h' dd' hs=>h _ ?_
  have he:∃q,h'.get? a=some q:=let ⟨q,_,_,hq,_⟩:=dd';⟨q,hq⟩
  exact Zab I (by rw[e];exact True.intro) hs he (Zgl hl hd (rel.put k rv) dd')
 ·subst ey eH
  cases (show u=Value.ref b from ry)
  obtain⟨z,hd,xs,rel,dd⟩:=Zk5 I.hok e
  have hz:xs.length<=sizeLine:=by rw[<-Paired.length rel];exact z
  have hl:(Yf kvs k v).length<=sizeLine:=by have:=WS kvs k v;omega
  refine wpAny_setItem_heap (hsz:=hz) (tupleKind_room_in1 hu) (U3 I.hok eb) dd fun h' dd' hs=>h _ ?_
  obtain⟨q,es,ep,hq,h2,h3,h4,_,h5⟩:=dd'
  refine Zab I (by rw[e];exact True.intro) hs ⟨q,hq⟩ ⟨hl,hd,_,(rel.put k eb rv).keeps fun c ys ec=>?_,q,es,ep,hq,h2,h3,h4,h5⟩
  rw[Zw (ZkT ec e (fun z=>nomatch z))]
  exact ec
end
section
variable {X:Cx}{pins:List (Addr×Obj)}{σ:St}{H:Hp}{s:Shared}{a:Addr}{kvs:List (Z0×V)}{k:Z0}{u:Value}{A:Around}{E:Value->Shared->Prop}
theorem Zk6 {Q:Value->Shared->Prop}(I:Inv X pins σ H s)(e:Rd H a (.dK kvs))(h:∀t s',Inv X pins σ H s'->Q (.int kvs.length t) s'):wpAny (model X.prog X.w) A (call (.builtin "len") [.ref a]) Q E s:=by
 obtain⟨z,hd,vs,rel,dd⟩:=Zbf I.hok e
 refine call_len_dict hd dd (by rw[<-rel.length];rw[sizeLine_eq] at z;omega) ?_
 rw[<-rel.length]
 exact h _ _ (I.tok _)
end
def Zld (i:Expr):Prop:=∀ov iv,subscripted i false ov iv=operate [ov,iv] (getItem ov iv)
theorem ZgW {prog:Program}{w:World}{A:Around}{E:Value->Shared->Prop}{s:Shared}{env:Env}{value slice:Expr}{pos:Pos}{T id:String}{Q:Value->Shared->Prop}
  (hl:typeLookup (.type T) "__getitem__"=pure (some (.builtin id))) (hs:Zld slice)
  (h:wpAny (model prog w) A (eval value env) (fun o s₁=>wpAny (model prog w) A (eval slice env) (fun i s₂=>s₂.TypeIs o T/\wpAny (model prog w) A (getItem o i) Q E s₂) E s₁) E s) :
  wpAny (model prog w) A (eval (.Subscript value slice pos) env) Q E s:=by
 refine Subscript_ (wpAny_mono h (fun o s₁ h₁=>wpAny_mono h₁ (fun i s₂ h₂=>?_) fun _ _ x=>x) fun _ _ x=>x)
 obtain⟨hT,h₂⟩:=h₂
 unfold subscriptTail
 refine Zl ?_
 rw[getitemInPython_of_ne hT.not_modules]
 refine Zl (wpAny_specialOf hT hl ?_)
 have fin:wpAny (model prog w) A (subscripted slice false o i) (fun r s₃=>wpAny (model prog w) A (letTemporaryGo value o r >>= fun _=>pure r) Q E s₃) E s₂:=by
  rw[hs o i]
  exact wpAny_operating (wpAny_mono h₂ (fun r s₃ h₃=>Zl (wpAny_letTemporaryGo (Zm h₃))) fun _ _ x=>x)
 first
  |exact Zm (Zl fin)
  |exact Zl (Zm (Zl fin))
  |exact Zl fin
theorem Zbg {X:Cx}{pins:List (Addr×Obj)}{σ:St}{H:Hp}{s:Shared}{a:Addr}{y:V}{o:Option V}(I:Inv X pins σ H s)(g:WH H a y o):s.TypeIs (.ref a) "dict":=by
 rcases g with ⟨kvs,k,e,_,_⟩|⟨kvs,k,b,e,_,_,_⟩
 ·obtain⟨_,_,vs,_,dd⟩:=Zbf I.hok e
  exact dd.typeIs
 ·obtain⟨_,_,xs,_,dd⟩:=Zdk I.hok e
  exact dd.typeIs
def Zkr (td ty:TE):TE:=fun σ H Q=>td σ H fun x H1=>ty σ H1 fun y H2=>∃a v,x=.ref a/\WH H2 a y (some v)/\Q v H2
def ZgV (ty td:TE):TE:=fun σ H Q=>ty σ H fun y H1=>td σ H1 fun x H2=>∃a o,x=.ref a/\WH H2 a y o/\Q (.bl (!o.isSome)) H2
def Zkx (td ty tv:TE):TS:=fun D σ H=>tv σ H fun v H1=>td σ H1 fun x H2=>ty σ H2 fun y H3=>∃a H4,x=.ref a/\Xo H3 a y v H4/\D.nx σ H4
section
variable {X:Cx}{o i e value:Expr}{pos pos' tpos:Pos}{td ty tv:TE}
theorem W9 (hu:X.A.units+1<cLine)(ho:PE X o td)(hi:PE X i ty)(hs:Zld i):PE X (.Subscript o i pos) (Zkr td ty):=by
 intro pins s σ H Q I h
 refine ZgW PySem.F.slot_dict_getitem.lookup hs (ZT (ho pins s σ H _ I h) fun u s1 ⟨x,H1,I1,rx,q1⟩=>ZT (hi pins s1 σ H1 _ I1 q1) fun iv s2 ⟨y,H2,I2,ry,a,v,ex,g,q2⟩=>?_)
 subst ex
 obtain rfl:u=Value.ref a:=rx
 exact⟨Zbg I2 g,Zen hu I2 g ry fun w' s3 I3 rw'=>⟨v,H2,I3,rw',q2⟩⟩
theorem V3 (hu:X.A.units+1<cLine)(hi:PE X i ty)(ho:PE X o td):PC X .NotIn i o (ZgV ty td):=by
 intro pins s σ H Q I h
 refine ZT (hi pins s σ H _ I h) fun iv s1 ⟨y,H1,I1,ry,q1⟩=>ZT (ho pins s1 σ H1 _ I1 q1) fun u s2 ⟨x,H2,I2,rx,a,ov,ex,g,q2⟩=>?_
 subst ex
 obtain rfl:u=Value.ref a:=rx
 exact ZhP hu I2 g ry fun s3 I3=>⟨.bl (!ov.isSome),H2,I3,rfl,q2⟩
theorem JM (hu:X.A.units+1<cLine)(ho:PE X o td)(hi:PE X i ty)(hv:PE X value tv)(hs:swapsWith value (some (.Subscript o i pos')) pos.line X.env=pure false) :
  PS X (.Assign [.Subscript o i pos'] value pos) (Zkx td ty tv):=by
 intro pins s σ H D I h
 refine wpAny_Assign_Subscript (ZT (hv pins s σ H _ I h) fun r s1 ⟨v,H1,I1,rv,q1⟩=>ZT (ho pins s1 σ H1 _ I1 q1) fun u s2 ⟨x,H2,I2,rx,q2⟩=>ZT (hi pins s2 σ H2 _ I2 q2) fun iv s3 ⟨y,H3,I3,ry,a,H4,ex,g,q3⟩=>?_) hs
 subst ex
 obtain rfl:u=Value.ref a:=rx
 exact Zem hu I3 g ry rv fun s4 I4=>⟨σ,H4,I4,q3⟩
end
theorem Zgm {P:Program}{w:World}{H:Hp}(h:Heap)(hb:sysModules<h.objs.size):ZN P w H (h.push {cls:=.type "dict",data:=.dict #[]}) h.objs.size (.dK []):=
 ⟨Nat.zero_le _,beq_eq_false_iff_ne.mpr (Ne.symm (Nat.ne_of_lt hb)),[],.nil,Heap.DictOf.new h⟩
theorem Zgi {P:Program}{w:World}{H:Hp}(h:Heap)(hb:sysModules<h.objs.size):ZN P w H (h.push {cls:=.type "dict",data:=.dict #[]}) h.objs.size (.dT []):=
 ⟨Nat.zero_le _,beq_eq_false_iff_ne.mpr (Ne.symm (Nat.ne_of_lt hb)),[],.nil,_,#[],0,Zo _ rfl,⟨rfl,rfl,rfl⟩,rfl,rfl,List.nodup_nil⟩
def ZiK:TE:=fun _ H Q=>∀p,H p=none->Q (.ref p) (upd H p (.dT []))
section
variable {X:Cx}{pos:Pos}
theorem Zfi:PE X (.Dict [] [] pos) ZiK:=fun pins s σ H Q I h=>
 wpAny_Dict_empty ⟨.ref s.heap.objs.size,_,I.laid (a:=s.heap.objs.size) (o:=.dT []) (t':=s.toks) (fun _ _ q=>Zn _ q) (Zq _) (Zgi s.heap I.big),rfl,h _ (I.hok.fresh (Zq _))⟩
end
def ZbB:List (TE×TE)->St->Hp->(List (V×V)->Hp->Prop)->Prop
 | [],_,H,Q=>Q [] H
 |(tk,tv)::r,σ,H,Q=>tk σ H fun x H1=>tv σ H1 fun y H2=>ZbB r σ H2 fun ps H3=>Q ((x,y)::ps) H3
abbrev VV:List (V×V)->List (Value×Value)->Prop:=Paired fun p q=>RelV p.1 q.1/\RelV p.2 q.2
def PPs (X:Cx)(pos:Pos)(keys:List (Option Expr))(values:List Expr)(trs:List (TE×TE)):Prop:=
 ∀(pins:List (Addr×Obj)) (s:Shared) (σ:St) (H:Hp) (Q:List (V×V)->Hp->Prop),Inv X pins σ H s->ZbB trs σ H Q->
  wpAny (model X.prog X.w) X.A (evalPairs (pairTrees keys values X.env pos)) (fun vs s'=>∃ps H',Inv X pins σ H' s'/\VV ps vs/\Q ps H') X.xe s
theorem UL {X:Cx}{pos:Pos}:PPs X pos [] [] []:=fun pins s σ H Q I h=>pairTrees_nil_walk ⟨[],H,I,.nil,h⟩
theorem WN {X:Cx}{pos:Pos}{k v:Expr}{ks:List (Option Expr)}{vs:List Expr}{tk tv:TE}{trs:List (TE×TE)}(hk:PE X k tk)(hv:PE X v tv)(hr:PPs X pos ks vs trs) :
  PPs X pos (some k::ks) (v::vs) ((tk,tv)::trs):=fun pins s σ H Q I h=>
 pairTrees_cons_walk (ZT (hk pins s σ H _ I h) fun u s1 ⟨x,H1,I1,rx,q1⟩=>ZT (hv pins s1 σ H1 _ I1 q1) fun w2 s2 ⟨y,H2,I2,ry,q2⟩=>
  ZT (hr pins s2 σ H2 _ I2 q2) fun ws s3 ⟨ps,H3,I3,rel,q3⟩=>⟨(x,y)::ps,H3,I3,.cons ⟨rx,ry⟩ rel,q3⟩)
def Yz (kvs more:List (Z0×V)):List (Z0×V):=more.foldl (fun acc kv=>Yf acc kv.1 kv.2) kvs
theorem KV.merge:∀{more:List (Z0×V)}{rs:List (Z0×Value)}{kvs:List (Z0×V)}{vs:List (Z0×Value)},KV more rs->KV kvs vs->KV (Yz kvs more) (merged vs rs):=by
 intro more rs kvs vs r
 unfold KV at r
 induction r generalizing kvs vs with
 |nil=>intro q;exact q
 | @cons p q ps qs h t ih=>
  intro r0
  have e:KV (Yf kvs p.1 p.2) (stored vs q.1 q.2):=by
   have:=r0.put p.1 h.2
   rw[<-h.1];exact this
  exact ih e
theorem Jn:∀(more kvs:List (Z0×V)),(Yz kvs more).length<=kvs.length+more.length
 | [],kvs=>by show kvs.length<=kvs.length+0;omega
 |p::r,kvs=>by
  have h1:=Jn r (Yf kvs p.1 p.2)
  have h2:=WS kvs p.1 p.2
  show (Yz (Yf kvs p.1 p.2) r).length<=_
  rw[Zi];omega
theorem Vw {P:Program}{w:World}:∀{kvs:List (Z0×V)}{ws:List (Value×Value)},VV (kvs.map fun kv=>(kV kv.1,kv.2)) ws->∃rs,Carries (ZU P w) ws rs/\KV kvs rs
 | [],_,r=>by rw[List.map_nil] at r;cases r;exact⟨[],True.intro,.nil⟩
 |p::kvs,_,r=>by
  rw[List.map_cons] at r
  cases r with
  | @cons a b as bs h t=>
   obtain⟨rs,c,q⟩:=Vw (P:=P) (w:=w) t
   obtain⟨b1,b2⟩:=b
   exact⟨(p.1,b2)::rs,⟨Za7 h.1,rfl,c⟩,.cons ⟨rfl,h.2⟩ q⟩
def Zkq (trs:List (TE×TE)):TE:=fun σ H Q=>∀p,H p=none->ZbB trs σ (upd H p (.dK [])) fun ps H2=>H2 p=some (.dK [])/\∃kvs:List (Z0×V),ps=kvs.map (fun kv=>(kV kv.1,kv.2))/\kvs.length<=15/\Q (.ref p) (upd H2 p (.dK (Yz [] kvs)))
theorem UR {X:Cx}{pos:Pos}{keys:List (Option Expr)}{values:List Expr}{trs:List (TE×TE)}(h:PPs X pos keys values trs)(hall:keys.all (·.isSome)=true)(hl:keys.length=values.length)(h0:keys≠[])
  (h15:keys.length<=15):PE X (.Dict keys values pos) (Zkq trs):=by
 intro pins s σ H Q I q
 have hn:=I.hok.fresh (Zq s.heap.objs.size)
 have I1:=I.laid (a:=s.heap.objs.size) (o:=.dK []) (h':=s.heap.push {cls:=.type "dict",data:=.dict #[]}) (t':=s.toks) (fun _ _ q=>Zn _ q) (Zq _) (Zgm s.heap I.big)
 refine wpAny_Dict_walk (knd:=ZU X.prog X.w) hall hl h0 h15 (ZT (h pins _ σ _ _ I1 (q _ hn)) fun ws s2 ⟨ps,H2,I2,rel,e,kvs,ep,lk,q2⟩=>?_)
 subst ep
 obtain⟨rs,c,rk⟩:=Vw (P:=X.prog) (w:=X.w) rel
 obtain⟨z,hd,vs0,r0,dd⟩:=Zgk I2.hok e
 cases r0
 refine⟨rs,c,dd,fun h' dd' hs=>⟨.ref s.heap.objs.size,_,?_,rfl,q2⟩⟩
 have hz:(Yz [] kvs).length<=sizeLine:=by
  have h1:=Jn kvs []
  rw[List.length_nil] at h1
  rw[sizeLine_eq];omega
 have he:∃q,h'.get? s.heap.objs.size=some q:=let ⟨q,_,_,hq,_⟩:=dd';⟨q,hq⟩
 exact Zab I2 (by rw[e];exact True.intro) hs he (Zgl hz hd (rk.merge .nil) dd')
section
variable {X:Cx}{pins:List (Addr×Obj)}{σ:St}{H:Hp}{s:Shared}{a:Addr}{y d:V}{u r:Value}{o:Option V}{A:Around}{E:Value->Shared->Prop}
end
section
variable {X:Cx}{o e f:Expr}{apos cpos:Pos}{td ty tx:TE}
end
section
variable {X:Cx}{pins:List (Addr×Obj)}{σ:St}{H:Hp}{s:Shared}{a:Addr}{kvs:List (Z0×V)}{A:Around}{E:Value->Shared->Prop}
end
section
variable {X:Cx}{pins:List (Addr×Obj)}{σ:St}{H:Hp}{s:Shared}{a:Addr}{y:V}{u:Value}{A:Around}{E:Value->Shared->Prop}
end
mutual
inductive Xm (K:PySem.W.Frag) (H:Hp):V->PyData->Prop where
 |non:Xm K H .non .none
 |bl (b:Bool):Xm K H (.bl b) (.bool b)
 |int (i:Int):Xm K H (.int i) (.int i)
 |str (x:Str):Xm K H (.str x) (.str x)
 |lst {a:Addr}{xs:List V}{ds:List PyData} (h:Y0 K H a xs) (r:YX K H xs ds):Xm K H (.ref a) (.list ds)
 |tup {a:Addr}{xs:List V}{ds:List PyData} (h:Wu K H a xs) (r:YX K H xs ds):Xm K H (.ref a) (.tuple ds)
inductive YX (K:PySem.W.Frag) (H:Hp):List V->List PyData->Prop where
 |nil:YX K H [] []
 |cons {x:V}{xs:List V}{d:PyData}{ds:List PyData} (h:Xm K H x d) (r:YX K H xs ds):YX K H (x::xs) (d::ds)
end
section
variable {K:PySem.W.Frag}{H H':Hp}
theorem Same.tup {a:Addr}{xs:List V}(e:Same H H')(h:Wu K H a xs):Wu K H' a xs:=by
 rcases h with (h|⟨o,h⟩)|h
 ·exact .inl (.inl (e _ _ h))
 ·exact .inl (.inr ⟨o,e _ _ h⟩)
 ·exact .inr h
theorem Same.upd {p:Addr}{o:HO}(h:H p=none):Same H (upd H p o):=fun b u e=>by rw[Zw (ZD e h)];exact e
theorem Same.updr {p:Addr}{o:HO}(s:Same H H')(h:H p=none):Same H (L2.upd H' p o):=fun b u e=>by rw[Zw (ZD e h)];exact s b u e
mutual
theorem Xm.mono (s:Same H H'):∀{v:V}{d:PyData},Xm K H v d->Xm K H' v d
 |_,_,.non=>.non
 |_,_,.bl b=>.bl b
 |_,_,.int i=>.int i
 |_,_,.str x=>.str x
 |_,_,.lst h r=>.lst (s.seq h) (YX.mono s r)
 |_,_,.tup h r=>.tup (s.tup h) (YX.mono s r)
theorem YX.mono (s:Same H H'):∀{v:List V}{d:List PyData},YX K H v d->YX K H' v d
 |_,_,.nil=>.nil
 |_,_,.cons h r=>.cons (Xm.mono s h) (YX.mono s r)
end
theorem YX.ints:∀ns:List Int,YX K H (ns.map V.int) (ns.map PyData.int)
 | []=>.nil
 |n::r=>.cons (.int n) (YX.ints r)
end
section
variable {X:Cx}{pins:List (Addr×Obj)}{σ:St}{H:Hp}{s:Shared}
mutual
theorem Inv.reads (I:Inv X pins σ H s):∀{v:V}{d:PyData}{u:Value},Xm X.K H v d->RelV v u->∃as,Reads s.heap u d as
 |_,_,_,.non,r=>by cases (show _=Value.none from r);exact⟨_,.none⟩
 |_,_,_,.bl b,r=>by cases (show _=Value.bool b from r);exact⟨_,.bool b⟩
 |_,_,_,.int i,r=>by obtain⟨t,rfl⟩:=r;exact⟨_,.int i t⟩
 |_,_,_,.str x,r=>by obtain⟨t,rfl⟩:=r;exact⟨_,.str x t⟩
 |_,_,_,.lst (a:=a) h q,r=>by
  cases (show _=Value.ref a from r)
  obtain⟨its,rv,⟨o,n,e,c,_,d⟩,_⟩:=I.list h
  obtain⟨as,ra⟩:=Inv.readsAll I q rv
  exact⟨_,.list e c d (by simpa using ra)⟩
 |_,_,_,.tup (a:=a) h q,r=>by
  cases (show _=Value.ref a from r)
  obtain⟨its,rv,⟨o,e,c,n,d⟩,_⟩:=I.tuple h
  obtain⟨as,ra⟩:=Inv.readsAll I q rv
  exact⟨_,.tuple e c d (by simpa using ra)⟩
theorem Inv.readsAll (I:Inv X pins σ H s):∀{v:List V}{d:List PyData}{u:List Value},YX X.K H v d->ZB v u->∃as,ReadsAll s.heap u d as
 |_,_,_,.nil,r=>by cases r;exact⟨_,.nil⟩
 |_,_,_,.cons h q,r=>by
  cases r with
  |cons r rr=>
   obtain⟨a1,h1⟩:=Inv.reads I h r
   obtain⟨a2,h2⟩:=Inv.readsAll I q rr
   exact⟨_,.cons h1 h2⟩
end
end
section
variable {X:Cx}
theorem Zjg (hu:X.A.units+64<cLine):Jj X (compareOp .Eq) (fun x y H Q=>∃dx dy,Xm X.K H x dx/\Xm X.K H y dy/\SeqAt.shaped dx=true/\SeqAt.shaped dy=true/\Q (.bl (PyData.eqv dx dy)) H):=by
 intro pins s σ H x y v u Q I rx ry ⟨dx,dy,h1,h2,s1,s2,q⟩
 obtain⟨as,r1⟩:=I.reads h1 rx
 obtain⟨bs,r2⟩:=I.reads h2 ry
 exact SeqAt.compareEq_shaped r1 r2 s1 s2 hu ⟨.bl _,H,I,rfl,q⟩
theorem Zfv (hu:X.A.units+64<cLine):Jj X (compareOp .NotEq) (fun x y H Q=>∃dx dy,Xm X.K H x dx/\Xm X.K H y dy/\SeqAt.shaped dx=true/\SeqAt.shaped dy=true/\Q (.bl (!PyData.eqv dx dy)) H):=by
 intro pins s σ H x y v u Q I rx ry ⟨dx,dy,h1,h2,s1,s2,q⟩
 obtain⟨as,r1⟩:=I.reads h1 rx
 obtain⟨bs,r2⟩:=I.reads h2 ry
 exact SeqAt.compareNe_shaped r1 r2 s1 s2 hu ⟨.bl _,H,I,rfl,q⟩
theorem Zgz:ZP X (.builtin "isinstance") (fun xs H Q=>∃x c t b,xs=[x,c]/\JZ X.K H x t/\(∀cv,RelV c cv->PySem.W.kitOne X.K t cv=some b)/\Q (.bl b) H):=by
 intro pins s σ H xs us Q I r h
 obtain⟨x,c,t,b,rfl,ty,e,q⟩:=h
 cases r with
 |cons r1 r=>
  cases r with
  |cons r2 r=>
   cases r
   exact Ub I r1 ty (e _ r2) fun tk=>⟨.bl b,H,I.tok _,rfl,q⟩
theorem ZeH {prog:Program}{w:World}{A:Around}{its:List Value}{bs:List Bool}(r:ZB (bs.map V.bl) its):TruthOf prog w A (fun i v=>its.toArray[i]?=some v) (fun i=>bs.getD i false):=by
 intro i v s Q E hv hq
 rw[List.getElem?_toArray] at hv
 have hi:i<its.length:=(List.getElem?_eq_some_iff.mp hv).1
 have hl:=r.length
 rw[Za] at hl
 have hb:(bs.map V.bl)[i]?=some (.bl (bs.getD i false)):=by
  rw[Zc,Zb,Zf (by omega)];rfl
 obtain⟨u,hu,ru⟩:=r.get hb
 rw[hv] at hu
 cases hu
 cases (show v=Value.bool _ from ru)
 exact wpAny_truthy_bool hq
theorem ZdK {bs:List Bool}:((List.range bs.length).all fun i=>bs.getD i false)=bs.all id:=by
 have:(List.range bs.length).map (fun i=>bs.getD i false)=bs:=by
  apply List.ext_getElem
  ·simp
  ·intro i h1 h2;simp at h1;simp[h1]
 conv=>rhs;rw[<-this,List.all_map]
 rfl
theorem ZdJ {bs:List Bool}:((List.range bs.length).any fun i=>bs.getD i false)=bs.any id:=by
 have:(List.range bs.length).map (fun i=>bs.getD i false)=bs:=by
  apply List.ext_getElem
  ·simp
  ·intro i h1 h2;simp at h1;simp[h1]
 conv=>rhs;rw[<-this,List.any_map]
 rfl
theorem Zbn (hc:X.calm=true):ZP X (.builtin "all") (fun xs H Q=>∃(a:Addr) (bs:List Bool),xs=[.ref a]/\Y0 X.K H a (bs.map V.bl)/\Q (.bl (bs.all id)) H):=by
 intro pins s σ H xs us Q I r h
 obtain⟨a,bs,rfl,hq,q⟩:=h
 obtain⟨u,rfl,ru⟩:=vals1 r
 cases ru
 obtain⟨its,rv,p,hz⟩:=I.list hq
 have hl:=rv.length
 rw[Za] at hl
 refine call_all_walk (wpAny_pyIter_list p.isList ?_)
 have hne:a≠s.heap.objs.size:=by obtain⟨o,n,e,_⟩:=p;exact Nat.ne_of_lt (Zp e)
 refine⟨s.heap.objs.size,_,_,_,_,_,(fun i=>bs.getD i false),rfl,Walks.list (A:=X.A.in1) (I.ok.hd hc) _ a hne its.toArray,⟨⟨_,Zo _ rfl,rfl,rfl⟩,p.isList.push _⟩,ZeH rv,fun h' tk k=>?_⟩
 rw[Zh,<-hl,ZdK]
 refine⟨.bl _,H,I.kept (t':=tk) fun b o e=>k b o ?_ (Zn _ e),rfl,q⟩
 simpa using Nat.ne_of_lt (Zp e)
theorem ZgB (hc:X.calm=true):ZP X (.builtin "any") (fun xs H Q=>∃(a:Addr) (bs:List Bool),xs=[.ref a]/\Y0 X.K H a (bs.map V.bl)/\Q (.bl (bs.any id)) H):=by
 intro pins s σ H xs us Q I r h
 obtain⟨a,bs,rfl,hq,q⟩:=h
 obtain⟨u,rfl,ru⟩:=vals1 r
 cases ru
 obtain⟨its,rv,p,hz⟩:=I.list hq
 have hl:=rv.length
 rw[Za] at hl
 refine call_any_walk (wpAny_pyIter_list p.isList ?_)
 have hne:a≠s.heap.objs.size:=by obtain⟨o,n,e,_⟩:=p;exact Nat.ne_of_lt (Zp e)
 refine⟨s.heap.objs.size,_,_,_,_,_,(fun i=>bs.getD i false),rfl,Walks.list (A:=X.A.in1) (I.ok.hd hc) _ a hne its.toArray,⟨⟨_,Zo _ rfl,rfl,rfl⟩,p.isList.push _⟩,ZeH rv,fun h' tk k=>?_⟩
 rw[Zh,<-hl,ZdJ]
 refine⟨.bl _,H,I.kept (t':=tk) fun b o e=>k b o ?_ (Zn _ e),rfl,q⟩
 simpa using Nat.ne_of_lt (Zp e)
end
theorem ZeG:isSubtype (.type "tuple") (.type "set")=pure false:=by rw[isSubtype_type];kernel_rfl
theorem ZdC:isSubtype (.type "tuple") (.type "frozenset")=pure false:=by rw[isSubtype_type];kernel_rfl
abbrev Yt (ns:List Int)(n:Nat):List Int:=firstMet (fun i=>ns.getD i 0) n
section
variable {prog:Program}{w:World}{A:Around}{E:Value->Shared->Prop}{s:Shared}
end
theorem JT:∀{ns:List Int}{us:List Value},ZB (ns.map V.int) us->IntsAre us ns
 | [],_,.nil=>.nil
 |n::r,_,.cons h t=>by
  obtain⟨k,rfl⟩:=(show ∃t,_=Value.int n t from h)
  exact .cons n k (JT t)
section
variable {X:Cx}
theorem Xz:ZP X (.type "range") (fun xs H Q=>∃j:Int,xs=[.int j]/\∀p,H p=none->Q (.ref p) (upd H p (.rng 0 j))):=by
 intro pins s σ H xs us Q I r h
 obtain⟨j,rfl,q⟩:=h
 obtain⟨u,rfl,ru⟩:=vals1 r
 obtain⟨t,rfl⟩:=ru
 exact call_range_1 ⟨.ref s.heap.objs.size,_,I.laid (a:=s.heap.objs.size) (o:=.rng 0 j) (fun b o e=>Zn _ e) (Zq _) ⟨_,_,_,Zo _ rfl⟩,rfl,q _ (I.hok.fresh (Zq _))⟩
def YG (lo:Int)(n:Nat):List Int:=(List.range n).map fun i:Nat=>lo+(i:Int)
theorem ZaH {lo:Int}{n i:Nat}(h:i<n):(YG lo n)[i]?=some (lo+i):=by unfold YG;rw[Zc,List.getElem?_range h];rfl
theorem YF {lo:Int}{n:Nat}:(YG lo n).length=n:=by unfold YG;rw[Za,Zg]
theorem Zdz {lo:Int}{n:Nat}{acc:Array Value}(h:ItemsOf (fun i v=>∃t,v=.int (lo+i*1) t) acc n):ZB ((YG lo n).map V.int) acc.toList:=by
 have go:∀(l:List Value) (k:Nat),(∀(j:Nat) v,l[j]?=some v->∃t,v=.int (lo+((k+j:Nat):Int)) t)->ZB (((List.range' k l.length).map fun i:Nat=>lo+(i:Int)).map V.int) l:=by
  intro l
  induction l with
  |nil=>intro k _;exact .nil
  |cons x r ih=>
   intro k hk
   rw[Zi,List.range'_succ]
   refine .cons ?_ (ih (k+1) fun j v hv=>?_)
   ·obtain⟨t,e⟩:=hk 0 x rfl
    exact⟨t,e⟩
   ·obtain⟨t,e⟩:=hk (j+1) v hv
    exact⟨t,by rw[e];congr 2;omega⟩
 have e:=go acc.toList 0 fun j v hv=>by
  rw[Array.getElem?_toList] at hv
  obtain⟨t,e⟩:=h.2 j v hv
  exact⟨t,by rw[e];congr 1 <;> omega⟩
 rw[Zr,h.1] at e
 unfold YG
 rw[List.range_eq_range']
 exact e
end
def Wc:List Str->Bool
 | []=>true
 |x::r=>!(r.contains x) && Wc r
theorem Yj:∀{l:List Str},Wc l=true->l.Nodup
 | [],_=>List.nodup_nil
 |x::r,h=>by
  unfold Wc at h
  simp only[Bool.and_eq_true,Bool.not_eq_true'] at h
  refine List.nodup_cons.mpr ⟨fun z=>?_,Yj h.2⟩
  have:=List.contains_iff_mem.mpr z
  rw[h.1] at this;cases this
def Uc (sc:Scope)(x:Str):Bool:=match sc.names.lookup x with
 |some .local=>true
 |some .cell=>true
 |_=>false
theorem Vk {sc:Scope}{x:Str}(h:Uc sc x=true):Loc sc x:=by
 unfold Uc at h
 split at h
 ·rename_i e;exact .inl e
 ·rename_i e;exact .inr e
 ·cases h
def WB (sc:Scope)(x:Str):Bool:=match sc.names.lookup x with
 |some .local=>true
 |_=>false
theorem YB {sc:Scope}{x:Str}(h:WB sc x=true):sc.names.lookup x=some .local:=by
 unfold WB at h
 split at h
 ·rename_i e;exact e
 ·cases h
def ZfY (sc:Scope)(x:Str):Bool:=match sc.names.lookup x with
 |some .local=>true
 |some .cell=>true
 |some .free=>true
 |_=>false
theorem ZfX {sc:Scope}{x:Str}(h:ZfY sc x=true):Vis sc x:=by
 unfold ZfY at h
 split at h
 ·rename_i e;exact .inl e
 ·rename_i e;exact .inr (.inl e)
 ·rename_i e;exact .inr (.inr e)
 ·cases h
def YL (sc:Scope)(x:Str):Bool:=match sc.names.lookup x with
 |some .globalImplicit=>true
 |_=>false
def YK:Expr->Bool
 | .Starred _ _=>false
 |_=>true
theorem Wh {e:Expr}{es:List Expr}{env:Env}(h:YK e=true):starEach (e::es) env=(false,eval e env)::starEach es env:=by cases e <;> first|rfl|cases h
def Ja:List Expr->Bool
 | []=>true
 |e::r=>YK e && Ja r
theorem Wa {env:Env}{pos:Pos}:∀{es:List Expr},Ja es=true->(backTo pos (starEach es env)).any (·.1)=false
 | [],_=>rfl
 |e::r,h=>by
  unfold Ja at h
  rw[Bool.and_eq_true] at h
  rw[Wh h.1]
  exact Wa h.2
section
variable {X:Cx}
theorem pc {e:Expr}{es:List Expr}{te:TE}{t:TA}(ha:PE X e te)(hr:PA X es t)(hs:YK e=true:=by rfl):PA X (e::es) (Zau te t):=Zhh ha hr (Wh hs)
theorem WT {x:Str}(h:YL X.env.scope x=true):Gl X x:=by
 unfold YL at h
 split at h
 ·rename_i e;exact e
 ·cases h
theorem vn (i:Nat){x:Str}{pos:Pos}(hN:X.N[i]?=some x:=by rfl)(hv:ZfY X.env.scope x=true:=by kernel_rfl)(hd:(x == ("__debug__":Str))=false:=by kernel_rfl)(hcd:(x == ("__classdict__":Str))=false:=by kernel_rfl) :
  PE X (.Name x pos) (ZgR i):=Zi4 hN (ZfX hv) hd hcd
theorem gn (i:Nat){x:Str}{pos:Pos}(hi:X.N[i]?=some x:=by rfl)(hN:Wc X.N=true:=by kernel_rfl)(hx:WB X.env.scope x=true:=by kernel_rfl):PG X (.Name x pos) (Yl i):=
 ZcU (Yj hN) hi (.inl (YB hx)) (.inr (YB hx))
theorem gnf (i:Nat){x:Str}{pos:Pos}(hf:X.fn x=true)(hi:X.N[i]?=some x:=by rfl)(hN:Wc X.N=true:=by kernel_rfl)(hx:Uc X.env.scope x=true:=by kernel_rfl):PG X (.Name x pos) (Yl i):=
 ZcU (Yj hN) hi (Vk hx) (.inl hf)
theorem ZR (i:Nat){x:Str}{e:Expr}{te:TE}{pos pos':Pos}(hf:X.fn x=true)(he:PE X e te)(hi:X.N[i]?=some x:=by rfl)(hN:Wc X.N=true:=by kernel_rfl)(hx:Uc X.env.scope x=true:=by kernel_rfl)
  (hs:swapsWith e (some (.Name x pos')) pos.line X.env=pure false:=by rfl):PS X (.Assign [.Name x pos'] e pos) (ZbD te (Yl i)):=
 ZiZ (Yj hN) hi (Vk hx) he hs (.inl hf)
theorem cb {x:Str}{id:String}{r:List V->Hp->VK->Prop}{e:Expr}{es:List Expr}{t:TA}{p pos:Pos}(hc:ZP X (.builtin id) r)(hm:X.mg x=none)(ha:PA X (e::es) t)(hg:YL X.env.scope x=true:=by kernel_rfl)(hv:bootBuiltins x=some (.builtin id):=by kernel_rfl)
  (hn:x ≠ "__name__":=by decide) (hd:(x == ("__debug__":Str))=false:=by kernel_rfl) (he:YK e=true:=by rfl) (hpl:Ja es=true:=by rfl) :
  PE X (.Call (.Name x p) (e::es) [] pos) (tCB r t):=Zfm hc (WT hg) hm hv ha hn hd (Wh he) (Wa hpl)
theorem ct {x:Str}{T:String}{r:List V->Hp->VK->Prop}{e:Expr}{es:List Expr}{t:TA}{p pos:Pos}(hc:ZP X (.type T) r)(hm:X.mg x=none)(ha:PA X (e::es) t)(hg:YL X.env.scope x=true:=by kernel_rfl)(hv:bootBuiltins x=some (.type T):=by kernel_rfl)
  (hn:x ≠ "__name__":=by decide) (hd:(x == ("__debug__":Str))=false:=by kernel_rfl) (he:YK e=true:=by rfl) (hpl:Ja es=true:=by rfl) :
  PE X (.Call (.Name x p) (e::es) [] pos) (tCB r t):=ZdP hc (WT hg) hm hv ha hn hd (Wh he) (Wa hpl)
theorem tyv (T:String){x:Str}{pos:Pos}(hm:X.mg x=none)(hg:YL X.env.scope x=true:=by kernel_rfl)(hv:bootBuiltins x=some (.type T):=by kernel_rfl)(hn:x ≠ "__name__":=by decide)(hd:(x == ("__debug__":Str))=false:=by kernel_rfl) :
  PE X (.Name x pos) (tC (.ty T)):=Zhe (WT hg) hm hv rfl hn hd
theorem Zl0 {x:Str}{i:Int}{t:Tok}{pos:Pos}(hm:X.mg x=some (.int i t))(hg:YL X.env.scope x=true:=by kernel_rfl)(hd:(x == ("__debug__":Str))=false:=by kernel_rfl):PE X (.Name x pos) (tC (.int i)):=ZcV (WT hg) hm ⟨t,rfl⟩ hd
theorem JJ {tg a:Expr}{ta:TA}{p pos:Pos}(hm:X.mg "range"=none)(ha:PA X [a] ta)(hg:YL X.env.scope "range"=true:=by kernel_rfl)(hs:starEach [a] X.env=[(false,eval a X.env)]:=by rfl):PI X tg (.Call (.Name "range" p) [a] [] pos) (Ziu ta):=ZdO (WT hg) hm ha hs
end
def Fn (P:Program)(w:World)(K:PySem.W.Frag)(mg:Str->Option Value)(base:Heap)(CX:XO)(k:Nat)(x:Str)(ps:List Str)(sp:Sp):Prop:=
 ∃f fd,ZQ P w K mg base CX k f fd ps sp/\mg x=some (.ref f)/\PySem.W.keepIn K (.ref f)=true/\Binds K fd ps []
section
variable {X:Cx}
theorem We {CX:XO}{k j:Nat}{x:Str}{ps:List Str}{sp:Sp}{E:XK}{e:Expr}{es:List Expr}{t:TA}{p pos:Pos}(G:Fn X.prog X.w X.K X.mg X.base CX k x ps sp)(hr:Y7 j X.A)(hx:W7 CX X E)(ha:PA X (e::es) t)(hk:k<=j:=by decide)
  (hg:YL X.env.scope x=true:=by kernel_rfl) (hd:(x == ("__debug__":Str))=false:=by kernel_rfl) (he:YK e=true:=by rfl) (hpl:Ja es=true:=by rfl) :
  PE X (.Call (.Name x p) (e::es) [] pos) (Zh6 sp [] E t):=by
 obtain⟨f,fd,F,hm,kp,b⟩:=G
 exact Zhd F (hr.mono hk) (WT hg) hm kp b .nil hx ha hd (Wh he) (Wa hpl)
end
theorem Fn.mk {P:Program}{w:World}{K:PySem.W.Frag}{mg:Str->Option Value}{base h:Heap}{CX:XO}{k:Nat}{x:Str}{ps:List Str}{sp:Sp}{st:Stmt}{f:Addr}{oc:Value}{od an:Option Addr}{osl:Array (Option Value)}{kV doc pm cdv ct:Value}(X:K.In h)(G:h.Ns mainGlobals mg)
  (a:PySem.W.nsIn K mainGlobals x=some (some (.ref f))) (l:K.lookup f=some ⟨oc,od,.func (PySem.W.fnOf x x (Yq st) (ZX st) (ZH st) .none kV doc pm an cdv ct),osl⟩) (c:PySem.W.codeIn K cdv x=true) (kp:PySem.W.keepIn K (.ref f)=true)
  (hok:∀fd,Wf K x x st f fd->ZQ P w K mg base CX k f fd ps sp)
  (hb:∀(kV doc pm:Value) (an:Option Addr) (cdv ct:Value) (us:List Value),us.length=ps.length->bindArgs (PySem.W.fnOf x x (Yq st) (ZX st) (ZH st) .none kV doc pm an cdv ct) ⟨us,[]⟩=pure (ps.zip us)) :
  Fn P w K mg base CX k x ps sp:=
 ⟨f,_,hok _ (Zcc l c kp),PySem.W.mg_of X G a,kp,(Zcc l c kp).binds hb⟩
def ZjB (n T:String):Bool:=n == T || (n == "bool" && T == "int")
def Zb8:List String:=["NoneType", "bool", "int", "str", "list", "tuple", "dict"]
theorem ZkX {K:PySem.W.Frag}{n T:String}(hn:n∈Zb8)(hT:T∈["int", "bool", "tuple", "list", "str"]):PySem.W.kitOne K (.type n) (.type T)=some (ZjB n T):=by
 simp only[Zb8,List.mem_cons,List.mem_singleton,List.not_mem_nil,or_false] at hn hT
 rcases hn with rfl|rfl|rfl|rfl|rfl|rfl|rfl <;> rcases hT with rfl|rfl|rfl|rfl|rfl <;> kernel_rfl
def Kd (K:PySem.W.Frag)(H:Hp)(x:V)(n:String):Prop:=JZ K H x (.type n)/\n∈Zb8
def ZkD (K:PySem.W.Frag)(T:String):List V->Hp->VK->Prop:=fun xs H Q=>∃x n,xs=[x,.ty T]/\Kd K H x n/\Q (.bl (ZjB n T)) H
theorem ZgA {X:Cx}{T:String}(hT:T∈["int", "bool", "tuple", "list", "str"]):ZP X (.builtin "isinstance") (ZkD X.K T):=by
 intro pins s σ H xs us Q I r h
 obtain⟨x,n,rfl,⟨ty,hn⟩,q⟩:=h
 refine Zgz pins s σ H _ us Q I r ⟨x,.ty T,.type n,ZjB n T,rfl,ty,fun cv rc=>?_,q⟩
 cases (show cv=Value.type T from rc)
 exact ZkX hn hT
section
variable {X:Cx}
theorem Wn (K:PySem.W.Frag)(hK:X.K=K:=by rfl):IxR X (ZkB K):=hK▸Zjy
theorem ixL (K:PySem.W.Frag)(hK:X.K=K:=by rfl):IxR X (ZkC K):=hK▸ZhI
theorem ZjA (K:PySem.W.Frag)(T:String)(hT:T∈["int", "bool", "tuple", "list", "str"]:=by decide)(hK:X.K=K:=by rfl):ZP X (.builtin "isinstance") (ZkD K T):=hK▸ZgA hT
theorem ZkR (K:PySem.W.Frag)(hK:X.K=K:=by rfl):Jj X (compareOp .NotIn) (rIn K true):=hK▸UU
def ZlO (K:PySem.W.Frag):List V->Hp->VK->Prop:=fun xs H Q=>∃p ys,xs=[.ref p]/\(Y0 K H p ys\/Wu K H p ys)/\Q (.int ys.length) H
theorem YA (K:PySem.W.Frag)(hK:X.K=K:=by rfl):ZP X (.builtin "len") (ZlO K):=hK▸Zag
theorem itT (K:PySem.W.Frag){tg l:Expr}{tl:TE}(hl:PE X l tl)(hK:X.K=K:=by rfl):PI X tg l (ZkZ K tl):=hK▸Zi1 hl
theorem itL (K:PySem.W.Frag){tg l:Expr}{tl:TE}(hl:PE X l tl)(hK:X.K=K:=by rfl):PI X tg l (Ziv K tl):=hK▸Zg8 hl
end
def Zae (N:List Str)(esc:Scope)(own:List Str)(caps:List Nat)(N':List Str)(sc:Scope):Bool:=
 (sc.kind == .function) && Wc (sc.names.map (·.1)) && sc.names.all (fun y=>y.2 != .local || WB sc y.1) && Wc N' && decide (N'=own++caps.map fun j=>N.getD j "") &&
  caps.all (fun j=>decide (j<N.length) && (match sc.names.lookup (N.getD j "") with|some .free=>true|_=>false)) &&
  sc.names.all (fun y=>y.2 != .free || (match esc.names.lookup y.1 with|some .cell=>true|some .free=>true|_=>false))
theorem Wt.of {N:List Str}{esc:Scope}{own:List Str}{caps:List Nat}{N':List Str}{sc:Scope}(h:Zae N esc own caps N' sc=true):Wt N esc own caps N' sc:=by
 unfold Zae at h
 simp only[Bool.and_eq_true,List.all_eq_true,decide_eq_true_eq,beq_iff_eq,bne_iff_ne,ne_eq,Bool.or_eq_true] at h
 obtain⟨⟨⟨⟨⟨⟨h1,h2⟩,h3⟩,h4⟩,h5⟩,h6⟩,h7⟩:=h
 refine⟨h1,Yj h2,fun y hy e=>?_,Yj h4,h5,fun j hj=>⟨(h6 j hj).1,?_⟩,fun y hy e=>?_⟩
 ·rcases h3 y hy with z|z
  ·exact absurd e z
  ·exact YB z
 ·have:=(h6 j hj).2
  split at this
  ·rename_i z;exact z
  ·cases this
 ·rcases h7 y hy with z|z
  ·exact absurd e z
  ·split at z
   ·rename_i q;exact .inl q
   ·rename_i q;exact .inr q
   ·cases z
theorem cmp {X:Cx}(own:List Str)(caps:List Nat)(N':List Str){scope:Scope}{elt iter tg:Expr}{ifs:List Expr}{pos:Pos}{wi:TI}{g:TG}{tc:TT}{te:TE}(hc:X.calm=true)(hi:PI X tg iter wi)
  (hg:∀cl C s H ex,PG (Ye X scope cl N' C s H ex) tg g) (ht:∀cl C s H ex,PIf (Ye X scope cl N' C s H ex) ifs tc) (he:∀cl C s H ex,PE (Ye X scope cl N' C s H ex) elt te)
  (hS:Zae X.N X.env.scope own caps N' scope=true:=by kernel_rfl) (hs:∀x,foldedSetIterable iter X.env x=pure x:=by intro _;rfl) :
  PE X (.ListComp elt [⟨tg,iter,ifs,0⟩] scope pos) (Zcv own caps wi g tc te):=Zhc rfl (.of hS) hc hi hg ht he hs
section
variable {X:Cx}
end
theorem Jy {c:TT}{tb:TS}{D:Ws}{σ:St}{H:Hp}(Pv:Nat->St->Hp->Prop)(Ex:St->Hp->Prop)(hend:∀ σ H,Ex σ H->D.nx σ H)(h0:∃m,Pv m σ H)
  (turn:(∀ σ H,Ex σ H->D.nx σ H)->∀m σ H,Pv m σ H->c σ H fun b H1=>if b=true then ∃N:St->Hp->Prop,(∀ σ' H',N σ' H'->∃m',m'<m/\Pv m' σ' H')/\tb {D with nx:=N,ct:=N,bk:=D.nx} σ H1 else D.nx σ H1) :
  ZeK c tb D σ H:=⟨Pv,h0,turn hend⟩
structure Wq (J:It)(H:Hp)(xs:List V):Prop where
 go:∀(i:Nat) H',Same H H'->i<xs.length->J.go i H'
 yld:∀(i:Nat) H' x H2,Same H H'->i<xs.length->J.yld i H' x H2->H2=H'/\xs[i]?=some x
 stop:∀H',Same H H'->J.stop xs.length H'
theorem Wq.mono {J:It}{H H':Hp}{xs:List V}(s:Same H H')(S:Wq J H xs):Wq J H' xs:=
 ⟨fun i H2 e=>S.go i H2 (s.trans e),fun i H2 x H3 e=>S.yld i H2 x H3 (s.trans e),fun H2 e=>S.stop H2 (s.trans e)⟩
theorem Ym {K:PySem.W.Frag}{H:Hp}{a:Addr}{xs:List V}(h:Wu K H a xs):Wq (Itt K a) H xs:=
 ⟨fun i H' s hi=>⟨xs,_,s.tup h,Zf hi⟩,fun i H' x H2 s _ y=>⟨y.1,y.2 xs (s.tup h)⟩,fun H' s=>⟨xs,s.tup h,Zq _⟩⟩
theorem Y8 {K:PySem.W.Frag}{H:Hp}{a:Addr}{xs:List V}(h:Y0 K H a xs):Wq (Itl K a) H xs:=
 ⟨fun i H' s hi=>⟨xs,_,s.seq h,Zf hi⟩,fun i H' x H2 s _ y=>⟨y.1,y.2 xs (s.seq h)⟩,fun H' s=>⟨xs,s.seq h,Zq _⟩⟩
theorem JG {H:Hp}(lo:Int)(n:Nat):Wq (Itr lo n) H ((YG lo n).map V.int):=by
 have hl:((YG lo n).map V.int).length=n:=by rw[Za,YF]
 refine⟨fun i H' s hi=>by rw[hl] at hi;exact hi,fun i H' x H2 s hi y=>?_,fun H' s=>by show n<=_;rw[hl];exact Zq _⟩
 rw[hl] at hi
 exact⟨y.1,by rw[y.2,Zc,ZaH hi];rfl⟩
theorem Zbi {J:It}{own:List Str}{caps:List Nat}{g:TG}{tc:TT}{te:TE}{σ:St}{H:Hp}{Q:VK}{xs:List V}(S:Wq J H xs)(cs:St)(hcs:XE own caps σ=none::cs)(f:V->Option V)(hz:xs.length<=1000000)
  (hs:∀(i:Nat) x v0 H',xs[i]?=some x->Same H H'->∀(R:St->V->Hp->Prop) (R':St->Hp->Prop),(∀v H5,f x=some v->Same H' H5->R (some x::cs) v H5)->(∀H4,f x=none->Same H' H4->R' (some x::cs) H4)->
   g x (v0::cs) H' fun σ3 H3=>tc σ3 H3 fun b H4=>if b=true then te σ3 H4 (R σ3) else R' σ3 H4)
  (hd:∀D H',H D=none->Same H H'->H' D=some (.lst (xs.filterMap f))->Q (.ref D) H') :
  J3 own caps g tc te σ Q J H:=by
 intro D hD
 refine⟨fun i m σ' H'=>m=xs.length-i/\i<=xs.length/\(∃v0,σ'=v0::cs)/\Same H H'/\H' D=some (.lst ((xs.take i).filterMap f)),⟨_,rfl,Nat.zero_le _,⟨none,hcs⟩,Same.upd hD,by rw[Zt,List.take_zero];rfl⟩,?_⟩
 rintro i m σ' H' ⟨rfl,hi,⟨v0,rfl⟩,s,hl⟩
 by_cases hlt:i<xs.length
 ·refine .inr ⟨S.go i H' s hlt,_,fun σ2 H2 z=>z,fun x H2 y=>?_⟩
  obtain⟨rfl,hx⟩:=S.yld i H' x H2 s hlt y
  have ht:xs.take (i+1)=xs.take i++[x]:=by rw[List.take_add_one,hx];rfl
  have hlen:((xs.take i).filterMap f).length<=i:=Nat.le_trans (List.length_filterMap_le _ _) (by rw[List.length_take];omega)
  refine hs i x v0 H2 hx s _ _ (fun v H5 e s5=>?_) (fun H4 e s4=>?_)
  ·refine⟨_,s5 _ _ hl,?_,xs.length-(i+1),by omega,rfl,hlt,⟨_,rfl⟩,(s.trans s5).updr hD,?_⟩
   ·have:(16777216:Nat)=sizeLine:=by decide
    omega
   ·rw[Zt,ht,List.filterMap_append,List.filterMap_cons,e];rfl
  ·refine⟨xs.length-(i+1),by omega,rfl,hlt,⟨_,rfl⟩,s.trans s4,?_⟩
   rw[s4 _ _ hl,ht,List.filterMap_append,List.filterMap_cons,e]
   simp
 ·have e:i=xs.length:=by omega
  subst e
  refine .inl ⟨S.stop H' s,hd D H' hD s ?_⟩
  rw[hl,List.take_length]
theorem Je {J:It}{g:TG}{tb:TS}{D:Ws}{σ:St}{H0 H:Hp}{xs:List V}(S:Wq J H0 xs)(Pv:Nat->St->Hp->Prop)(h0:Pv 0 σ H)(hS:∀i σ H,Pv i σ H->Same H0 H)
  (hs:∀(i:Nat) x σ H,xs[i]?=some x->Pv i σ H->g x σ H fun σ2 H2=>tb {D with nx:=Pv (i+1),ct:=Pv (i+1),bk:=D.nx} σ2 H2) (hd:∀ σ H,Pv xs.length σ H->D.nx σ H) :
  ∃W:Nat->Nat->St->Hp->Prop,(∃m,W 0 m σ H)/\∀i m σ H,W i m σ H->
   (J.stop i H/\D.nx σ H)\/(J.go i H/\∃N:St->Hp->Prop,(∀ σ' H',N σ' H'->∃m',m'<m/\W (i+1) m' σ' H')/\∀x H',J.yld i H x H'->g x σ H' fun σ2 H2=>tb {D with nx:=N,ct:=N,bk:=D.nx} σ2 H2):=by
 refine⟨fun i m σ H=>m=xs.length-i/\i<=xs.length/\Pv i σ H,⟨_,rfl,Nat.zero_le _,h0⟩,?_⟩
 rintro i m σ H ⟨rfl,hi,p⟩
 have s:=hS i σ H p
 by_cases hlt:i<xs.length
 ·refine .inr ⟨S.go i H s hlt,Pv (i+1),fun σ' H' p'=>⟨xs.length-(i+1),by omega,rfl,hlt,p'⟩,fun x H' y=>?_⟩
  obtain⟨rfl,hx⟩:=S.yld i H x H' s hlt y
  exact hs i x σ _ hx p
 ·have e:i=xs.length:=by omega
  subst e
  exact .inl ⟨S.stop H s,hd σ H p⟩
theorem tT {A B:Hp->Prop}{σ:St}{H:Hp}(h:A H):Jl σ H fun b H4=>if b=true then A H4 else B H4:=by
 show if true=true then A H else B H
 rw[if_pos rfl];exact h
theorem Zdh {α β:Type}(g:α->β):∀xs:List α,xs.filterMap (fun y=>some (g y))=xs.map g
 | []=>rfl
 |x::r=>by rw[List.filterMap_cons,List.map_cons,Zdh g r]
theorem Ziy {α β:Type}(p:α->Bool)(g:α->β):∀xs:List α,xs.filterMap (fun y=>if p y=true then some (g y) else none)=(xs.filter p).map g
 | []=>rfl
 |x::r=>by
  rw[List.filterMap_cons,List.filter_cons,Ziy p g r]
  by_cases h:p x=true
  ·rw[if_pos h,if_pos h];rfl
  ·rw[if_neg h,if_neg h]
theorem Xe {c A B:Prop} [Decidable c](hc:c)(h:A):if c then A else B:=by rw[if_pos hc];exact h
theorem YI {c A B:Prop} [Decidable c](hc:¬c)(h:B):if c then A else B:=by rw[if_neg hc];exact h
theorem Yr {J:It}{own:List Str}{caps:List Nat}{te:TE}{σ:St}{H:Hp}{Q:VK}{xs:List V}(S:Wq J H xs)(cs:St)(hcs:XE own caps σ=none::cs)(f:V->V)(hz:xs.length<=1000000)
  (hs:∀(i:Nat) x H',xs[i]?=some x->Same H H'->∀R:VK,(∀H5,Same H' H5->R (f x) H5)->te (some x::cs) H' R)
  (hd:∀D H',H D=none->Same H H'->H' D=some (.lst (xs.map f))->Q (.ref D) H'):J3 own caps (Yl 0) Jl te σ Q J H:=by
 refine Zbi S cs hcs (fun x=>some (f x)) hz (fun i x v0 H' hx s R R' h1 h2=>?_) fun D H' hD s hl=>hd D H' hD s (by rw[hl,Zdh])
 show Jl (some x::cs) H' fun b H4=>if b=true then te (some x::cs) H4 (R (some x::cs)) else R' (some x::cs) H4
 exact tT (A:=fun H4=>te (some x::cs) H4 (R (some x::cs))) (hs i x H' hx s _ fun H5 s5=>h1 _ H5 rfl s5)
theorem Uj {J:It}{own:List Str}{caps:List Nat}{tc:TT}{te:TE}{σ:St}{H:Hp}{Q:VK}{xs:List V}(S:Wq J H xs)(cs:St)(hcs:XE own caps σ=none::cs)(p:V->Bool)(f:V->V)(hz:xs.length<=1000000)
  (hs:∀(i:Nat) x H',xs[i]?=some x->Same H H'->∀(R:VK) (R':Hp->Prop),(p x=true->∀H5,Same H' H5->R (f x) H5)->(p x=false->∀H4,Same H' H4->R' H4)->tc (some x::cs) H' fun b H4=>if b=true then te (some x::cs) H4 R else R' H4)
  (hd:∀D H',H D=none->Same H H'->H' D=some (.lst ((xs.filter p).map f))->Q (.ref D) H'):J3 own caps (Yl 0) tc te σ Q J H:=by
 refine Zbi S cs hcs (fun x=>if p x=true then some (f x) else none) hz (fun i x v0 H' hx s R R' h1 h2=>?_) fun D H' hD s hl=>hd D H' hD s (by rw[hl,Ziy])
 exact hs i x H' hx s (R (some x::cs)) (R' (some x::cs)) (fun e H5 s5=>h1 _ H5 (by rw[if_pos e]) s5) fun e H4 s4=>h2 H4 (by rw[if_neg (by rw[e];decide)]) s4
def Zy (K:PySem.W.Frag)(x:Str)(st:Stmt):Prop:=
 ∃(f:Addr) (oc:Value) (od an:Option Addr) (osl:Array (Option Value)) (kV doc pm cdv ct:Value),PySem.W.nsIn K mainGlobals x=some (some (.ref f))/\
  K.lookup f=some ⟨oc,od,.func (PySem.W.fnOf x x (Yq st) (ZX st) (ZH st) .none kV doc pm an cdv ct),osl⟩/\PySem.W.codeIn K cdv x=true/\PySem.W.keepIn K (.ref f)=true
theorem Zy.mk {K:PySem.W.Frag}{x:Str}{st:Stmt}{f:Addr}{oc:Value}{od an:Option Addr}{osl:Array (Option Value)}{kV doc pm cdv ct:Value}(a:PySem.W.nsIn K mainGlobals x=some (some (.ref f)))
  (l:K.lookup f=some ⟨oc,od,.func (PySem.W.fnOf x x (Yq st) (ZX st) (ZH st) .none kV doc pm an cdv ct),osl⟩) (c:PySem.W.codeIn K cdv x=true) (k:PySem.W.keepIn K (.ref f)=true):Zy K x st:=
 ⟨f,oc,od,an,osl,kV,doc,pm,cdv,ct,a,l,c,k⟩
theorem Zy.fn {P:Program}{w:World}{K:PySem.W.Frag}{mg:Str->Option Value}{base h:Heap}{CX:XO}{k:Nat}{x:Str}{ps:List Str}{sp:Sp}{st:Stmt}(D:Zy K x st)(X:K.In h)(G:h.Ns mainGlobals mg)
  (hok:∀f fd,Wf K x x st f fd->ZQ P w K mg base CX k f fd ps sp)
  (hb:∀(kV doc pm:Value) (an:Option Addr) (cdv ct:Value) (us:List Value),us.length=ps.length->bindArgs (PySem.W.fnOf x x (Yq st) (ZX st) (ZH st) .none kV doc pm an cdv ct) ⟨us,[]⟩=pure (ps.zip us)) :
  Fn P w K mg base CX k x ps sp:=by
 obtain⟨f,oc,od,an,osl,kV,doc,pm,cdv,ct,a,l,c,kp⟩:=D
 exact Fn.mk X G a l c kp (fun fd F=>hok f fd F) hb
theorem Yy (val:Nat->Int):∀i,(firstMet val i).Nodup
 |0=>List.nodup_nil
 |i+1=>by
  have ih:=Yy val i
  rw[firstMet_succ]
  unfold step_dedup
  split
  ·exact ih
  ·rename_i h
   refine List.nodup_append.mpr ⟨ih,List.nodup_cons.mpr ⟨by simp,List.nodup_nil⟩,?_⟩
   intro a ha b hb e
   rw[List.mem_singleton.mp hb] at e
   apply h
   first
    |exact List.any_eq_true.mpr ⟨a,ha,by simp[e]⟩
    |simpa [e] using ha
theorem Zc6 (val:Nat->Int)(i:Nat)(k:Int):k∈firstMet val i↔∃j,j<i/\val j=k:=by
 have h:=firstMet_any val i k
 constructor
 ·intro hk
  have:(firstMet val i).any (· == k)=true:=List.any_eq_true.mpr ⟨k,hk,by simp⟩
  rw[h] at this
  obtain⟨x,hx,e⟩:=List.any_eq_true.mp this
  obtain⟨j,hj,rfl⟩:=List.mem_map.mp hx
  exact⟨j,List.mem_range.mp hj,by simpa using e⟩
 ·rintro⟨j,hj,rfl⟩
  have:((List.range i).map val).any (· == val j)=true:=List.any_eq_true.mpr ⟨val j,List.mem_map.mpr ⟨j,List.mem_range.mpr hj,rfl⟩,by simp⟩
  rw[<-h] at this
  obtain⟨x,hx,e⟩:=List.any_eq_true.mp this
  have:x=val j:=by simpa using e
  exact this▸hx
section
variable {X:Cx}
end
theorem gT {te:TE}{N:St->Hp->Prop}{Kt:St->V->Hp->Prop}{x:V}{v0:Option V}{cs:St}{H:Hp}(h:te (some x::cs) H (Kt (some x::cs))):Yl 0 x (v0::cs) H fun σ3 H3=>Jl σ3 H3 fun b H4=>if b=true then te σ3 H4 (Kt σ3) else N σ3 H4:=by
 show if true=true then te (some x::cs) H (Kt (some x::cs)) else N (some x::cs) H
 rw[if_pos rfl];exact h
theorem Vt {J:It}{own:List Str}{caps:List Nat}{te:TE}{σ:St}{H:Hp}{Q:VK}{xs:List V}(G:Addr->Nat->List V->Hp->Prop)(cs:St)(hcs:XE own caps σ=none::cs)(hz:xs.length<=1000000)
  (S:∀D i ys H',H D=none->H' D=some (.lst ys)->G D i ys H'->(i<xs.length->J.go i H'/\∀x H2,J.yld i H' x H2->H2=H'/\xs[i]?=some x)/\(i=xs.length->J.stop i H'))
  (h0:∀D,H D=none->G D 0 [] (upd H D (.lst [])))
  (hs:∀D (i:Nat) x ys H',H D=none->H' D=some (.lst ys)->xs[i]?=some x->G D i ys H'->∀R:VK,(∀v H5,H5 D=some (.lst ys)->G D (i+1) (ys++[v]) (upd H5 D (.lst (ys++[v])))->R v H5)->te (some x::cs) H' R)
  (hd:∀D ys H',H D=none->H' D=some (.lst ys)->ys.length=xs.length->G D xs.length ys H'->Q (.ref D) H'):J3 own caps (Yl 0) Jl te σ Q J H:=by
 intro D hD
 refine⟨fun i m σ' H'=>m=xs.length-i/\i<=xs.length/\(∃v0,σ'=v0::cs)/\∃ys,H' D=some (.lst ys)/\ys.length=i/\G D i ys H',⟨_,rfl,Nat.zero_le _,⟨none,hcs⟩,[],Zt,rfl,h0 D hD⟩,?_⟩
 rintro i m σ' H' ⟨rfl,hi,⟨v0,rfl⟩,ys,hl,hy,g⟩
 obtain⟨S1,S2⟩:=S D i ys H' hD hl g
 by_cases hlt:i<xs.length
 ·refine .inr ⟨(S1 hlt).1,_,fun σ2 H2 z=>z,fun x H2 y=>?_⟩
  obtain⟨rfl,hx⟩:=(S1 hlt).2 x H2 y
  refine gT ?_
  refine hs D i x ys H2 hD hl hx g _ fun v H5 h5 g5=>⟨ys,h5,?_,xs.length-(i+1),by omega,rfl,hlt,⟨_,rfl⟩,ys++[v],Zt,by rw[Zd];simp[hy],g5⟩
  have:(16777216:Nat)=sizeLine:=by decide
  omega
 ·have e:i=xs.length:=by omega
  exact .inl ⟨S2 e,hd D ys H' hD hl (by omega) (e▸g)⟩
theorem ZlK {X:Cx}(i:Nat)(own:List Str)(caps:List Nat)(N':List Str){scope:Scope}{elt iter tg:Expr}{ifs:List Expr}{pos spos py:Pos}{y:Str}{wi:TI}{g:TG}{tc:TT}{te:TE}(hc:X.calm=true)(hf:X.fn y=true)(hi:PI X tg iter wi)
  (hg:∀cl C s H ex,PG (Ye X scope cl N' C s H ex) tg g) (ht:∀cl C s H ex,PIf (Ye X scope cl N' C s H ex) ifs tc) (he:∀cl C s H ex,PE (Ye X scope cl N' C s H ex) elt te)
  (hS:Zae X.N X.env.scope own caps N' scope=true:=by kernel_rfl) (hy:X.N[i]?=some y:=by rfl) (hN:Wc X.N=true:=by kernel_rfl) (hx:Uc X.env.scope y=true:=by kernel_rfl)
  (hsw:swapsWith (.ListComp elt [⟨tg,iter,ifs,0⟩] scope pos) (some (.Name y py)) spos.line X.env=pure true:=by rfl) (hs:∀x,foldedSetIterable iter X.env x=pure x:=by intro _;rfl) :
  PS X (.Assign [.Name y py] (.ListComp elt [⟨tg,iter,ifs,0⟩] scope pos) spos) (ZbD (Zcv own caps wi g tc te) (Yl i)):=ZbV rfl (.of hS) hc hi hg ht he (Yj hN) hy (Vk hx) (.inl hf) hsw hs
end L2
namespace HT
open PySem PyProof.Rows
section
variable {prog:Program}{w:World}{A:Around}{E:Value->Shared->Prop}{s:Shared}
end
end HT
namespace L2
open PySem PySem.Spec PyProof.Rows
section
variable {X:Cx}{e:Expr}{te ts:TE}{st:Expr}{pos p2:Pos}
end
end L2
namespace HT
open PySem PyProof.Rows
section
variable {prog:Program}{w:World}{A:Around}{E:Value->Shared->Prop}{s:Shared}
end
end HT
namespace L2
open PySem PySem.Spec PyProof.Rows
section
variable {X:Cx}
end
end L2
namespace PyS
open PySem PySem.SetTable
def WG (p:Array Nat):Prop:=p.toList.Pairwise (· < ·)
theorem WG.lt {p:Array Nat}(h:WG p){i j:Nat}{x y:Nat}(hij:i<j)(hi:p[i]?=some x)(hj:p[j]?=some y):x<y:=by
 rw[<-Array.getElem?_toList] at hi hj
 obtain⟨li,rfl⟩:=List.getElem?_eq_some_iff.mp hi
 obtain⟨lj,rfl⟩:=List.getElem?_eq_some_iff.mp hj
 exact List.pairwise_iff_getElem.mp h i j li lj hij
structure Zcs (p:Array Nat)(j k:Nat):Prop where
 le:k<=p.size
 lo:∀i x,i<k->p[i]?=some x->x<j
 hi:∀i x,k<=i->p[i]?=some x->j<=x
theorem Zca {p:Array Nat}(h:WG p)(j:Nat):∀(fuel lo hi:Nat),lo<=hi->hi<=p.size->hi-lo<=fuel->(∀i x,i<lo->p[i]?=some x->x<j)->(∀i x,hi<=i->p[i]?=some x->j<=x)->Zcs p j (below.go p j fuel lo hi)
 |0,lo,hi,h1,h2,h3,h4,h5=>by
  have:lo=hi:=by omega
  subst this
  exact⟨h2,h4,h5⟩
 |fuel+1,lo,hi,h1,h2,h3,h4,h5=>by
  unfold below.go
  by_cases hlt:lo<hi
  ·rw[if_pos hlt]
   dsimp only
   have hm:(lo+hi) / 2<p.size:=by omega
   have em:p[(lo+hi) / 2]?=some p[(lo+hi) / 2]:=Array.getElem?_eq_getElem hm
   have eg:p.getD ((lo+hi) / 2) j=p[(lo+hi) / 2]:=by rw[Array.getD_eq_getD_getElem?,em];rfl
   rw[eg]
   by_cases hc:p[(lo+hi) / 2]<j
   ·rw[if_pos hc]
    refine Zca h j fuel _ _ (by omega) h2 (by omega) (fun i x hi' e=>?_) h5
    by_cases e1:i=(lo+hi) / 2
    ·subst e1
     rw[em] at e
     cases e
     exact hc
    ·exact Nat.lt_trans (h.lt (by omega) e em) hc
   ·rw[if_neg hc]
    refine Zca h j fuel _ _ (by omega) (by omega) (by omega) h4 fun i x hi' e=>?_
    by_cases e1:i=(lo+hi) / 2
    ·subst e1
     rw[em] at e
     cases e
     omega
    ·have:=h.lt (by omega) em e
     omega
  ·rw[if_neg hlt]
   have:lo=hi:=by omega
   subst this
   exact⟨h2,h4,h5⟩
theorem Jg {p:Array Nat}(h:WG p)(j:Nat):Zcs p j (below p j):=Zca h j _ _ _ (Nat.zero_le _) (Zq _) (by omega) (fun i x hi=>absurd hi (Nat.not_lt_zero _)) (fun i x hi e=>by
 rw[Array.getElem?_eq_none hi] at e
 cases e)
theorem Zcs.uniq {p:Array Nat}{j k k':Nat}(a:Zcs p j k)(b:Zcs p j k'):k=k':=by
 have key:∀{k k':Nat},Zcs p j k->Zcs p j k'->¬k<k':=fun {k k'} a b hlt=>by
  have hs:k<p.size:=Nat.lt_of_lt_of_le hlt b.le
  have e:p[k]?=some p[k]:=Array.getElem?_eq_getElem hs
  have h1:=b.lo k _ hlt e
  have h2:=a.hi k _ (Zq _) e
  omega
 have:=key a b
 have:=key b a
 omega
theorem WG.insert {p:Array Nat}(h:WG p){j:Nat}(hn:p[below p j]?≠some j):WG (insertAt p (below p j) j):=by
 have c:=Jg h j
 generalize below p j=k at c hn
 unfold WG
 rw[toList_insertAt]
 have hm:∀y∈p.toList.take k,y<j:=fun y hy=>by
  obtain⟨i,hi,rfl⟩:=List.mem_take_iff_getElem.mp hy
  have:i<p.size:=by rw[<-Zr];omega
  exact c.lo i _ (by omega) (by rw[Array.getElem?_eq_getElem this];simp)
 have hd:∀y∈p.toList.drop k,j<y:=fun y hy=>by
  obtain⟨i,hi,rfl⟩:=List.mem_drop_iff_getElem.mp hy
  have hs:k+i<p.size:=by rw[Zr] at hi;omega
  have h1:=c.hi (k+i) p[k+i] (by omega) (by rw[Array.getElem?_eq_getElem hs])
  have h2:p[k+i]≠j:=fun z=>by
   by_cases e:i=0
   ·subst e
    exact hn (by rw[<-z];exact Array.getElem?_eq_getElem (by simpa using hs))
   ·have hk:k<p.size:=by omega
    have h3:=h.lt (i:=k) (j:=k+i) (by omega) (Array.getElem?_eq_getElem hk) (Array.getElem?_eq_getElem hs)
    have h4:=c.hi k _ (Zq _) (Array.getElem?_eq_getElem hk)
    omega
  show j<p.toList[k+i]
  rw[Array.getElem_toList]
  omega
 rw[List.pairwise_append]
 refine⟨List.Pairwise.sublist (List.take_sublist k _) h,?_,fun a ha b hb=>?_⟩
 ·rw[List.pairwise_cons]
  exact⟨hd,List.Pairwise.sublist (List.drop_sublist k _) h⟩
 ·rcases List.mem_cons.mp hb with hb|hb
  ·rw[hb];exact hm a ha
  ·exact Nat.lt_trans (hm a ha) (hd b hb)
theorem Xs {t:SetTable}(hd:t.dummies=#[]){hashAt:Nat->Int}{h:Int}:∀(fuel:Nat) (p:Probe),p.dummy=none->∀{j:Nat}{d:Option Nat},probe.go t hashAt h fuel p=some (.empty j d)->t.slot j=.empty/\d=none
 |0,p,_,j,d,e=>by
  unfold probe.go at e
  cases e
 |fuel+1,p,hp,j,d,e=>by
  unfold probe.go at e
  cases hs:t.slot p.j with
  |empty=>
   rw[hs] at e
   dsimp only at e
   have e:=Option.some.inj e
   injection e with e1 e2
   subst e1
   exact⟨hs,by rw[<-e2];exact hp⟩
  |dummy=>
   exfalso
   unfold SetTable.slot at hs
   dsimp only at hs
   split at hs
   ·cases hs
   ·split at hs
    ·rename_i hh
     unfold has at hh
     rw[hd] at hh
     simp at hh
    ·cases hs
  |live i=>
   rw[hs] at e
   dsimp only at e
   split at e
   ·cases e
   ·refine Xs hd fuel _ ?_ e
    unfold advance
    split
    ·exact hp
    ·exact hp
theorem Zef {t:SetTable}(hd:t.dummies=#[]){h:Int}{j:Nat}{b:Bool}(e:t.freeSlot h=some (j,b)):t.place[below t.place j]?≠some j:=by
 unfold SetTable.freeSlot at e
 split at e
 ·rename_i j' d' e'
  have e:=Option.some.inj e
  injection e with e1 e2
  obtain⟨h1,h2⟩:=Xs hd _ _ rfl e'
  subst h2
  have e1:j'=j:=e1
  subst e1
  unfold SetTable.slot at h1
  dsimp only at h1
  split at h1
  ·cases h1
  ·rename_i hne
   intro z
   exact hne (by rw[z];simp)
 ·cases e
structure Wk (t:SetTable)(led:Bool):Prop where
 rise:WG t.place
 dum:t.dummies=#[]
 led:t.led=led
theorem ZbP (n:Nat):WG (Array.range n):=by
 unfold WG
 rw[Array.toList_range]
 exact List.pairwise_lt_range
theorem Wk.standIn {t:SetTable}{led:Bool}(h:t.led=led)(n:Nat):Wk (t.standIn n) led:=⟨ZbP n,rfl,h⟩
theorem Wk.lay {t:SetTable}{led:Bool}(W:Wk t led)(es:Array (Int×Value))(h:Int)(x:Value):Wk (layNew t es h x).2.1 led:=by
 unfold layNew
 split
 ·rename_i slot was e
  dsimp only
  have hne:=Zef W.dum e
  have hp:Wk (t.put slot).1 led:=by
   unfold put
   dsimp only
   refine⟨W.rise.insert hne,?_,W.led⟩
   dsimp only
   rw[W.dum]
   unfold has
   simp
  unfold SetTable.orStandIn
  split
  ·exact hp
  ·exact .standIn hp.led _
 ·exact .standIn W.led _
theorem US {n:Nat}(g:Nat->Option Nat):(((List.range n).filterMap fun j=>(g j).map (j,·)).map (·.1)).Pairwise (· < ·):=by
 have e:∀l:List Nat,(l.filterMap fun j=>(g j).map (j,·)).map (·.1)=l.filter fun j=>(g j).isSome:=fun l=>by
  induction l with
  |nil=>rfl
  |cons a l ih=>
   rw[List.filterMap_cons,List.filter_cons]
   cases h:g a with
   |none=>rw[Option.map_none];dsimp only;rw[ih];rfl
   |some b=>rw[Option.map_some];dsimp only;rw[List.map_cons,ih];rfl
 rw[e]
 exact List.Pairwise.sublist List.filter_sublist List.pairwise_lt_range
theorem Wk.relay {t:SetTable}{led:Bool}(W:Wk t led)(es:Array (Int×Value))(wanted:Nat):Wk (relayAll t es wanted).2.1 led:=by
 unfold relayAll
 split
 ·rename_i t' order e
  dsimp only
  split
  ·dsimp only
   unfold relaid laid at e
   cases ho:layClean (sizeAbove wanted-1) (es.map (·.1)) with
   |none=>rw[ho] at e;cases e
   |some owner=>
    rw[ho] at e
    have e:=Option.some.inj e
    injection e with e1 e2
    subst e1
    refine⟨?_,rfl,W.led⟩
    unfold WG
    exact US _
  ·exact .standIn W.led _
 ·exact .standIn W.led _
theorem Wk.plain {t:SetTable}{led:Bool}(W:Wk t led)(b:Bool):Wk {t with plain:=b} led:=⟨W.rise,W.dum,W.led⟩
theorem Wk.fresh (led:Bool):Wk (SetTable.fresh 0 0 led) led:=⟨List.Pairwise.nil,rfl,rfl⟩
theorem Zc3 {p:Array Nat}(h:WG p){i:Nat}{slot:Nat}(hi:i<=p.size)(hs:(i=0/\slot=0)\/(∃j x,i=j+1/\p[j]?=some x/\slot=x+1)):below p slot=i:=by
 refine (Jg h slot).uniq ⟨hi,fun k x hk e=>?_,fun k x hk e=>?_⟩
 ·rcases hs with ⟨rfl,_⟩|⟨j,y,rfl,ey,rfl⟩
  ·omega
  ·by_cases e1:k=j
   ·subst e1
    rw[ey] at e
    cases e
    omega
   ·have:=h.lt (by omega) e ey
    omega
 ·rcases hs with ⟨_,rfl⟩|⟨j,y,rfl,ey,rfl⟩
  ·omega
  ·have:=h.lt (by omega) ey e
   omega
theorem Jt {α:Type}:∀{l:List α}{i:Nat}{x:α},l[i]?=some x->List.Perm (x::l.eraseIdx i) l
 | [],i,x,e=>by cases e
 |a::l,0,x,e=>by cases e;exact List.Perm.refl _
 |a::l,i+1,x,e=>by
  rw[List.getElem?_cons_succ] at e
  rw[List.eraseIdx_cons_succ]
  exact (List.Perm.swap a x _).trans ((Jt e).cons a)
theorem V2 {α:Type}(next:Nat->Nat):∀(fuel k:Nat) (left:List α) (out:Array α),left.length<=fuel->List.Perm (pickOrder.go next fuel k left out).toList (out.toList++left)
 |0,k,left,out,h=>by
  have:left=[]:=List.length_eq_zero_iff.mp (by omega)
  subst this
  unfold pickOrder.go
  rw[List.append_nil]
 |fuel+1,k,left,out,h=>by
  unfold pickOrder.go
  split
  ·rename_i x e
   have hl:=(List.getElem?_eq_some_iff.mp e).1
   refine (V2 next fuel (k+1) _ _ (by rw[List.length_eraseIdx];split <;> omega)).trans ?_
   rw[Array.toList_push,List.append_assoc]
   refine List.Perm.append_left _ ?_
   exact Jt e
  ·rename_i e
   have:left=[]:=by
    rcases left with _|⟨a,l⟩
    ·rfl
    ·exfalso
     rw[List.getElem?_eq_none_iff] at e
     have:=Nat.mod_lt (next k) (show 0<(a::l).length by rw[Zi];omega)
     omega
   subst this
   rw[List.append_nil]
theorem Y3 {α:Type}(next:Nat->Nat)(xs:Array α):List.Perm (pickOrder next xs).toList xs.toList:=by
 unfold pickOrder
 have:=V2 next xs.size 0 xs.toList #[] (by rw[Zr];exact Zq _)
 simpa using this
end PyS
namespace PyS
open PySem
theorem ZL:Slot "set_iterator" "__next__" "set_iterator.__next__":=
 .of (owner:="set_iterator") (n:="__next__") (by rw[typeLookup_type,builtinLookup_eq_fast];kernel_rfl) (by decide +kernel) (by decide +kernel) (by decide +kernel)
  (by first|exact .inl (by decide +kernel)|exact .inr (by decide +kernel)) (by rw[isSubtype_type];kernel_rfl)
theorem YD:entryFor table "set_iterator.__next__"=some Builtin.«set_iterator.__next__»:=entryFor_of_tree (by kernel_rfl)
theorem ZaN:Manifest.owners.lookup (String.ofList ['r','o','t','a','r','e','t','i','_','t','e','s'].reverse)=some Manifest.sig_set_iterator:=by kernel_rfl
theorem YW (a:Value):argsOk "set_iterator.__next__" ⟨[a],[]⟩:=by
 unfold argsOk;rw[signature?_of (id:="set_iterator.__next__") (n:=['_','_','t','x','e','n','_','_']) (o:=['r','o','t','a','r','e','t','i','_','t','e','s']) (by kernel_rfl) ZaN];kernel_rfl
theorem JD:Slot "set_iterator" "__iter__" "set_iterator.__iter__":=
 .of (owner:="set_iterator") (n:="__iter__") (by rw[typeLookup_type,builtinLookup_eq_fast];kernel_rfl) (by decide +kernel) (by decide +kernel) (by decide +kernel)
  (by first|exact .inl (by decide +kernel)|exact .inr (by decide +kernel)) (by rw[isSubtype_type];kernel_rfl)
theorem VJ:entryFor table "set_iterator.__iter__"=some Builtin.«dict_keyiterator.__iter__»:=entryFor_alias (id':="dict_keyiterator.__iter__") (by kernel_rfl) rfl (by decide +kernel) (by kernel_rfl)
theorem Zak (a:Value):argsOk "set_iterator.__iter__" ⟨[a],[]⟩:=by
 unfold argsOk;rw[signature?_of (id:="set_iterator.__iter__") (n:=['_','_','r','e','t','i','_','_']) (o:=['r','o','t','a','r','e','t','i','_','t','e','s']) (by kernel_rfl) ZaN];kernel_rfl
theorem Vo:entryFor table "set.__iter__"=some Builtin.«frozenset.__iter__»:=entryFor_alias (id':="frozenset.__iter__") (by kernel_rfl) rfl (by decide +kernel) (by kernel_rfl)
def Wr (h:Heap)(a:Addr)(es:Array (Int×Value))(ep:Nat)(t:SetTable):Prop:=∃o,h.get? a=some o/\o.ExactSet/\o.data=.set es ep t/\t.fits es.size=true
def Yg (h:Heap)(I:Addr)(first:Value)(i:Nat)(a:Addr)(n ep:Nat):Prop:=∃o,h.get? I=some o/\o.cls=.type "set_iterator"/\o.data=.fields #[first,.int i 0,.ref a,.int n 0,.int ep 0]
theorem Wr.keep {h h':Heap}{a:Addr}{es:Array (Int×Value)}{ep:Nat}{t:SetTable}(S:Wr h a es ep t)(k:∀o,h.get? a=some o->h'.get? a=some o):Wr h' a es ep t:=let ⟨o,e,r⟩:=S;⟨o,k o e,r⟩
theorem Yg.keep {h h':Heap}{I:Addr}{first:Value}{i:Nat}{a:Addr}{n ep:Nat}(S:Yg h I first i a n ep)(k:∀o,h.get? I=some o->h'.get? I=some o):Yg h' I first i a n ep:=let ⟨o,e,r⟩:=S;⟨o,k o e,r⟩
section
variable {prog:Program}{w:World}{A:Around}{E:Value->Shared->Prop}{s:Shared}{I a:Addr}{es:Array (Int×Value)}{ep:Nat}{t:SetTable}{first:Value}{i n:Nat}
theorem Yg.typeIs (h:Yg s.heap I first i a n ep):s.TypeIs (.ref I) "set_iterator":=let ⟨o,e,c,_⟩:=h;⟨o,e,c⟩
theorem Wr.typeIs (h:Wr s.heap a es ep t):s.TypeIs (.ref a) "set":=let ⟨o,e,c,_⟩:=h;⟨o,e,c.1⟩
theorem Wr.state (h:Wr s.heap a es ep t){Q:(Array (Int×Value)×Nat×SetTable)->Shared->Prop}(q:Q (es,ep,t) s):wpAny (model prog w) A (setState a) Q E s:=let ⟨_,e,_,d,f⟩:=h;wpAny_setState_of e d f q
theorem Wr.entries (h:Wr s.heap a es ep t){Q:Array (Int×Value)->Shared->Prop}(q:Q es s):wpAny (model prog w) A (setEntries a) Q E s:=by
 unfold setEntries
 exact Zl (h.state (Zm q))
theorem Wr.epoch (h:Wr s.heap a es ep t){Q:Nat->Shared->Prop}(q:Q ep s):wpAny (model prog w) A (setEpoch a) Q E s:=by
 unfold setEpoch
 exact Zl (h.state (Zm q))
theorem Zai {Q:Bool->Shared->Prop}(q:Q (w.params.followText "set-order") s):wpAny (model prog w) A setsByText Q E s:=by
 unfold setsByText
 exact Zl (wpAny_askSetting (Zm q))
theorem Yg.turn {h:Heap}{o:Obj}(e:h.get? I=some o)(c:o.cls=.type "set_iterator")(d:o.data=.fields #[first,.int i 0,.ref a,.int n 0,.int ep 0])(next:Value) :
  Yg ((h.update I (Obj.mapFields (·.setIfInBounds 0 next))).update I (Obj.mapFields (·.setIfInBounds 1 (rawInt ((i:Int)+1))))) I next (i+1) a n ep:=by
 have h1:=Heap.get?_update_self (Obj.mapFields (·.setIfInBounds 0 next)) e (Obj.isFreed_of_fields (Obj.data_mapFields d _))
 have d1:=Obj.data_mapFields d (·.setIfInBounds 0 next)
 refine⟨_,Heap.get?_update_self _ h1 (Obj.isFreed_of_fields (Obj.data_mapFields d1 _)),?_,?_⟩
 ·rw[Obj.cls_mapFields,Obj.cls_mapFields,c]
 ·rw[Obj.data_mapFields d1]
  simp[rawInt]
theorem ZaT {slot:Nat}{Q:Option Value->Shared->Prop}(hI:Yg s.heap I (.int slot 0) i a n ep)(hS:Wr s.heap a es ep t)(hn:es.size=n){x:Value}{nx:Nat}
  (hN:∀{R:Option (Value×Nat)->Shared->Prop}{A':Around}{E':Value->Shared->Prop},R (some (x,nx)) s->wpAny (model prog w) A' (setNext a slot i ep) R E' s)
  (q:∀h',Yg h' I (.int nx 0) (i+1) a n ep->Heap.SameBut I s.heap h'->Q (some x) {s with heap:=h'}):wpAny (model prog w) A (pyNext (.ref I)) Q E s:=by
 obtain⟨o,e,c,d⟩:=id hI
 unfold pyNext
 refine Zl (wpAny_attempt (wpAny_callSpecial?_slot (name:=Str.ofString "__next__") hI.typeIs ZL (wpAny_call_entry ZL hI.typeIs YD ?_ (YW _))))
 unfold Builtin.«set_iterator.__next__»
 refine Zl (Zm ?_)
 refine Zl (wpAny_fieldsOf e d ?_)
 refine Zl (hS.entries ?_)
 rw[hn]
 rw[if_neg (by simp)]
 show wpAny _ _ (setNext a slot i ep >>= _) _ _ s
 refine Zl (hN ?_)
 dsimp only
 refine Zl (wpAny_setField e d (by simp) ?_)
 have h1:=Heap.get?_update_self (Obj.mapFields (·.setIfInBounds 0 (rawInt nx))) e (Obj.isFreed_of_fields (Obj.data_mapFields d _))
 have d1:=Obj.data_mapFields d (·.setIfInBounds 0 (rawInt nx))
 refine Zl (wpAny_setField h1 d1 (by simp) ?_)
 exact Zm ⟨_,rfl,Zm (q _ (Yg.turn e c d _) ((Heap.SameBut.update ..).trans (Heap.SameBut.update ..)))⟩
theorem Zav {h:Heap}{Q:Option Value->Shared->Prop}{F:Fin->Shared->Prop}(hh:A.handled=none)(q:∀h',(∀b o,h.get? b=some o->h'.get? b=some o)->Q none {s with heap:=h'}) :
  wpAny (model prog w) A.in1 (do let x <-newExc (.type "StopIteration") [];raiseNew (α:=Fin) x) F (fun e s'=>wpAny (model prog w) A (do let b <-isInstance e (.type "StopIteration");if b=true then pure none else throw e) Q E s') {s with heap:=h}:=by
 refine Zl ?_
 unfold newExc newTuple
 refine Zl (wpAny_newObj_type (Q:=_) ?_ (by size_fits))
 refine Zl (m:=firstArgMember _ _) (wpAny_of_eq (a:=Value.none) (by first|rfl|(unfold firstArgMember;rfl)) ?_)
 refine wpAny_newObj_type (Q:=_) ?_ (by size_fits)
 unfold raiseNew
 refine Zl (wpAny_handled ?_)
 rw[show A.in1.handled=none from hh]
 refine Zl (Zm (wpAny_throw ?_))
 refine Zl (wpAny_isInstance (T:="StopIteration") (b:=true) ⟨_,Zo _ rfl,rfl⟩ isSubtype_stop ?_)
 exact Zm (q _ fun b o e=>Zn _ (Zn _ e))
theorem Zdj {slot:Nat}{Q:Option Value->Shared->Prop}(hh:A.handled=none)(hI:Yg s.heap I (.int slot 0) i a n ep)(hS:Wr s.heap a es ep t)(hn:es.size=n)
  (hN:∀{R:Option (Value×Nat)->Shared->Prop}{A':Around}{E':Value->Shared->Prop},R none s->wpAny (model prog w) A' (setNext a slot i ep) R E' s)
  (q:∀h',(∀b o,b≠I->s.heap.get? b=some o->h'.get? b=some o)->Q none {s with heap:=h'}):wpAny (model prog w) A (pyNext (.ref I)) Q E s:=by
 obtain⟨o,e,c,d⟩:=id hI
 unfold pyNext
 refine Zl (wpAny_attempt (wpAny_callSpecial?_slot (name:=Str.ofString "__next__") hI.typeIs ZL (wpAny_call_entry ZL hI.typeIs YD ?_ (YW _))))
 unfold Builtin.«set_iterator.__next__»
 refine Zl (Zm ?_)
 refine Zl (wpAny_fieldsOf e d ?_)
 refine Zl (hS.entries ?_)
 rw[hn]
 rw[if_neg (by simp)]
 show wpAny _ _ (setNext a slot i ep >>= _) _ _ s
 refine Zl (hN ?_)
 dsimp only
 refine Zl (wpAny_setField e d (by simp) ?_)
 exact Zav hh fun h' k=>q h' fun b o' hb e'=>k b o' ((Heap.SameBut.update s.heap I _).extBut b o' hb e')
theorem Zc1 (ht:w.params.followText "set-order"=true)(hS:Wr s.heap a es ep t){slot:Nat}{R:Option (Value×Nat)->Shared->Prop}
  (q:R (((pickOrder (w.params.setOrder a ep) es)[i]?).map fun e=>(e.2,slot)) s):wpAny (model prog w) A (setNext a slot i ep) R E s:=by
 unfold setNext
 refine Zl (hS.state ?_)
 dsimp only
 refine Zl (Zai ?_)
 rw[ht,if_pos rfl,if_neg (by simp)]
 refine Zl ?_
 unfold setWalk
 refine Zl (hS.state ?_)
 dsimp only
 refine Zl (Zai ?_)
 rw[ht,if_pos rfl]
 exact Zl (wpAny_askSetting (Zm (Zm q)))
theorem ZaQ (ht:w.params.followText "set-order"=false)(hS:Wr s.heap a es ep t)(hd:t.plain=true\/es.size<=1)(hl:t.led=true){slot:Nat}{R:Option (Value×Nat)->Shared->Prop}
  (q:R (match es[SetTable.below t.place slot]?,t.place[SetTable.below t.place slot]? with|some (_,x),some j=>some (x,j+1)|_,_=>none) s):wpAny (model prog w) A (setNext a slot i ep) R E s:=by
 unfold setNext
 refine Zl (hS.state ?_)
 dsimp only
 refine Zl (Zai ?_)
 rw[ht,if_neg (by decide)]
 show wpAny _ _ (if (!t.plain && decide (es.size > 1))=true then _ else _) _ _ s
 rw[if_neg (by
  rcases hd with hd|hd
  ·rw[hd];simp
  ·rw[decide_eq_false (by omega),Bool.and_false];decide)]
 show wpAny _ _ ((if (!t.led && !es.isEmpty)=true then _ else _) >>= _) _ _ s
 rw[hl]
 exact Zl (Zm (Zm q))
theorem Zb1 {T0:Addr}{ps:Array Value}{pl:Nat}{Q:Option Value->Shared->Prop}(hI:Yg s.heap I (.ref T0) i a n ep)(hT:∃o k,s.heap.get? T0=some o/\o.data=.seq ps k)(hS:Wr s.heap a es ep t)(hn:es.size=n)(hp:ps[i]?=some (.int pl 0)){h:Int}{x:Value}(hx:es[pl]?=some (h,x))
  (q:∀h',Yg h' I (.ref T0) (i+1) a n ep->Heap.SameBut I s.heap h'->Q (some x) {s with heap:=h'}):wpAny (model prog w) A (pyNext (.ref I)) Q E s:=by
 obtain⟨o,e,c,d⟩:=id hI
 obtain⟨ot,k,et,dt⟩:=hT
 unfold pyNext
 refine Zl (wpAny_attempt (wpAny_callSpecial?_slot (name:=Str.ofString "__next__") hI.typeIs ZL (wpAny_call_entry ZL hI.typeIs YD ?_ (YW _))))
 unfold Builtin.«set_iterator.__next__»
 refine Zl (Zm ?_)
 refine Zl (wpAny_fieldsOf e d ?_)
 refine Zl (hS.entries ?_)
 rw[hn]
 rw[if_neg (by simp)]
 show wpAny _ _ (seqItems? (.ref T0) >>= _) _ _ s
 refine Zl (wpAny_seqItems et dt ?_)
 dsimp only
 rw[Zj,hp]
 show wpAny _ _ (setNextDrawn a pl ep >>= _) _ _ s
 refine Zl ?_
 unfold setNextDrawn
 refine Zl (hS.state ?_)
 dsimp only
 rw[if_neg (by simp),hx]
 refine Zm ?_
 refine Zl (wpAny_setField e d (by simp) ?_)
 refine Zm ⟨_,rfl,Zm (q _ ⟨_,Heap.get?_update_self _ e (Obj.isFreed_of_fields (Obj.data_mapFields d _)),?_,?_⟩ (Heap.SameBut.update ..))⟩
 ·rw[Obj.cls_mapFields,c]
 ·rw[Obj.data_mapFields d]
  simp[rawInt]
theorem Zej {T0:Addr}{ps:Array Value}{Q:Option Value->Shared->Prop}(hh:A.handled=none)(hI:Yg s.heap I (.ref T0) i a n ep)(hT:∃o k,s.heap.get? T0=some o/\o.data=.seq ps k)(hS:Wr s.heap a es ep t)(hn:es.size=n)(hp:ps[i]?=none)
  (q:∀h',(∀b o,b≠I->s.heap.get? b=some o->h'.get? b=some o)->Q none {s with heap:=h'}):wpAny (model prog w) A (pyNext (.ref I)) Q E s:=by
 obtain⟨o,e,c,d⟩:=id hI
 obtain⟨ot,k,et,dt⟩:=hT
 unfold pyNext
 refine Zl (wpAny_attempt (wpAny_callSpecial?_slot (name:=Str.ofString "__next__") hI.typeIs ZL (wpAny_call_entry ZL hI.typeIs YD ?_ (YW _))))
 unfold Builtin.«set_iterator.__next__»
 refine Zl (Zm ?_)
 refine Zl (wpAny_fieldsOf e d ?_)
 refine Zl (hS.entries ?_)
 rw[hn]
 rw[if_neg (by simp)]
 show wpAny _ _ (seqItems? (.ref T0) >>= _) _ _ s
 refine Zl (wpAny_seqItems et dt ?_)
 dsimp only
 rw[Zj,hp]
 dsimp only
 refine Zl (wpAny_setField e d (by simp) ?_)
 have h1:=Heap.get?_update_self (Obj.mapFields (·.setIfInBounds 0 (rawInt 0))) e (Obj.isFreed_of_fields (Obj.data_mapFields d _))
 have d1:=Obj.data_mapFields d (·.setIfInBounds 0 (rawInt 0))
 refine Zl (wpAny_setField h1 d1 (by simp) ?_)
 exact Zav hh fun h' k=>q h' fun b o' hb e'=>k b o' (((Heap.SameBut.update s.heap I _).trans (Heap.SameBut.update _ I _)).extBut b o' hb e')
theorem Zeq {src:Source}{m:Nat}{Q:Nat->Shared->Prop}(hm:m≠0)(q:∀k dr,k<m->Q k {s with drawn:=dr}):wpAny (model prog w) A (choose src m) Q E s:=fun _ _ _=>⟨hm,q _ _ (Nat.mod_lt _ (by omega))⟩
theorem Ug {α:Type}:∀(m:Nat) (xs:List α) {s:Shared}{Q:List α->Shared->Prop},xs.length<=m->(∀ys dr,List.Perm ys xs->Q ys {s with drawn:=dr})->wpAny (model prog w) A (drawOrder m xs) Q E s
 |0,xs,s,Q,h,q=>by
  have:xs=[]:=List.length_eq_zero_iff.mp (by omega)
  subst this
  unfold drawOrder
  exact Zm (q [] s.drawn (List.Perm.refl _))
 |m+1,[],s,Q,h,q=>by
  unfold drawOrder
  exact Zm (q [] s.drawn (List.Perm.refl _))
 |m+1,x::xs,s,Q,h,q=>by
  unfold drawOrder
  refine Zl (Zeq (by rw[Zi];omega) fun k dr hk=>?_)
  rw[Zf hk]
  dsimp only
  refine Zl (Ug m _ (by rw[List.length_eraseIdx,if_pos hk];omega) fun ys dr' hp=>Zm ?_)
  exact q _ dr' ((hp.cons _).trans (Jt (Zf hk)))
end
section
variable {prog:Program}{w:World}{A:Around}{E:Value->Shared->Prop}{s:Shared}{I a:Addr}{es:Array (Int×Value)}{ep:Nat}{t:SetTable}{first:Value}{i n:Nat}
theorem UC {Q:Value->Shared->Prop}(hI:Yg s.heap I first i a n ep)(q:Q (.ref I) s):wpAny (model prog w) A (pyIter (.ref I)) Q E s:=by
 refine wpAny_pyIter_slot hI.typeIs JD (wpAny_call_entry JD hI.typeIs VJ ?_ (Zak _))
 show wpAny _ _ (ret (.ref I)) _ _ s
 exact Zm ⟨_,rfl, "set_iterator",_,hI.typeIs,ZL.lookup,q⟩
def Yw (es:Array (Int×Value)):List Value:=es.toList.map (·.2)
theorem Zdy (hh:A.handled=none)(ht:w.params.followText "set-order"=true)(hne:a≠I) :
  Walks prog w A I [I,a] [I] es.size (fun i v=>((pickOrder (w.params.setOrder a ep) es).toList.map (·.2))[i]?=some v) (fun i h=>Yg h I (.int 0 0) i a es.size ep/\Wr h a es ep t) where
 sub:=fun b hb=>by simp at hb;simp[hb]
 frame:=fun _ _ _ st k=>⟨st.1.keep fun o e=>k I (by simp) o e,st.2.keep fun o e=>k a (by simp) o e⟩
 item:=fun i s Q E hi st hQ=>by
  have hp:=Y3 (w.params.setOrder a ep) es
  have hl:(pickOrder (w.params.setOrder a ep) es).size=es.size:=by rw[<-Zr,hp.length_eq,Zr]
  have e:(pickOrder (w.params.setOrder a ep) es)[i]?=some ((pickOrder (w.params.setOrder a ep) es)[i]'(by omega)):=Array.getElem?_eq_getElem (by omega)
  generalize (pickOrder (w.params.setOrder a ep) es)[i]'(by omega)=y at e
  refine ZaT (slot:=0) (x:=y.2) (nx:=0) st.1 st.2 rfl (fun {R A' E'} r=>Zc1 ht st.2 (by rw[e];exact r)) fun h' i' sb=>?_
  refine hQ y.2 h' s.toks ?_ ⟨i',st.2.keep fun o e=>sb.extBut a o hne e⟩ fun b o hb e=>sb.extBut b o (fun z=>hb (by simp[z])) e
  rw[Zc,Array.getElem?_toList,e]
  rfl
 done:=fun s Q E st hQ=>by
  have hp:=Y3 (w.params.setOrder a ep) es
  have hl:(pickOrder (w.params.setOrder a ep) es).size=es.size:=by rw[<-Zr,hp.length_eq,Zr]
  refine Zdj (slot:=0) hh st.1 st.2 rfl (fun {R A' E'} r=>Zc1 ht st.2 (by rw[Array.getElem?_eq_none (by omega)];exact r)) fun h' k=>hQ h' s.toks fun b o hb e=>k b o (fun z=>hb (by simp[z])) e
 self:=fun _ _ _ _ st hQ=>UC st.1 hQ
theorem Zbu (hh:A.handled=none)(ht:w.params.followText "set-order"=false)(hd:t.plain=true\/es.size<=1)(W:Wk t true)(hne:a≠I) :
  Walks prog w A I [I,a] [I] es.size (fun i v=>(Yw es)[i]?=some v) (fun i h=>∃slot:Nat,((i=0/\slot=0)\/(∃j x,i=j+1/\t.place[j]?=some x/\slot=x+1))/\Yg h I (.int slot 0) i a es.size ep/\Wr h a es ep t) where
 sub:=fun b hb=>by simp at hb;simp[hb]
 frame:=fun _ _ _ st k=>by
  obtain⟨slot,h1,h2,h3⟩:=st
  exact⟨slot,h1,h2.keep fun o e=>k I (by simp) o e,h3.keep fun o e=>k a (by simp) o e⟩
 item:=fun i s Q E hi st hQ=>by
  obtain⟨slot,h1,h2,h3⟩:=st
  have hf:t.place.size=es.size:=by
   obtain⟨_,_,_,_,f⟩:=h3
   simp only[SetTable.fits,Bool.and_eq_true,beq_iff_eq] at f
   exact f.1
  have hb:=Zc3 W.rise (i:=i) (slot:=slot) (by omega) h1
  have e1:es[i]?=some es[i]:=Array.getElem?_eq_getElem hi
  have e2:t.place[i]?=some (t.place[i]'(by omega)):=Array.getElem?_eq_getElem (by omega)
  generalize es[i]=y at e1
  generalize t.place[i]'(by omega)=j at e2
  refine ZaT (slot:=slot) (x:=y.2) (nx:=j+1) h2 h3 rfl (fun {R A' E'} r=>ZaQ ht h3 hd W.led (by rw[hb,e1,e2];exact r)) fun h' i' sb=>?_
  refine hQ y.2 h' s.toks ?_ ⟨j+1,.inr ⟨i,j,rfl,e2,rfl⟩,i',h3.keep fun o e=>sb.extBut a o hne e⟩ fun b o hb e=>sb.extBut b o (fun z=>hb (by simp[z])) e
  show (es.toList.map (·.2))[i]?=some y.2
  rw[Zc,Array.getElem?_toList,e1]
  rfl
 done:=fun s Q E st hQ=>by
  obtain⟨slot,h1,h2,h3⟩:=st
  have hf:t.place.size=es.size:=by
   obtain⟨_,_,_,_,f⟩:=h3
   simp only[SetTable.fits,Bool.and_eq_true,beq_iff_eq] at f
   exact f.1
  have hb:=Zc3 W.rise (i:=es.size) (slot:=slot) (by omega) h1
  refine Zdj (slot:=slot) hh h2 h3 rfl (fun {R A' E'} r=>ZaQ ht h3 hd W.led (by rw[hb,Array.getElem?_eq_none (Zq _)];exact r)) fun h' k=>hQ h' s.toks fun b o hb e=>k b o (fun z=>hb (by simp[z])) e
 self:=fun _ _ _ _ st hQ=>by
  obtain⟨slot,h1,h2,h3⟩:=st
  exact UC h2 hQ
theorem Zbv (hh:A.handled=none){T0:Addr}{ps:List Nat}(hp:List.Perm ps (List.range es.size))(hne:a≠I)(hnT:T0≠I) :
  Walks prog w A I [I,a,T0] [I] es.size (fun i v=>(ps.filterMap fun p=>(es[p]?).map (·.2))[i]?=some v) (fun i h=>Yg h I (.ref T0) i a es.size ep/\Wr h a es ep t/\∃o k,h.get? T0=some o/\o.data=.seq (ps.map fun (p:Nat)=>rawInt p).toArray k) where
 sub:=fun b hb=>by simp at hb;simp[hb]
 frame:=fun _ _ _ st k=>by
  obtain⟨h1,h2,o,k0,h3,h4⟩:=st
  exact⟨h1.keep fun o e=>k I (by simp) o e,h2.keep fun o e=>k a (by simp) o e,o,k0,k T0 (by simp) o h3,h4⟩
 item:=fun i s Q E hi st hQ=>by
  obtain⟨h1,h2,h3⟩:=st
  have hl:ps.length=es.size:=by rw[hp.length_eq,Zg]
  have e0:ps[i]?=some (ps[i]'(by omega)):=Zf (by omega)
  have hm:ps[i]'(by omega)<es.size:=List.mem_range.mp (hp.mem_iff.mp (List.getElem_mem _))
  generalize ps[i]'(by omega)=pl at e0 hm
  have e1:es[pl]?=some es[pl]:=Array.getElem?_eq_getElem hm
  generalize es[pl]=y at e1
  obtain⟨hv,x⟩:=y
  refine Zb1 (pl:=pl) h1 h3 h2 rfl (by simp[e0,rawInt]) e1 fun h' i' sb=>?_
  obtain⟨o,k0,h3,h4⟩:=h3
  refine hQ x h' s.toks ?_ ⟨i',h2.keep fun o e=>sb.extBut a o hne e,o,k0,sb.extBut T0 o hnT h3,h4⟩ fun b o hb e=>sb.extBut b o (fun z=>hb (by simp[z])) e
  have all:∀(l:List Nat),(∀p∈l,p<es.size)->(l.filterMap fun p=>(es[p]?).map (·.2))=l.map fun p=>(es.getD p (0,.none)).2:=fun l=>by
   induction l with
   |nil=>intro _;rfl
   |cons p l ih=>
    intro h
    have hp:=h p List.mem_cons_self
    rw[List.filterMap_cons,Array.getElem?_eq_getElem hp,Option.map_some,List.map_cons,ih fun q hq=>h q (List.mem_cons_of_mem _ hq)]
    dsimp only
    rw[Array.getD_eq_getD_getElem?,Array.getElem?_eq_getElem hp]
    rfl
  rw[all ps fun p hm=>List.mem_range.mp (hp.mem_iff.mp hm),Zc,e0,Option.map_some,Array.getD_eq_getD_getElem?,e1]
  rfl
 done:=fun s Q E st hQ=>by
  obtain⟨h1,h2,h3⟩:=st
  have hl:ps.length=es.size:=by rw[hp.length_eq,Zg]
  refine Zej hh h1 h3 h2 rfl (by rw[Array.getElem?_eq_none (by simp[hl])]) fun h' k=>hQ h' s.toks fun b o hb e=>k b o (fun z=>hb (by simp[z])) e
 self:=fun _ _ _ _ st hQ=>UC st.1 hQ
theorem ZeU (hz:es.size<=sizeLine)(hS:Wr s.heap a es ep t)(W:Wk t (!w.params.followText "set-order")){Q:Value->Shared->Prop}
  (q:∀(I:Addr) (fp:List Addr) (h':Heap) (dr:Drawn) (L:List Value) (St:Nat->Heap->Prop),s.heap.objs.size<=I->(∀b∈fp,b=a\/s.heap.objs.size<=b)->(∀b o,s.heap.get? b=some o->h'.get? b=some o)->List.Perm L (Yw es)->
   (∀A':Around,A'.handled=none->Walks prog w A' I fp [I] es.size (fun i v=>L[i]?=some v) St)->St 0 h'->Q (.ref I) {s with heap:=h',drawn:=dr}) :
  wpAny (model prog w) A (pyIter (.ref a)) Q E s:=by
 have ha:a<s.heap.objs.size:=let ⟨o,e,_⟩:=hS;Zp e
 refine wpAny_pyIter_slot hS.typeIs F.slot_set_iter (wpAny_call_entry F.slot_set_iter hS.typeIs Vo ?_ (F.args_set_iter_1 _))
 unfold Builtin.«frozenset.__iter__»
 show wpAny _ _ (pure a >>= _) _ _ s
 refine Zl (Zm ?_)
 refine Zl ?_
 unfold Builtin.Frozenset.sizeOf
 refine Zl (hS.entries (Zm ?_))
 refine Zl ?_
 unfold setDrawn
 refine Zl (hS.state ?_)
 dsimp only
 refine Zl (Zai (Zm ?_))
 show wpAny _ _ (if (!w.params.followText "set-order" && (!t.plain && decide (es.size > 1)))=true then _ else _) _ _ s
 by_cases hdr:(!w.params.followText "set-order" && (!t.plain && decide (es.size > 1)))=true
 ·rw[if_pos hdr]
  refine Zl (Ug _ _ (by rw[Zg];exact Zq _) fun ps dr hp=>?_)
  have hl:ps.length=es.size:=by rw[hp.length_eq,Zg]
  unfold newTuple
  refine Zl (wpAny_newObj_type ?_ (by show (List.map (fun (i:Nat)=>rawInt i) ps).toArray.size<=sizeLine;rw[Zh,Za,hl];exact hz))
  have h1:(s.heap.push {cls:=.type "tuple",data:=.seq (List.map (fun (i:Nat)=>rawInt i) ps).toArray}).get? s.heap.objs.size=some {cls:=.type "tuple",data:=.seq (List.map (fun (i:Nat)=>rawInt i) ps).toArray}:=Zo _ rfl
  have hk1:∀b o,s.heap.get? b=some o->(s.heap.push {cls:=.type "tuple",data:=.seq (List.map (fun (i:Nat)=>rawInt i) ps).toArray}).get? b=some o:=fun b o e=>Zn _ e
  have hz1:(s.heap.push {cls:=.type "tuple",data:=.seq (List.map (fun (i:Nat)=>rawInt i) ps).toArray}).objs.size=s.heap.objs.size+1:=Heap.size_push ..
  generalize s.heap.push {cls:=.type "tuple",data:=.seq (List.map (fun (i:Nat)=>rawInt i) ps).toArray}=g1 at h1 hk1 hz1 ⊢
  have hS1:Wr g1 a es ep t:=hS.keep fun o e=>hk1 a o e
  refine Zl (Wr.epoch (s:={s with heap:=g1,drawn:=dr}) hS1 ?_)
  refine Zl ?_
  unfold newFields
  refine wpAny_newObj_type (Zm ⟨_,rfl, "set_iterator",_,⟨_,Zo _ rfl,rfl⟩,ZL.lookup,?_⟩) (by size_fits)
  refine q g1.objs.size [g1.objs.size,a,s.heap.objs.size] _ dr _ (fun i h=>Yg h g1.objs.size (.ref s.heap.objs.size) i a es.size ep/\Wr h a es ep t/\∃o k,h.get? s.heap.objs.size=some o/\o.data=.seq (ps.map fun (p:Nat)=>rawInt p).toArray k) (by omega) (fun b hb=>?_) (fun b o e=>Zn _ (hk1 b o e)) ?_
   (fun A' hh=>Zbv hh hp (Nat.ne_of_lt (by rw[hz1];exact Nat.lt_succ_of_lt ha)) (Nat.ne_of_lt (by rw[hz1];exact Nat.lt_succ_self _))) ⟨⟨_,Zo _ rfl,rfl,rfl⟩,hS1.keep fun o e=>Zn _ e,_,_,Zn _ h1,rfl⟩
  ·simp only[List.mem_cons,List.not_mem_nil,or_false] at hb
   rcases hb with rfl|rfl|rfl
   ·right;omega
   ·left;rfl
   ·right;omega
  ·refine (hp.filterMap _).trans ?_
   have e:((List.range es.size).filterMap fun p=>(es[p]?).map (·.2))=Yw es:=by
    unfold Yw
    rw[<-filterMap_getElem?_range es,List.map_filterMap]
   rw[e]
 ·rw[if_neg hdr]
  refine Zl (Zm ?_)
  refine Zl (hS.epoch ?_)
  refine Zl ?_
  unfold newFields
  refine wpAny_newObj_type (Zm ⟨_,rfl, "set_iterator",_,⟨_,Zo _ rfl,rfl⟩,ZL.lookup,?_⟩) (by size_fits)
  have fpok:∀b∈[s.heap.objs.size,a],b=a\/s.heap.objs.size<=b:=fun b hb=>by
   simp only[List.mem_cons,List.not_mem_nil,or_false] at hb
   rcases hb with rfl|rfl
   ·right;omega
   ·left;rfl
  cases ht:w.params.followText "set-order" with
  |true=>
   refine q s.heap.objs.size [s.heap.objs.size,a] _ s.drawn _ (fun i h=>Yg h s.heap.objs.size (.int 0 0) i a es.size ep/\Wr h a es ep t) (Zq _) fpok (fun b o e=>Zn _ e) ?_
    (fun A' hh=>Zdy hh ht (Nat.ne_of_lt ha)) ⟨⟨_,Zo _ rfl,rfl,rfl⟩,hS.keep fun o e=>Zn _ e⟩
   exact (Y3 _ es).map _
  |false=>
   rw[ht] at W hdr
   refine q s.heap.objs.size [s.heap.objs.size,a] _ s.drawn _ (fun i h=>∃slot:Nat,((i=0/\slot=0)\/(∃j x,i=j+1/\t.place[j]?=some x/\slot=x+1))/\Yg h s.heap.objs.size (.int slot 0) i a es.size ep/\Wr h a es ep t) (Zq _) fpok (fun b o e=>Zn _ e) (List.Perm.refl _)
    (fun A' hh=>Zbu hh ht ?_ W (Nat.ne_of_lt ha)) ⟨0,.inl ⟨rfl,rfl⟩,⟨_,Zo _ rfl,rfl,rfl⟩,hS.keep fun o e=>Zn _ e⟩
   cases hp:t.plain with
   |true=>exact .inl rfl
   |false=>
    rw[hp] at hdr
    right
    by_cases h1:es.size > 1
    ·exfalso
     apply hdr
     simp[h1]
    ·omega
end
end PyS
namespace PyS
open PySem PySem.W PyProof.Rows PySem.Calls PyProof.V PySem.Spec
section
variable {prog:Program}{w:World}{A:Around}{E:Value->Shared->Prop}{s:Shared}{a:Addr}{es:Array (Int×Value)}{ep:Nat}{t:SetTable}
theorem Zf1 {r:Addr}{Q:Bool->Shared->Prop}(hT:s.TypeIs (.ref r) "set")(h:Q false s):wpAny (model prog w) A (Builtin.List.listLengthHint (.ref r)) Q E s:=by
 unfold Builtin.List.listLengthHint
 refine Zl (wpAny_specialOf hT PySem.F.slot_set_len.lookup ?_)
 generalize hid:("set.__len__":String)=id0
 wp_delta
 rw[show splitId id0=some ("set", "__len__") from by subst hid;decide +kernel]
 subst hid
 refine Zl (wpAny_isInstance (T:="set") (b:=true) hT (by rw[isSubtype_type];kernel_rfl) ?_)
 refine wpAny_ite_split (fun hab=>absurd hab (by decide)) (fun _=>?_)
 refine wpAny_ite_split (fun _=>?_) (fun hab=>absurd (by decide +kernel) hab)
 refine Zl (wpAny_typeOf hT ?_)
 exact Zm h
theorem Zba {L:List Value}{acc:Array Value}{n:Nat}(hl:L.length=n)(h:ItemsOf (fun i v=>L[i]?=some v) acc n):acc.toList=L:=by
 refine List.ext_getElem? fun i=>?_
 by_cases hi:i<n
 ·have e:acc[i]?=some (acc[i]'(by rw[h.1];exact hi)):=Array.getElem?_eq_getElem _
  rw[Array.getElem?_toList,e]
  exact (h.2 i _ e).symm
 ·rw[List.getElem?_eq_none (by rw[Zr,h.1];omega),List.getElem?_eq_none (by omega)]
structure Src (prog:Program)(w:World)(T:String)(a:Addr)(n:Nat)(Good:(Nat->Value->Prop)->Prop)(OK:Heap->Prop):Prop where
 type:∀s:Shared,OK s.heap->s.TypeIs (.ref a) T
 keep:∀h h':Heap,OK h->(∀o,h.get? a=some o->h'.get? a=some o)->OK h'
 notList:(Value.type T == Value.type "list")=false
 notTuple:(Value.type T == Value.type "tuple")=false
 hint:∀(A:Around) (E:Value->Shared->Prop) (s:Shared) (Q:Bool->Shared->Prop),OK s.heap->Q false s->wpAny (model prog w) A (Builtin.List.listLengthHint (.ref a)) Q E s
 iter:∀(A:Around) (E:Value->Shared->Prop) (s:Shared) (Q:Value->Shared->Prop),OK s.heap->
  (∀(I:Addr) (fp:List Addr) (h':Heap) (dr:Drawn) (P:Nat->Value->Prop) (St:Nat->Heap->Prop),s.heap.objs.size<=I->(∀b∈fp,b=a\/s.heap.objs.size<=b)->(∀b o,s.heap.get? b=some o->h'.get? b=some o)->Good P->
   (∀A':Around,A'.handled=none->Walks prog w A' I fp [I] n P St)->St 0 h'->Q (.ref I) {s with heap:=h',drawn:=dr})->wpAny (model prog w) A (pyIter (.ref a)) Q E s
section
variable {T:String}{n:Nat}{Good:(Nat->Value->Prop)->Prop}{OK:Heap->Prop}
theorem ZbI {R:Result->Shared->Prop}(C:Src prog w T a n Good OK)(hh:A.handled=none)(hz:n<=sizeLine)(hok:OK s.heap)(S:Addr)(hSa:S≠a)(res:Value)(c₀:Nat)(hL:s.heap.get? S=some {cls:=.type "list",data:=.seq #[] c₀})
  (hR:∀h' dr tk (acc':Array Value) c' P,(∀b o,b≠S->s.heap.get? b=some o->h'.get? b=some o)->h'.get? S=some {cls:=.type "list",dict:=none,data:=.seq acc' c',slots:=#[]}->Good P->ItemsOf P acc' n->R (.ok (.ret res)) {s with heap:=h',drawn:=dr,toks:=tk}) :
  wpAny (model prog w) A.in1 (Builtin.List.listExtendWith (.ref S) (.ref a) res)
   (fun fin s'=>match fin with | .done f=>R (.ok f) s' | .again c'=>c'.quiet=true/\codeAny (model prog w) A c' R s') (fun e s'=>R (.error e) s') s:=by
 have hlt:S<s.heap.objs.size:=Zp hL
 unfold Builtin.List.listExtendWith
 refine Zl (wpAny_typeOf (T:=T) (C.type s hok) ?_)
 have h1:Builtin.List.listSameRef (.ref S) (.ref a)=false:=by simp[Builtin.List.listSameRef,hSa]
 simp only[h1,C.notList,C.notTuple,Bool.or_false,Bool.false_eq_true,if_false]
 refine Zl (C.iter _ _ _ _ hok fun I fp h' dr P St hI hfp hk hp Wk' st=>?_)
 have hSf:S∉fp:=fun z=>by
  rcases hfp S z with e|e
  ·exact hSa e
  ·exact absurd hlt (Nat.not_lt.mpr e)
 have key:∀(h:Heap) (c₁ tk:Nat),St 0 h->(∀b o,b≠S->s.heap.get? b=some o->h.get? b=some o)->
   h.get? S=some {cls:=.type "list",data:=.seq #[] c₁}->codeAny (model prog w) A (.builtin "list.extend.loop" ⟨[.ref S,.ref I,res],[]⟩) R {s with heap:=h,drawn:=dr,toks:=tk}:=by
  intro h c₁ tk hst hk hS₁
  refine codeAny_extend_loopS (Wk' A.in1 hh).toS hz S hSf res n 0 _ #[] c₁ rfl (Nat.zero_le _) hst hS₁ (ItemsOf.nil _) fun s' acc' c' hm hS' hacc=>?_
  rw[Moved.eq_with hm]
  refine hR s'.heap dr s'.toks acc' c' P (fun b o hb e=>hm.heap b o (fun hmem=>?_) (hk b o hb e)) hS' hp hacc
  rcases List.mem_cons.mp hmem with e'|hmem
  ·exact hb e'
  ·exact absurd (Zp e) (by rw[List.mem_singleton.mp hmem];exact Nat.not_lt.mpr hI)
 have hS₁:=hk S _ hL
 refine Zl (wpAny_holding (C.hint _ _ {s with heap:=h',drawn:=dr} _ (C.keep _ _ hok fun o e=>hk a o e) ?_))
 refine wpAny_ite_split (fun _=>?_) (fun _=>Zm ⟨plainId_quiet PySem.F.plain_extend_loop _,key _ c₀ _ st (fun b o _ e=>hk b o e) hS₁⟩)
 refine Zl (wpAny_rule ?_)
 refine Zl ?_
 show wpAny _ _ (updateSeq S (·.push .none) >>= fun _=>updateSeq S (·.pop)) _ _ _
 refine Zl (wpAny_updateSeq hS₁ rfl ?_)
 have hS₂:=Heap.get?_update_self (Obj.mapSeq (·.push Value.none)) hS₁ rfl
 refine wpAny_updateSeq (hz:=by seq_fits) hS₂ rfl ?_
 have hS₃:=Heap.get?_update_self (Obj.mapSeq (·.pop)) hS₂ rfl
 refine Zm ⟨plainId_quiet PySem.F.plain_extend_loop _,key _ _ _ ?_ (fun b o hb e=>?_) hS₃⟩
 ·refine (Wk' A.in1 hh).frame 0 _ _ st fun b hb o e=>?_
  have hbS:b≠S:=fun h=>hSf (h▸hb)
  exact (Heap.get?_update_other _ _ (Ne.symm hbS)).trans ((Heap.get?_update_other _ _ (Ne.symm hbS)).trans e)
 ·exact (Heap.get?_update_other _ _ (Ne.symm hb)).trans ((Heap.get?_update_other _ _ (Ne.symm hb)).trans (hk b o e))
theorem WK {R:List Value->Shared->Prop}(C:Src prog w T a n Good OK)(hh:A.handled=none)(hz:n<=sizeLine)(hok:OK s.heap)
  (h:∀(h':Heap) (dr:Drawn) (tk:Nat) (acc:Array Value) (P:Nat->Value->Prop),s.heap.objs.size<h'.objs.size->(∀b o,s.heap.get? b=some o->h'.get? b=some o)->Good P->ItemsOf P acc n->R acc.toList {s with heap:=h',drawn:=dr,toks:=tk}) :
  wpAny (model prog w) A (collect (.ref a)) R E s:=by
 have ha:a<s.heap.objs.size:=let ⟨o,e,_⟩:=C.type s hok;Zp e
 unfold collect
 refine Zl (wpAny_runValue (codeAny_builtin entry_proto_collect' ?_))
 rw[Around.under_plainId PySem.F.plain_proto_collect _]
 show wpAny _ A.in1 (newList [] >>= fun l=>again (.builtin "list.__iadd__" ⟨[l,.ref a],[]⟩)) _ _ s
 refine Zl (wpAny_newObj_type ?_)
 refine Zm ⟨plainId_quiet PySem.F.plain_list_iadd _,codeAny_builtin entry_list_iadd' ?_⟩
 rw[Around.under_plainId PySem.F.plain_list_iadd _]
 have hS₁:(s.heap.push {cls:=.type "list",data:=.seq ([]:List Value).toArray}).get? s.heap.objs.size=some {cls:=.type "list",data:=.seq #[]}:=Zo _ rfl
 show wpAny _ A.in1 (Builtin.List.listExtendWith (.ref s.heap.objs.size) (.ref a) (.ref s.heap.objs.size)) _ _ _
 have key:=ZbI (prog:=prog) (w:=w) (A:=A) (s:={s with heap:=s.heap.push {cls:=.type "list",data:=.seq ([]:List Value).toArray}})
  (R:=fun (q:Result) (s':Shared)=>∃(h':Heap) (dr:Drawn) (tk:Nat) (acc':Array Value) (c':Nat) (P:Nat->Value->Prop),q=.ok (.ret (.ref s.heap.objs.size))/\s'={s with heap:=h',drawn:=dr,toks:=tk}/\
   (∀b o,s.heap.get? b=some o->h'.get? b=some o)/\h'.get? s.heap.objs.size=some {cls:=.type "list",dict:=none,data:=.seq acc' c',slots:=#[]}/\Good P/\ItemsOf P acc' n)
  C hh hz (C.keep _ _ hok fun o e=>Zn _ e) s.heap.objs.size (Nat.ne_of_gt ha) (.ref s.heap.objs.size) 0 hS₁
  (fun h' dr tk acc' c' P hk hS' hg hacc=>⟨h',dr,tk,acc',c',P,rfl,rfl,fun b o e=>hk b o (Nat.ne_of_lt (Zp e)) (Zn _ e),hS',hg,hacc⟩)
 refine wpAny_mono key (fun fin s' x=>?_) fun e s' x=>?_
 ·cases fin with
  |done f=>
   obtain⟨h',dr,tk,acc',c',P,e,rfl,hk,hS',hg,hacc⟩:=x
   cases e
   show wpAny _ A (load s.heap.objs.size >>= _) _ _ _
   refine Zl (wpAny_load hS' ?_)
   exact Zm (h h' dr tk acc' P (Zp hS') hk hg hacc)
  |again c₁=>
   refine⟨x.1,codeAny_mono x.2 fun q s₂ y=>?_⟩
   obtain⟨h',dr,tk,acc',c',P,rfl,rfl,hk,hS',hg,hacc⟩:=y
   show wpAny _ A (load s.heap.objs.size >>= _) _ _ _
   refine Zl (wpAny_load hS' ?_)
   exact Zm (h h' dr tk acc' P (Zp hS') hk hg hacc)
 ·obtain⟨_,_,_,_,_,_,e',_⟩:=x
  cases e'
def ZaR:Value->Int
 | .int k _=>k
 |_=>0
theorem Zf0:∀{l:List Value}{ns:List Int},IntsAre l ns->ns=l.map ZaR
 |_,_,.nil=>rfl
 |_,_,.cons n t r=>by rw[List.map_cons,<-Zf0 r];rfl
theorem ZfZ:∀{l:List Value}{ns:List Int},IntsAre l ns->∀v∈l,∃k t,v=.int k t
 |_,_,.nil,v,h=>by cases h
 |_,_,.cons n t r,v,h=>by
  rcases List.mem_cons.mp h with h|h
  ·exact⟨n,t,h⟩
  ·exact ZfZ r v h
theorem Zdd:∀{l:List Value},(∀v∈l,∃k t,v=.int k t)->IntsAre l (l.map ZaR)
 | [],_=>.nil
 |v::l,h=>by
  obtain⟨k,t,rfl⟩:=h v List.mem_cons_self
  exact .cons k t (Zdd fun u hu=>h u (List.mem_cons_of_mem _ hu))
theorem ZhL {l l':List Value}{ns:List Int}(p:List.Perm l' l)(h:IntsAre l ns):IntsAre l' (l'.map ZaR)/\List.Perm (l'.map ZaR) ns:=
 ⟨Zdd fun v hv=>ZfZ h v (p.mem_iff.mp hv),by rw[Zf0 h];exact p.map _⟩
theorem XU {Q:Value->Shared->Prop}(C:Src prog w T a n Good OK)(hh:A.handled=none)(h64:n<64)(hok:OK s.heap){ns:List Int}(hi:∀P acc,Good P->ItemsOf P acc n->IntsAre acc.toList (acc.toList.map ZaR)/\List.Perm (acc.toList.map ZaR) ns)
    (q:∀(D:Addr) (h':Heap) (dr:Drawn) (tk:Nat) (out:List Value) (ns':List Int) (c:Nat),s.heap.objs.size<=D->(∀b o,s.heap.get? b=some o->h'.get? b=some o)->h'.get? D=some (seqObj "list" out.toArray c)->IntsAre out ns'->List.Perm ns' ns->ns'.Pairwise (· ≤ ·)->Q (.ref D) {s with heap:=h',drawn:=dr,toks:=tk}) :
    wpAny (model prog w) A (call (.builtin "sorted") [.ref a]) Q E s:=by
  have hz : n ≤ sizeLine := by have:(16777216:Nat)=sizeLine:=by decide
                               omega
  refine call_function_entry kind_sorted plain_sorted entry_sorted (args_sorted1 _) ?_
  unfold Builtin.«sorted»
  refine Zl (m:=checkCount "sorted" 1 1 _) (Zm ?_)
  refine Zl (WK (A:=A.in1) C hh hz hok fun h' dr tk acc P hgt hk hg hacc=>?_)
  obtain⟨i1,i2⟩:=hi P acc hg hacc
  have hl:acc.toList.length=n:=by rw[Zr];exact hacc.1
  generalize acc.toList=vs at i1 i2 hl ⊢
  refine Zl (wpAny_newList ?_ (by rw[hl];exact hz))
  have ho:(h'.push {cls:=.type "list",data:=.seq vs.toArray}).get? h'.objs.size=some (seqObj "list" vs.toArray 0):=Zo _ rfl
  have hkk:∀b o,s.heap.get? b=some o->(h'.push {cls:=.type "list",data:=.seq vs.toArray}).get? b=some o:=fun b o e=>Zn _ (hk b o e)
  refine Zl (wpAny_holding ?_)
  refine wpAny_call_entry slot_list_sort ⟨_,ho,rfl⟩ entry_list_sort (list_sort_tree (n:=0) (vs:=vs) ho i1 (by omega) fun out ns' hI hpp hP=>⟨.none,rfl,?_⟩) (args_list_sort _)
  refine Zm ⟨_,rfl,?_⟩
  have o1:=get?_update_seq ho (fun _=>(#[]:Array Value))
  have o2:=Zn (seqObj "tuple" vs.toArray 0) o1
  have o3:=Zn (seqObj "list" #[] 0) o2
  have o4:=get?_update_seq o3 (fun _=>out)
  refine q h'.objs.size _ dr tk out.toList ns' _ (Nat.le_of_lt hgt) (fun b o e=>?_) (by rw[Array.toArray_toList];exact o4) hI (hpp.trans i2) hP
  have hb:b≠h'.objs.size:=Nat.ne_of_lt (Nat.lt_trans (Zp e) hgt)
  unfold sortedHeap
  rw[Heap.get?_update_other _ _ (Ne.symm hb)]
  refine Zn _ (Zn _ ?_)
  rw[Heap.get?_update_other _ _ (Ne.symm hb)]
  exact hkk b o e
end
theorem ZcA (hz:es.size<=sizeLine)(W:Wk t (!w.params.followText "set-order")):Src prog w "set" a es.size (fun P=>∃L:List Value,List.Perm L (Yw es)/\P=fun i v=>L[i]?=some v) (fun h=>Wr h a es ep t) where
 type:=fun s h=>Wr.typeIs h
 keep:=fun h h' S k=>S.keep k
 notList:=by decide
 notTuple:=by decide
 hint:=fun A E s Q S q=>Zf1 (Wr.typeIs S) q
 iter:=fun A E s Q S q=>ZeU hz S W fun I fp h' dr L St hI hfp hk hp Wk' st=>q I fp h' dr _ St hI hfp hk ⟨L,hp,rfl⟩ Wk' st
theorem ZbK {ns:List Int}{Q:Value->Shared->Prop}(hh:A.handled=none)(h64:es.size<64)(hS:Wr s.heap a es ep t)(W:Wk t (!w.params.followText "set-order"))(hi:IntsAre (Yw es) ns)
    (q:∀(D:Addr) (h':Heap) (dr:Drawn) (tk:Nat) (out:List Value) (ns':List Int) (c:Nat),s.heap.objs.size<=D->(∀b o,s.heap.get? b=some o->h'.get? b=some o)->h'.get? D=some (seqObj "list" out.toArray c)->IntsAre out ns'->List.Perm ns' ns->ns'.Pairwise (· ≤ ·)->Q (.ref D) {s with heap:=h',drawn:=dr,toks:=tk}) :
    wpAny (model prog w) A (call (.builtin "sorted") [.ref a]) Q E s:=by
  have hz : es.size ≤ sizeLine := by have:(16777216:Nat)=sizeLine:=by decide
                                     omega
  refine XU (ZcA (ep:=ep) hz W) hh h64 hS (ns:=ns) (fun P acc hg hacc=>?_) q
  obtain⟨L,hp,rfl⟩:=hg
  rw[Zba (by rw[hp.length_eq];unfold Yw;rw[Za,Zr]) hacc]
  exact ZhL hp hi
section
variable {K:Type} [DecidableEq K]{knd:PySem.KeyKind prog w K}{kvs:List (K×Value)}
theorem ZeN (lo:(a == sysModules)=false):Src prog w "dict" a kvs.length (fun P=>P=fun i v=>∃k x,kvs[i]?=some (k,x)/\knd.is k v=true) (fun h=>h.DictAt knd a kvs ep) where
 type:=fun _ hm=>hm.dictOf.typeIs
 keep:=fun _ _ hm hk=>hm.at' hk
 notList:=by decide
 notTuple:=by decide
 hint:=fun _ _ _ _ hm hq=>kdl_hint_dict hm.dictOf.typeIs hq
 iter:=fun A E s Q hm q=>by
  refine wpAny_pyIter_dict lo hm ?_
  refine q s.heap.objs.size [s.heap.objs.size,a] _ s.drawn _ (fun i h=>h.IsKeyIter s.heap.objs.size a i kvs.length ep/\h.DictAt knd a kvs ep) (Zq _) (fun b hb=>?_) (fun b o e=>Zn _ e) rfl
   (fun A' hh=>Walks.dictKeys hh _ a (Nat.ne_of_lt hm.lt_size) kvs ep) ⟨⟨_,Zo _ rfl,rfl,rfl⟩,hm.push _⟩
  simp only[List.mem_cons,List.not_mem_nil,or_false] at hb
  rcases hb with rfl|rfl
  ·right;exact Zq _
  ·left;rfl
end
end
structure SX (prog:Program)(w:World)(h:Heap)(a:Addr)(es:Array (Int×Value))(ep:Nat)(t:SetTable)(S:Int->Bool)(n:Nat):Prop where
 at_:Wr h a es ep t
 el:ElemsOf (intKind prog w) es.toList
 mem:∀k,S k=true↔∃e∈es.toList,(intKind prog w).is k e.2=true
 sb:es.size<scanBound
 sz:es.size=n
 wk:Wk t (!w.params.followText "set-order")
def J0 (prog:Program)(w:World)(h:Heap)(a:Addr)(S:Int->Bool)(n:Nat):Prop:=∃es ep t,SX prog w h a es ep t S n
section
variable {prog:Program}{w:World}{A:Around}{E:Value->Shared->Prop}{s:Shared}{a:Addr}
theorem J0.keep {h h':Heap}{S:Int->Bool}{n:Nat}(X:J0 prog w h a S n)(k:∀o,h.get? a=some o->h'.get? a=some o):J0 prog w h' a S n:=by
 obtain⟨es,ep,t,X⟩:=X
 exact⟨es,ep,t,X.at_.keep k,X.el,X.mem,X.sb,X.sz,X.wk⟩
theorem J0.congr {h:Heap}{S S':Int->Bool}{n n':Nat}(X:J0 prog w h a S n)(e:∀k,S k=S' k)(en:n=n'):J0 prog w h a S' n':=by
 have:S=S':=funext e
 subst this
 subst en
 exact X
theorem stored {h:Heap}{es es':Array (Int×Value)}{ep:Nat}{t t':SetTable}(S:Wr h a es ep t)(hf:t'.fits es'.size=true):Wr (h.update a (Obj.putSet es' t')) a es' (ep+1) t':=by
 obtain⟨o,e,x,d,_⟩:=S
 have hg:=Heap.get?_update_self (Obj.putSet es' t') e (by rw[putSet_of es' t' d];rfl)
 rw[putSet_of es' t' d] at hg
 exact⟨_,hg,x,rfl,hf⟩
theorem YE {es es':Array (Int×Value)}{ep:Nat}{t t':SetTable}{Q:Unit->Shared->Prop}(S:Wr s.heap a es ep t)(hz:es'.size<=sizeLine)(q:Q () {s with heap:=s.heap.update a (Obj.putSet es' t')}):wpAny (model prog w) A (storeSet a es' t') Q E s:=by
 obtain⟨o,e,x,d,_⟩:=S
 exact wpAny_storeSet_of e d q hz
theorem Zbp {g:Bool->Sem Unit}(hg:∀(b:Bool) (s₁:Shared) (Q':Unit->Shared->Prop),Q' () s₁->wpAny (model prog w) A (g b) Q' E s₁){es es1:Array (Int×Value)}{ep:Nat}{t t2:SetTable}{led:Bool}(S:Wr s.heap a es ep t)(hz:es1.size<=sizeLine)(f2:t2.fits es1.size=true)(w2:Wk t2 led)
  {wasD:Bool}{R:Option Bool->Shared->Prop} (fin:∀(h':Heap) (es':Array (Int×Value)) (ep':Nat) (t':SetTable),Heap.SameBut a s.heap h'->Wr h' a es' ep' t'->List.Perm es'.toList es1.toList->Wk t' led->R (some true) {s with heap:=h'}) :
  wpAny (model prog w) A (do
    storeSet a es1 t2
    if (!wasD && t2.tooFull)=true then do
      g (relayAll t2 es1 (SetTable.grown es1.size)).2.2
      storeSet a (relayAll t2 es1 (SetTable.grown es1.size)).1 (relayAll t2 es1 (SetTable.grown es1.size)).2.1
      pure (some true)
     else pure (some true)) R E s:=by
 refine Zl (YE S hz ?_)
 have S2:=stored S (es':=es1) f2
 have sbb:=Heap.SameBut.update s.heap a (Obj.putSet es1 t2)
 generalize s.heap.update a (Obj.putSet es1 t2)=h2 at S2 sbb ⊢
 by_cases hfull:(!wasD && t2.tooFull)=true
 ·rw[if_pos hfull]
  have hp3:=relayAll_perm t2 es1 (SetTable.grown es1.size)
  have hf3:=relayAll_fits t2 es1 (SetTable.grown es1.size)
  have hw3:=w2.relay es1 (SetTable.grown es1.size)
  generalize relayAll t2 es1 (SetTable.grown es1.size)=Rl at hp3 hf3 hw3 ⊢
  obtain⟨es2,t3,gave2⟩:=Rl
  dsimp only at hp3 hf3 hw3 ⊢
  have hs2:es2.size=es1.size:=by rw[<-Zr,hp3.length_eq,Zr]
  refine Zl (hg _ _ _ ?_)
  refine Zl (YE (s:={s with heap:=h2}) S2 (by rw[hs2];exact hz) ?_)
  exact Zm (fin _ es2 _ t3 (sbb.trans (Heap.SameBut.update _ a _)) (stored S2 hf3) hp3 hw3)
 ·rw[if_neg hfull]
  exact Zm (fin h2 es1 _ t2 sbb S2 (List.Perm.refl _) w2)
theorem add_int {S:Int->Bool}{n:Nat}{k:Int}{x:Value}{Q:Bool->Shared->Prop}(hkey:(intKind prog w).is k x=true)(hsc:x.scannable=true)(X:J0 prog w s.heap a S n)(hroom:n+1<scanBound)
  (q:∀b h',Heap.SameBut a s.heap h'->J0 prog w h' a (fun k'=>S k' || decide (k'=k)) (if S k then n else n+1)->Q b {s with heap:=h'}) :
  wpAny (model prog w) A (setAddHashed a x ((intKind prog w).hash k)) Q E s:=by
 obtain⟨es,ep,t,X⟩:=X
 obtain⟨o,e1,e2,e3,e4⟩:=id X.at_
 unfold setAddHashed setAddHashedIn
 refine wpAny_holding (Zl (X.at_.state ?_))
 dsimp only
 rw[byScan_of hsc X.sb X.el]
 simp only[↓reduceIte]
 unfold setAddByScan
 refine Zl (Zl (wpAny_rule (Zl (wpAny_setScan_of hkey e1 e3 e4 X.el ?_))))
 cases hr:List.findIdx? (fun e=>(intKind prog w).is k e.2) es.toList with
 |some j=>
  obtain⟨hj,hpj,_⟩:=List.findIdx?_eq_some_iff_getElem.mp hr
  have hSk:S k=true:=(X.mem k).mpr ⟨_,List.getElem_mem hj,hpj⟩
  refine Zm (Zm ?_)
  have:=q false s.heap (Heap.SameBut.refl a s.heap) ⟨es,ep,t,X.at_,X.el,fun k'=>?_,X.sb,by rw[hSk];exact X.sz,X.wk⟩
  ·exact this
  ·rw[Bool.or_eq_true,decide_eq_true_eq,<-X.mem k']
   exact⟨fun h=>h.elim id fun e=>by rw[e];exact hSk,.inl⟩
 |none=>
  have hSk:S k=false:=by
   cases hk:S k with
   |false=>rfl
   |true=>
    obtain⟨e,he,hp⟩:=(X.mem k).mp hk
    have:=List.findIdx?_eq_none_iff.mp hr e he
    rw[hp] at this
    exact Bool.noConfusion this
  dsimp only
  have hperm:=layNew_perm t es ((intKind prog w).hash k) x
  have hfits:=layNew_fits t es ((intKind prog w).hash k) x
  have hwk:=X.wk.lay es ((intKind prog w).hash k) x
  generalize layNew t es ((intKind prog w).hash k) x=L at hperm hfits hwk ⊢
  obtain⟨es1,t1,wasD,gave⟩:=L
  dsimp only at hperm hfits hwk ⊢
  rw[Array.toList_push] at hperm
  have hgw:∀(b:Bool) {s₁:Shared}{Q':Unit->Shared->Prop},Q' () s₁->wpAny (model prog w) A (match b with|true=>rule "set.scan.the-table-gave-way" |false=>pure ()) Q' E s₁:=
   fun b s₁ Q' hq=>by cases b <;> first|exact Zm hq|exact wpAny_rule hq
  have sz1:es1.size=n+1:=by rw[<-Zr,hperm.length_eq,Zd,Zr,X.sz];rfl
  have el1:ElemsOf (intKind prog w) es1.toList:=(X.el.push hkey hsc).perm hperm
  have mem1:∀k',(S k' || decide (k'=k))=true↔∃e∈es1.toList,(intKind prog w).is k' e.2=true:=mem_push_iff hkey X.mem hperm
  have sb1:es1.size<scanBound:=by rw[sz1];exact hroom
  have zl:∀m,m<scanBound->m<=sizeLine:=fun m h=>fits_of_scanBound h
  have fin:∀(h':Heap) (es':Array (Int×Value)) (ep':Nat) (t':SetTable),Heap.SameBut a s.heap h'->Wr h' a es' ep' t'->List.Perm es'.toList es1.toList->Wk t' (!w.params.followText "set-order")->Q true {s with heap:=h'}:=fun h' es' ep' t' sb at' hp wk'=>by
   have hs:es'.size=es1.size:=by rw[<-Zr,hp.length_eq,Zr]
   refine q true h' sb ⟨es',ep',t',at',el1.perm hp,fun k'=>?_,by rw[hs];exact sb1,by rw[hSk,hs];exact sz1,wk'⟩
   rw[mem1 k']
   exact⟨fun ⟨e,he,r⟩=>⟨e,hp.mem_iff.mpr he,r⟩,fun ⟨e,he,r⟩=>⟨e,hp.mem_iff.mp he,r⟩⟩
  refine Zl (hgw gave ?_)
  split
  ·refine Zl ?_
   rw[hashByValue_scannable 8 hsc]
   refine Zm ?_
   refine Zbp (fun b s₁ Q' hq=>?_) X.at_ (zl _ sb1) ?_ ?_ fun h' es' ep' t' sb at' hp wk'=>Zm (fin h' es' ep' t' sb at' hp wk')
   ·cases b <;> first|exact Zm hq|exact wpAny_rule hq
   ·split
    ·exact hfits
    ·exact SetTable.fits_plain_off hfits
   ·split
    ·exact hwk
    ·exact hwk.plain false
  ·refine Zl (Zm ?_)
   simp only[↓reduceIte]
   refine Zbp (fun b s₁ Q' hq=>?_) X.at_ (zl _ sb1) hfits hwk fun h' es' ep' t' sb at' hp wk'=>Zm (fin h' es' ep' t' sb at' hp wk')
   cases b <;> first|exact Zm hq|exact wpAny_rule hq
end
section
variable {prog:Program}{w:World}{A:Around}{R:Result->Shared->Prop}{I:Addr}{fp wr:List Addr}{G:Array GenState->Array GenState->Prop}{n:Nat}{P:Nat->Value->Prop}{St:Nat->Shared->Prop}
theorem Zar (W:WalksS prog w A.in1 I fp wr G n P St)(S:Addr)(hSf:S∉fp)(val:Nat->Int)(hval:∀i v,P i v->∃t,v=.int (val i) t)(hb:n+1<scanBound) :
  ∀(k i:Nat) (s:Shared),n-i=k->i<=n->St i s->J0 prog w s.heap S (fun k'=>(firstMet val i).any (· == k')) (firstMet val i).length->
   (∀s',Moved (S::wr) G s s'->J0 prog w s'.heap S (fun k'=>(firstMet val n).any (· == k')) (firstMet val n).length->R (.ok (.ret .none)) s')->
   codeAny (model prog w) A (.builtin "set.update.loop" ⟨[.ref S,.ref I],[]⟩) R s:=by
 have hSw:S∉wr:=fun h=>hSf (W.sub _ h)
 have hsub:∀b∈wr,b∈S::wr:=fun b hb=>List.mem_cons_of_mem _ hb
 intro k
 induction k with
 |zero=>
  intro i s hk hi hst hS hR
  have hin:i=n:=by omega
  subst hin
  refine codeAny_builtin PyProof.Rows.F.entry_set_update_loop ?_
  rw[Around.under_plainId PyProof.Rows.F.plain_set_update_loop _]
  show wpAny _ A.in1 (pyNext (.ref I) >>= _) _ _ s
  refine Zl (W.done s _ _ hst fun s' hm=>?_)
  show wpAny _ A.in1 (ret Value.none) _ _ s'
  exact Zm (hR s' (hm.mono hsub) (hS.keep fun o e=>hm.heap S o hSw e))
 |succ k ih=>
  intro i s hk hi hst hS hR
  have hlt:i<n:=by omega
  refine codeAny_builtin PyProof.Rows.F.entry_set_update_loop ?_
  rw[Around.under_plainId PyProof.Rows.F.plain_set_update_loop _]
  show wpAny _ A.in1 (pyNext (.ref I) >>= _) _ _ s
  refine Zl (W.item i s _ _ hlt hst fun v s' hP hst' hm=>?_)
  obtain⟨t,rfl⟩:=hval i v hP
  have hS':=hS.keep fun o e=>hm.heap S o hSw e
  show wpAny _ A.in1 (holding [Value.int (val i) t] (setAdd S (.int (val i) t)) >>= _) _ _ s'
  refine Zl (wpAny_holding ?_)
  unfold setAdd
  refine wpAny_holding ?_
  refine Zl ((intKind prog w).pyHash (k:=val i) (intKind_is _ _ _ _) ?_)
  have hroom:(firstMet val i).length+1<scanBound:=by have:=firstMet_length_le val i;omega
  refine add_int (s:={s' with toks:=s'.toks+1}) (intKind_is _ _ _ _) rfl hS' hroom fun _ h' hsb hS2=>?_
  have hSi:J0 prog w h' S (fun k'=>(firstMet val (i+1)).any (· == k')) (firstMet val (i+1)).length:=
   hS2.congr (fun k'=>by rw[firstMet_succ,step_any]) (by rw[firstMet_succ,step_length])
  refine Zm ⟨plainId_quiet PyProof.Rows.F.plain_set_update_loop _,ih (i+1) _ (by omega) hlt (W.frame _ s' _ _ hst' (Nat.le_succ _) fun b hb o e=>?_) hSi fun s'' hm'' hS''=>?_⟩
  ·rw[hsb.2 b (fun h:b=S=>hSf (by rw[<-h];exact hb))];exact e
  ·refine hR s'' (Moved.trans W.gtrans ((hm.mono hsub).then_heap (Nat.le_succ _) fun b o hb e=>?_) hm'') hS''
   rw[hsb.2 b (fun h:b=S=>hb (by rw[h];exact List.mem_cons_self))];exact e
end
section
variable {prog:Program}{w:World}{A:Around}{E:Value->Shared->Prop}{s:Shared}
theorem UA (a:Value){Q₁:Value->Shared->Prop}
  (h:Q₁ (.ref s.heap.objs.size) {s with heap:=s.heap.push {cls:=.type "set",dict:=none,data:=.set #[] 0 (.fresh 0 0 (!w.params.followText "set-order"))}}) :
  codeAny (model prog w) A (.call (.builtin "set.__new__") ⟨[.type "set",a],[]⟩) (wants Q₁ E) s:=by
 refine codeAny_of_tree ?_
 show wpAny _ A.in1 (do checkBuiltinCall "set.__new__" ⟨[.type "set",a],[]⟩;again (.builtin "set.__new__" ⟨[.type "set",a],[]⟩)) _ _ s
 refine Zl (wpAny_of_eq (PySem.F.newCall_set_1 a) (Zm ⟨plainId_quiet PySem.F.plain_set_new _,codeAny_builtin PySem.F.entry_set_new ?_⟩))
 rw[Around.under_plainId PySem.F.plain_set_new _]
 unfold Builtin.«set.__new__» Builtin.Frozenset.newClass
 have hsub:=sub_set_self
 obtain⟨hp,g,d,tk,os⟩:=s
 dsimp only
 wp_walk
 refine wpAny_askSetting (Zm ?_)
 dsimp only
 simp only[newObj]
 refine Zl (wpAny_alloc (Zm ?_))
 exact Zm h
theorem Zdg {h:Heap}{a:Addr}(e:h.get? a=some {cls:=.type "set",dict:=none,data:=.set #[] 0 (.fresh 0 0 (!w.params.followText "set-order"))}):J0 prog w h a (fun _=>false) 0:=
 ⟨#[],0,_,⟨_,e,⟨rfl,rfl,rfl⟩,rfl,rfl⟩,fun x hx=>(by simp at hx),fun k=>(by simp),by unfold scanBound;decide,rfl,Wk.fresh _⟩
abbrev XN (prog:Program)(w:World)(s:Shared)(ns:List Int)(n:Nat)(h':Heap):Prop:=
 J0 prog w h' s.heap.objs.size (fun k'=>(L2.Yt ns n).any (· == k')) (L2.Yt ns n).length/\∀b o,b<s.heap.objs.size->s.heap.get? b=some o->h'.get? b=some o
theorem Xr {l:Addr}{items:Array Value}{ns:List Int}{Q:Value->Shared->Prop}(hh:A.handled=none)(hl:s.heap.IsList l items)(hi:IntsAre items.toList ns)(hb:items.size+1<scanBound)
  (h:∀(h':Heap) (tk:Nat),XN prog w s ns items.size h'->Q (.ref s.heap.objs.size) {s with heap:=h',toks:=tk}):wpAny (model prog w) A (call (.type "set") [.ref l]) Q E s:=by
 obtain⟨c,tl,hmro⟩:=PySem.F.called_set.mro
 have hmade:=PySem.F.called_set.made;have hsub:=PySem.F.called_set.sub
 refine wpAny_call (codeAny_of_tree ?_);show wpAny _ _ (callAny (.type "set") _) _ _ _
 refine Zm ⟨Code.quiet_builtin _ (by decide +kernel),codeAny_builtin PySem.F.entry_type_call ?_⟩;rw[Around.under_plain (weight_type_call_type "set" [.ref l] []) rfl]
 have h1:=PySem.F.called_set.notType;have h2:=PySem.F.called_set.canCreate;have hct:=PySem.F.typeCall_set_1 (.ref l)
 repeat (any_goals (first|assumption|wp_step))
 let ob:Obj:={cls:=.type "set",dict:=none,data:=.set #[] 0 (.fresh 0 0 (!w.params.followText "set-order"))}
 refine codeAny_mono (UA (.ref l) (E:=E) (Q₁:=fun obj s₁=>obj=.ref s.heap.objs.size/\s₁={s with heap:=s.heap.push ob}) ⟨rfl,rfl⟩) fun r s₁ hr=>?_
 cases r with
 |error e=>exact hr
 |ok fl=>
  cases fl with
  |ret obj=>
   obtain⟨rfl,rfl⟩:=hr
   have hS:(s.heap.push ob).get? s.heap.objs.size=some ob:=Zo _ rfl
   have hT:Shared.TypeIs {s with heap:=s.heap.push ob} (.ref s.heap.objs.size) "set":=⟨_,hS,rfl⟩
   have hli:=PySem.F.called_set.init.lookup;have hbi:=PySem.F.called_set.init.bind (.ref s.heap.objs.size)
   repeat (any_goals (first|assumption|wp_step))
   refine codeAny_mono (codeAny_call_builtin (R:=wants (fun r s₂=>r=.none/\∃h' tk,s₂={s with heap:=h',toks:=tk}/\XN prog w s ns items.size h') E) PySem.F.called_set.init.plain PySem.F.entry_set_init (check_set_init_1 hT ?_)) fun r₂ s₂ hr₂=>?_
   ·obtain⟨ol,J4,hcl,nl,hdl⟩:=id hl
    obtain⟨ocls,odict,odata,oslots⟩:=ol
    simp only at hcl hdl
    subst hcl;subst hdl
    have hol':(s.heap.push ob).get? l=some {cls:=.type "list",dict:=odict,data:=.seq items nl,slots:=oslots}:=Zn _ J4
    have hsls:=PySem.F.sub_list_set;have hslf:=PySem.F.sub_list_frozenset
    have hne:(Value.type "list" == Value.type "dict")=false:=by decide
    have hl1:(s.heap.push ob).IsList l items:=⟨_,hol',rfl,nl,rfl⟩
    unfold Builtin.«set.__init__» noKeywords Builtin.Frozenset.updateFrom;generalize hPI:pyIter=PI
    wp_walk
    subst hPI
    refine wpAny_pyIter_list hl1 ?_
    refine Zl (wpAny_runValue ?_)
    have hlS:l<s.heap.objs.size:=Zp J4
    have hneI:l≠(s.heap.push ob).objs.size:=by rw[Heap.size_push];exact Nat.ne_of_lt (Nat.lt_succ_of_lt hlS)
    have hSf:s.heap.objs.size∉[(s.heap.push ob).objs.size,l]:=by
     rw[Heap.size_push];intro z
     rcases List.mem_cons.mp z with z|z
     ·exact absurd z (Nat.ne_of_lt (Nat.lt_succ_self _))
     ·exact absurd (List.mem_singleton.mp z) (Nat.ne_of_gt hlS)
    refine Zar ((Walks.list (A:=A.in1.in1.in1) (by simp[hh]) _ l hneI items).toS) s.heap.objs.size hSf (fun i=>ns.getD i 0) (fun i v hv=>IntsAre.int_at hi i v (by rw[Array.getElem?_toList];exact hv)) hb (items.size-0) 0 _ (by omega) (Nat.zero_le _)
     ⟨⟨_,Zo _ rfl,rfl,rfl⟩,⟨_,Zn _ hol',rfl,nl,rfl⟩⟩ ?hS0 ?hR
    case hS0=>exact (Zdg (Zn _ hS)).congr (fun _=>rfl) rfl
    case hR=>
     intro s' hm hS'
     obtain⟨h',g',d',tk',os'⟩:=s'
     obtain rfl:g'=s.gens:=hm.gens
     obtain rfl:d'=s.drawn:=hm.drawn
     obtain rfl:os'=s.os:=hm.os
     show wpAny _ _ _ _ _ _
     refine Zm ?_;show wpAny _ _ (ret Value.none) _ _ _
     refine Zm ⟨rfl,h',tk',rfl,hS',fun b o hb e=>hm.heap b o (fun z=>?_) (Zn _ (Zn _ e))⟩
     rcases List.mem_cons.mp z with z|z
     ·exact absurd z (Nat.ne_of_lt hb)
     ·refine absurd (List.mem_singleton.mp z) (Nat.ne_of_lt ?_);rw[Heap.size_push];exact Nat.lt_succ_of_lt hb
   ·cases r₂ with
    |error e=>exact hr₂
    |ok fl₂=>
     cases fl₂ with
     |ret r=>
      obtain⟨rfl,h',tk,rfl,he⟩:=hr₂
      repeat (any_goals (first|assumption|wp_step))
      exact h _ _ he
     |_=>exact hr₂.elim
  |_=>exact hr.elim
end
end PyS
namespace L2
open PySem PySem.Spec PyProof.Rows
theorem Xt:∀{M L:List Int},M.Nodup->(∀x∈M,x∈L)->L.length=M.length->List.Perm L M
 | [],L,_,_,h=>by
  have:L=[]:=List.length_eq_zero_iff.mp (by simpa using h)
  subst this
  exact List.Perm.refl _
 |x::M,L,hn,hs,h=>by
  have hx:=hs x List.mem_cons_self
  have hp:=List.perm_cons_erase hx
  rw[List.nodup_cons] at hn
  refine hp.trans ((Xt hn.2 (fun y hy=>?_) ?_).cons x)
  ·have hne:y≠x:=fun z=>hn.1 (z▸hy)
   exact (List.mem_erase_of_ne hne).mpr (hs y (List.mem_cons_of_mem _ hy))
  ·have:=hp.length_eq
   rw[Zi] at this
   rw[Zi] at h
   omega
theorem XG:∀{out:List Value}{ns:List Int},IntsAre out ns->ZB (ns.map V.int) out
 |_,_,.nil=>.nil
 |_,_,.cons n t r=>.cons ⟨t,rfl⟩ (XG r)
def XC (prog:Program)(w:World)(a:Addr)(M:List Int):HO:=.ext fun h=>PyS.J0 prog w h a (fun k=>M.any (· == k)) M.length
section
variable {X:Cx}{pins:List (Addr×Obj)}{σ:L2.St}{H:Hp}{s:Shared}
theorem Inv.drawn (I:Inv X pins σ H s)(d:Drawn):Inv X pins σ H {s with drawn:=d}:=⟨I.ok,I.os,I.bare,I.base,I.loc,I.cell,I.free,I.freeC,I.pin,I.hok,I.len⟩
theorem Zes (hc:X.calm=true):ZP X (.type "set") (fun xs H Q=>∃(a:Addr) (ns:List Int),xs=[.ref a]/\Y0 X.K H a (ns.map V.int)/\ns.length<1000/\∀p,H p=none->Q (.ref p) (upd H p (XC X.prog X.w p (Yt ns ns.length)))):=by
 intro pins s σ H xs us Q I r h
 obtain⟨a,ns,rfl,hq,hn,q⟩:=h
 obtain⟨u,rfl,ru⟩:=vals1 r
 cases ru
 obtain⟨its,rv,p,hz⟩:=I.list hq
 have hl:its.toArray.size=ns.length:=by rw[Zh,<-rv.length,Za]
 refine PyS.Xr (I.ok.hd hc) p.isList (ns:=ns) (by simpa using JT rv) (by rw[hl];unfold scanBound;omega) fun h' tk ⟨e1,e2⟩=>?_
 rw[hl] at e1
 refine⟨.ref _,_,I.laid (a:=s.heap.objs.size) (o:=XC X.prog X.w s.heap.objs.size (Yt ns ns.length)) (t':=tk) (fun b o e=>e2 b o (Zp e) e) (Zq _) ⟨e1,?_,fun h1 h2 x k=>x.keep k⟩,rfl,q _ (I.hok.fresh (Zq _))⟩
 obtain⟨es,ep,t,⟨o,e,_⟩,_⟩:=e1
 exact⟨o,e⟩
theorem Jx (hc:X.calm=true):ZP X (.builtin "sorted") (fun xs H Q=>∃(a:Addr) (M:List Int),xs=[.ref a]/\H a=some (XC X.prog X.w a M)/\M.Nodup/\M.length<64/\∀l ns,H l=none->List.Perm ns M->ns.Pairwise (· ≤ ·)->Q (.ref l) (upd H l (.lst (ns.map V.int)))):=by
 intro pins s σ H xs us Q I r h
 obtain⟨a,M,rfl,ha,hn,h64,q⟩:=h
 obtain⟨u,rfl,ru⟩:=vals1 r
 cases ru
 obtain⟨X0,_,_⟩:=(show ZN X.prog X.w H s.heap a (XC X.prog X.w a M) from I.hok a _ ha)
 obtain⟨es,ep,t,X0⟩:=X0
 have hint:∀v∈PyS.Yw es,∃k tk,v=.int k tk:=fun v hv=>by
  obtain⟨e,he,rfl⟩:=List.mem_map.mp hv
  obtain⟨⟨k,hk,_⟩,_⟩:=X0.el e he
  obtain⟨tk,et⟩:=Value.isInt_shape hk
  exact⟨k,tk,et⟩
 have hia:=PyS.Zdd hint
 have hp:List.Perm ((PyS.Yw es).map PyS.ZaR) M:=by
  refine Xt hn (fun x hx=>?_) ?_
  ·have hS:M.any (· == x)=true:=List.any_eq_true.mpr ⟨x,hx,by simp⟩
   obtain⟨e,he,hk⟩:=(X0.mem x).mp hS
   obtain⟨tk,et⟩:=Value.isInt_shape hk
   refine List.mem_map.mpr ⟨e.2,List.mem_map.mpr ⟨e,he,rfl⟩,?_⟩
   rw[et]
   rfl
  ·unfold PyS.Yw
   rw[Za,Za,Zr]
   exact X0.sz
 refine PyS.ZbK (I.ok.hd hc) (by rw[X0.sz];exact h64) X0.at_ X0.wk hia fun D h' dr tk out ns' c hD kp hD' hi hpp hP=>?_
 have hl:ZB (ns'.map V.int) out:=XG hi
 have sz:(16777216:Nat)=sizeLine:=by decide
 have hll:ns'.length=M.length:=(hpp.trans hp).length_eq
 refine⟨.ref D,_,(I.laid (a:=D) (o:=.lst (ns'.map V.int)) (t':=tk) kp hD ⟨by rw[Za];omega,out,c,hl,hD'⟩).drawn dr,rfl,q _ ns' (I.hok.fresh hD) (hpp.trans hp) hP⟩
end
section
variable {X:Cx}{pins:List (Addr×Obj)}{σ:L2.St}{H:Hp}{s:Shared}
theorem Vx (hc:X.calm=true):ZP X (.builtin "sorted") (fun xs H Q=>∃(a:Addr) (kvs:List (Z0×V)) (ks:List Int),xs=[.ref a]/\H a=some (.dK kvs)/\kvs.map (·.1)=ks.map Sum.inl/\ks.length<64/\∀l ns,H l=none->List.Perm ns ks->ns.Pairwise (· ≤ ·)->Q (.ref l) (upd H l (.lst (ns.map V.int)))):=by
 intro pins s σ H xs us Q I r h
 obtain⟨a,kvs,ks,rfl,ha,hk,h64,q⟩:=h
 obtain⟨u,rfl,ru⟩:=vals1 r
 cases ru
 obtain⟨z,lo,vs,kv,hD⟩:=Zgk I.hok ha
 obtain⟨ep,hat⟩:=hD.dictAt
 have hl:vs.length=ks.length:=by rw[<-kv.length,<-Za (f:=fun p:Z0×V=>p.1),hk,Za]
 have hvk:vs.map (·.1)=ks.map Sum.inl:=by rw[<-kv.keys];exact hk
 refine PyS.XU (PyS.ZeN (knd:=ZU X.prog X.w) (kvs:=vs) (ep:=ep) lo) (I.ok.hd hc) (by omega) hat (ns:=ks) (fun P acc hg hacc=>?_) fun D h' dr tk out ns' c hD' kp hD2 hi hpp hP=>?_
 ·subst hg
  have key:∀i v,acc.toList[i]?=some v->∃t,v=.int (ks.getD i 0) t/\i<ks.length:=fun i v e=>by
   rw[Array.getElem?_toList] at e
   obtain⟨k,x,e1,e2⟩:=hacc.2 i v e
   have e3:(vs.map (·.1))[i]?=some k:=by rw[Zc,e1];rfl
   rw[hvk,Zc] at e3
   cases hki:ks[i]? with
   |none=>rw[hki] at e3;cases e3
   |some j=>
    rw[hki] at e3
    cases e3
    obtain⟨t,et⟩:=Value.isInt_shape (show Value.isInt j v=true from e2)
    exact⟨t,by rw[et,Zb,hki];rfl,(List.getElem?_eq_some_iff.mp hki).1⟩
  have e:acc.toList.map PyS.ZaR=ks:=by
   refine List.ext_getElem? fun i=>?_
   rw[Zc]
   by_cases hi:i<ks.length
   ·have hs:i<acc.toList.length:=by rw[Zr,hacc.1];omega
    obtain⟨t,e1,_⟩:=key i _ (Zf hs)
    rw[Zf hs,e1,Option.map_some,Zf hi,Zb,Zf hi]
    rfl
   ·rw[List.getElem?_eq_none (by rw[Zr,hacc.1];omega),List.getElem?_eq_none (by omega)]
    rfl
  refine⟨PyS.Zdd fun v hv=>?_,by rw[e]⟩
  obtain⟨i,hi⟩:=List.getElem?_of_mem hv
  obtain⟨t,e1,_⟩:=key i v hi
  exact⟨_,t,e1⟩
 ·have hl2:ZB (ns'.map V.int) out:=XG hi
  have sz:(16777216:Nat)=sizeLine:=by decide
  have hll:ns'.length=ks.length:=hpp.length_eq
  exact⟨.ref D,_,(I.laid (a:=D) (o:=.lst (ns'.map V.int)) (t':=tk) kp hD' ⟨by rw[Za];omega,out,c,hl2,hD2⟩).drawn dr,rfl,q _ ns' (I.hok.fresh hD') hpp hP⟩
end
end L2
namespace C23
open PySem L2 PySem.Spec PyProof.Rows
def top (i:Nat):Stmt:=PySem.Challenge.pw_classtab_k23_groups_over_parts.main.body.getD i (.Pass ⟨0,0,0,0⟩)
abbrev Zia:Stmt:=top 36
abbrev ZeZ:Stmt:=top 37
structure BlB (mg:Str->Option Value):Prop where
 list:mg "list"=none
 len:mg "len"=none
 range:mg "range"=none
 tuple:mg "tuple"=none
 max:mg "max"=none
 sorted:mg "sorted"=none
def tpK (c l n:Int):List (Z0×V):=[(.inr "cell",.int c),(.inr "left",.int l),(.inr "turn",.int n)]
def Yc (H:Hp)(p:Addr)(b:Nat):Prop:=∃c l n:Int,H p=some (.dK (tpK c l n))/\0<=l/\0<=n/\n<=b
theorem Yc.mono {H H':Hp}{p:Addr}{b:Nat}(s:Same H H')(h:Yc H p b):Yc H' p b:=by
 obtain⟨c,l,n,h1,h2⟩:=h
 exact⟨c,l,n,s _ _ h1,h2⟩
theorem Yc.le {H:Hp}{p:Addr}{b b':Nat}(h:Yc H p b)(hb:b<=b'):Yc H p b':=by
 obtain⟨c,l,n,h1,h2,h3,h4⟩:=h
 exact⟨c,l,n,h1,h2,h3,by omega⟩
theorem ZjI {H:Hp}{p:Addr}{c l n:Int}(h:H p=some (.dK (tpK c l n))):WH H p (.str "cell") (some (.int c)):=WH.k (k:=.inr "cell") h
theorem Zcb {H:Hp}{p:Addr}{c l n:Int}(h:H p=some (.dK (tpK c l n))):WH H p (.str "left") (some (.int l)):=WH.k (k:=.inr "left") h
theorem ZjH {H:Hp}{p:Addr}{c l n:Int}(h:H p=some (.dK (tpK c l n))):WH H p (.str "turn") (some (.int n)):=WH.k (k:=.inr "turn") h
theorem Zja {H:Hp}{p:Addr}{c l n l':Int}(h:H p=some (.dK (tpK c l n))):Xo H p (.str "left") (.int l') (upd H p (.dK (tpK c l' n))):=Xo.k (k:=.inr "left") h (by rw[sizeLine_eq];show 3<_;omega)
theorem Zi9 {H:Hp}{p:Addr}{c l n n':Int}(h:H p=some (.dK (tpK c l n))):Xo H p (.str "turn") (.int n') (upd H p (.dK (tpK c l n'))):=Xo.k (k:=.inr "turn") h (by rw[sizeLine_eq];show 3<_;omega)
theorem _root_.L2.Same.upd2 {H:Hp}{p:Addr}{o o':HO}(h:H p=none):Same H (upd (upd H p o) p o'):=fun b u e=>by
 have hb:b≠p:=fun z=>by rw[z,h] at e;cases e
 rw[Zw hb,Zw hb]
 exact e
def Tk (p:Addr)(H H':Hp):Prop:=∀b o,H b=some o->b≠p->H' b=some o
theorem Tk.of {p:Addr}{H H':Hp}(s:Same H H'):Tk p H H':=fun b o e _=>s b o e
theorem Tk.trans {p:Addr}{H H1 H2:Hp}(a:Tk p H H1)(b:Tk p H1 H2):Tk p H H2:=fun c o e n=>b c o (a c o e n) n
theorem Yc.ne {H:Hp}{p a:Addr}{b:Nat}{o:HO}(h:Yc H p b)(e:H a=some o)(hd:∀kvs,o≠.dK kvs):a≠p:=fun z=>by
 obtain⟨c,l,n,h1,_⟩:=h
 rw[z,h1] at e
 exact hd _ (Option.some.inj e).symm
theorem Yc.neN {H:Hp}{p a:Addr}{b:Nat}(h:Yc H p b)(e:H a=none):a≠p:=fun z=>by
 obtain⟨c,l,n,h1,_⟩:=h
 rw[z,h1] at e
 cases e
theorem Tk.tup {p a:Addr}{H H':Hp}{b:Nat}{xs:List V}(d:Tk p H H')(T:Yc H p b)(h:H a=some (.tup xs)):H' a=some (.tup xs):=d a _ h (T.ne h fun _ z=>by cases z)
theorem Tk.lst {p a:Addr}{H H':Hp}{b:Nat}{xs:List V}(d:Tk p H H')(T:Yc H p b)(h:H a=some (.lst xs)):H' a=some (.lst xs):=d a _ h (T.ne h fun _ z=>by cases z)
def ZeP (K:PySem.W.Frag):Sp:=fun vs H Q _=>∃(a:Addr) (ns:List Int) (i:Nat),vs=[.ref a,.int i]/\Y0 K H a (ns.map V.int)/\ns.length<=63/\∀p H',Same H H'->H p=none->Yc H' p 0->Q (.ref p) H'
def Us:Sp:=fun vs H Q _=>∃(p:Addr) (m:Int) (b:Nat),vs=[.ref p,.int m]/\Yc H p b/\b<2 ^ 60/\0<m/\m<1073741824/\∀r H',0<=r->r<m->Tk p H H'->Yc H' p (b+1)->Q (.int r) H'
section
variable {P:Program}{w:World}{K:PySem.W.Frag}{mg:Str->Option Value}{base:Heap}
theorem Zhl {f:Addr}{fd:FuncData}(F:Wf K "_law_pick" "_law_pick" ZeZ f fd):ZQ P w K mg base Z2 1 f fd ["_law_tape_here", "_law_many"] Us:=by
 refine F.ok (FS (N:=["_law_tape_here", "_law_many", "_law_turn", "_law_found", "_law_stirred"])) (fun vs H Q E h=>?_) (fun cdv A outer s H vs Q E hr h=>?_)
 ·obtain⟨p,m,b,rfl,_⟩:=h;rfl
 ·obtain⟨p,m,b,rfl,⟨c,l,n,h1,l0,n0,nb⟩,hb,m0,m1,q⟩:=h
  have hu:(A.deeper (envOfC "_law_pick" (ZH ZeZ) s.heap.objs.size f cdv)).units+1<cLine:=by have:=hr.un;omega
  refine⟨_,Zu (ZR 2 rfl (ZS Wx (W9 hu (vn 0) Yn (fun _ _=>rfl)) Zz))
   (Zu (JM hu (vn 0) Yn (vn 2) (by rfl))
   (Zu (Z3 (ZF ZcY (W9 hu (vn 0) Yn (fun _ _=>rfl)) Zz (ZM _))
    (Zu (ZR 3 rfl (ZS WP (W9 hu (vn 0) Yn (fun _ _=>rfl)) (vn 1)))
    (Zu (JM hu (vn 0) Yn (ZS UV (W9 hu (vn 0) Yn (fun _ _=>rfl)) (vn 1)) (by rfl))
    (Zv (ZC (vn 3))))) ZJ)
   (Zu (ZR 4 rfl (ZS Xc (ZS Wx (ZS Wx (ZS WP (W9 hu (vn 0) Yn (fun _ _=>rfl)) Zz) (ZS Xc (ZS Xc Zz (vn 2)) (vn 2))) Zz) Zz))
   (Zu (ZR 4 rfl (ZS Xc (ZS Wx (ZS WP (vn 4) Zz) (ZS Xc Zz (vn 2))) Zz))
   (Zv (ZC (ZS WP (ZS UV (ZS WP (vn 4) Zz) Zz) (vn 1)))))))),?_⟩
  refine⟨_,rfl,p,_,rfl,ZjH h1,_,_,rfl,rfl,?_⟩
  refine⟨_,rfl,_,rfl,p,_,rfl,Zi9 h1,?_⟩
  have h2:upd H p (.dK (tpK c l (n+1))) p=some (.dK (tpK c l (n+1))):=Zt
  have k2:Tk p H (upd H p (.dK (tpK c l (n+1)))):=fun b o e hb=>by rw[Zw hb];exact e
  generalize upd H p (.dK (tpK c l (n+1)))=H2 at h2 k2 ⊢
  refine⟨_,rfl,p,_,rfl,Zcb h2,_,_,rfl,rfl,_,rfl,?_⟩
  refine JS (fun h=>?_) (fun h=>?_)
  ·refine⟨_,rfl,p,_,rfl,Zcb h2,_,rfl,_,_,rfl,rfl,m0,?_⟩
   refine⟨_,rfl,p,_,rfl,Zcb h2,_,rfl,_,_,rfl,rfl,⟨m0,m1⟩,_,rfl,p,_,rfl,Zja h2,?_⟩
   refine⟨_,rfl,q _ _ (Int.emod_nonneg _ (by omega)) (Int.emod_lt_of_pos _ m0) (k2.trans fun b o e hb=>by rw[Zw hb];exact e) ⟨c,l / m,n+1,Zt,Int.ediv_nonneg l0 (by omega),by omega,by omega⟩⟩
  ·refine⟨_,rfl,p,_,rfl,ZjI h2,_,_,rfl,rfl,(by show (0:Int)<_;decide),_,rfl,_,_,rfl,rfl,.inl ⟨by decide,by decide⟩,_,rfl,_,_,rfl,rfl,.inr ⟨by omega,by omega⟩,_,_,rfl,rfl,_,_,rfl,rfl,_,_,rfl,rfl,.inr ⟨by decide,by decide⟩,?_⟩
   refine⟨_,rfl,_,_,rfl,rfl,(by show (0:Int)<_;decide),_,rfl,_,_,rfl,rfl,.inl ⟨by decide,by decide⟩,_,_,rfl,rfl,_,_,rfl,rfl,.inr ⟨by decide,by decide⟩,?_⟩
   refine⟨_,rfl,_,_,rfl,rfl,(by show (0:Int)<_;decide),_,_,rfl,rfl,⟨by decide,by decide⟩,_,rfl,_,_,rfl,rfl,m0,?_⟩
   exact q _ _ (Int.emod_nonneg _ (by omega)) (Int.emod_lt_of_pos _ m0) k2 ⟨c,l,n+1,h2,l0,by omega,by omega⟩
theorem Zhj {f:Addr}{fd:FuncData}(F:Wf K "_law_tape" "_law_tape" Zia f fd)(T:BlB mg):ZQ P w K mg base Z2 1 f fd ["_law_script", "_law_at"] (ZeP K):=by
 refine F.ok (FS (N:=["_law_script", "_law_at", "_law_cell"])) (fun vs H Q E h=>?_) (fun cdv A outer s H vs Q E hr h=>?_)
 ·obtain⟨a,ns,i,rfl,_⟩:=h;rfl
 ·obtain⟨a,ns,i,rfl,hS,hn,q⟩:=h
  refine⟨_,Zu (ZR 2 rfl (vn 1))
   (Zu (Z3 (ZF ZcY (cb (YA K) T.len (pc (vn 0) Zs)) Zz (ZM _))
    (Zv (ZR 2 rfl (ZS Wx (ZE (ixL K) (vn 0) (ZS WP (vn 1) (cb (YA K) T.len (pc (vn 0) Zs))) (fun _ _=>rfl)) (ZS UV (vn 1) (cb (YA K) T.len (pc (vn 0) Zs)))))) ZJ)
   (Zv (ZC (UR (WN Yn (vn 2) (WN Yn (cb (Zet rfl) T.max (pc Zz (pc (ZS Zjc (vn 2) (ZS Zje Zz Zz)) Zs))) (WN Yn Zz UL))) rfl rfl (by simp) (by decide))))),?_⟩
  have len:(ns.map V.int).length=ns.length:=List.length_map ..
  refine⟨_,rfl,_,rfl,a,_,rfl,.inl hS,_,_,rfl,rfl,_,rfl,?_⟩
  refine JS (fun h=>?_) (fun h=>?_)
  ·have h:(0:Int)<(ns.map V.int).length:=of_decide_eq_true h
   rw[len] at h
   have m0:=Int.emod_nonneg (i:Int) (show (ns.length:Int)≠0 by omega)
   have m1:=Int.emod_lt_of_pos (i:Int) h
   obtain⟨j,ej⟩:=Int.eq_ofNat_of_zero_le m0
   have hj:j<ns.length:=by omega
   have at1:atI (ns.map V.int) (j:Int)=some (.int (ns[j])):=YV (by rw[Zc,Zf hj];rfl)
   refine⟨_,rfl,_,rfl,_,rfl,a,_,rfl,.inl hS,?_⟩
   rw[len]
   refine⟨_,_,rfl,rfl,h,?_⟩
   dsimp only
   rw[ej]
   refine⟨a,_,_,_,rfl,rfl,hS,at1,_,rfl,_,rfl,a,_,rfl,.inl hS,?_⟩
   rw[len]
   refine⟨_,_,rfl,rfl,⟨h,by omega⟩,_,_,rfl,rfl,?_⟩
   intro p np
   refine⟨_,rfl,_,rfl,_,_,rfl,rfl,⟨by decide,by decide,by decide⟩,_,_,rfl,rfl,_,_,rfl,Zt,tpK (ns[j]+(i:Int) / (ns.length:Int)) (if (ns[j]+(i:Int) / (ns.length:Int))-10 ^ (18:Int).toNat > 0 then (ns[j]+(i:Int) / (ns.length:Int))-10 ^ (18:Int).toNat else 0) 0,rfl,(show 3<=15 by decide),?_⟩
   refine q p _ (Same.upd2 np) np ⟨_,_,0,Zt,?_,by decide,by decide⟩
   split <;> omega
  ·generalize (i:Int)=c
   intro p np
   refine⟨_,rfl,_,rfl,_,_,rfl,rfl,⟨by decide,by decide,by decide⟩,_,_,rfl,rfl,_,_,rfl,Zt,tpK c (if c-10 ^ (18:Int).toNat > 0 then c-10 ^ (18:Int).toNat else 0) 0,rfl,(show 3<=15 by decide),?_⟩
   refine q p _ (Same.upd2 np) np ⟨_,_,0,Zt,?_,by decide,by decide⟩
   split <;> omega
end
end C23
namespace Tb
def ZA (t:List (List Nat))(a b:Nat):Nat:=(t.getD a []).getD b 0
def it (t:List (List Nat))(a:Nat):Nat->Nat
 |0=>0
 |k+1=>ZA t (it t a k) a
structure Rd (t:List (List Nat))(a r:Nat):Prop where
 r1:1<=r
 rn:r<=t.length
 dv:t.length % r=0
 z:it t a r=0
 nz:∀k,1<=k->k<r->it t a k≠0
 bk:ZA t a (it t a (r-1))=0
 un:∀b,b<t.length->ZA t a b=0->b=it t a (r-1)
structure PW (t:List (List Nat)):Prop where
 n1:1<=t.length
 n60:t.length<=60
 len:∀row∈t,row.length=t.length
 lt:∀a b,a<t.length->b<t.length->ZA t a b<t.length
 one:∀a,a<t.length->ZA t 0 a=a
 rd:∀a,a<t.length->∃r,Rd t a r
 oneR:∀a,a<t.length->ZA t a 0=a
 ass:∀a b c,a<t.length->b<t.length->c<t.length->ZA t (ZA t a b) c=ZA t a (ZA t b c)
section
variable {t:List (List Nat)}{a r:Nat}
theorem Ua (P:PW t)(ha:a<t.length):∀k,it t a k<t.length
 |0=>P.n1
 |k+1=>P.lt _ _ (Ua P ha k) ha
end
def rdB (t:List (List Nat))(n a:Nat):Nat->Nat->Nat->Bool
 |0,_,_=>false
 |f+1,k,prev=>
  let x:=ZA t prev a
  match x with
  |0=>decide (n % (k+1)=0) && decide (k+1<=n) && decide (ZA t a prev=0) && ((List.range n).all fun b=>decide (b=prev) || !decide (ZA t a b=0))
  |y+1=>rdB t n a f (k+1) (y+1)
def fq1 {β:Type}(m:Nat)(k:Nat->β):β:=match m with
 |0=>k 0
 |m+1=>k (m+1)
theorem Zf7 {β:Type}(m:Nat)(k:Nat->β):fq1 m k=k m:=by cases m <;> rfl
def fql {β:Type}:List Nat->(List Nat->β)->β
 | [],k=>k []
 |x::xs,k=>fq1 x fun y=>fql xs fun ys=>k (y::ys)
theorem U6 {β:Type}:∀(a:List Nat) (k:List Nat->β),fql a k=k a
 | [],k=>rfl
 |x::xs,k=>by rw[fql,Zf7,U6 xs]
def ZjY (acc:List Nat)(y:Nat):List Nat:=if acc.contains y then acc else acc++[y]
def Zew (t:List (List Nat))(gens:List Nat):Nat->Nat->List Nat->List Nat
 |0,_,acc=>acc
 |f+1,i,acc=>match acc[i]? with
  |none=>acc
  |some x=>fql (gens.foldl (fun acc g=>fq1 (ZA t x g) fun y=>ZjY acc y) acc) fun acc=>Zew t gens f (i+1) acc
def Zdf (t:List (List Nat)):Nat->Nat->List Nat->List Nat->List Nat
 |0,_,gens,_=>gens
 |f+1,a,gens,acc=>if acc.contains a then Zdf t f (a+1) gens acc else fql (Zew t (gens++[a]) t.length 0 [0]) fun acc=>Zdf t f (a+1) (gens++[a]) acc
def liB (t:List (List Nat))(g:Nat):Bool:=decide (g<t.length) && t.all fun rx=>(t.getD (rx.getD g 0) [] == (t.getD g []).map fun c=>rx.getD c 0)
def asG (t:List (List Nat))(gens:List Nat):Bool:=gens.all (liB t) && fql (Zew t gens t.length 0 [0]) fun acc=>(List.range t.length).all fun a=>acc.contains a
def asB (t:List (List Nat)):Bool:=fql (Zdf t t.length 0 [] [0]) (asG t)
def ZkL (t:List (List Nat)):Bool:=decide (1<=t.length) && decide (t.length<=60) && (t.all fun row=>decide (row.length=t.length) && row.all fun x=>decide (x<t.length)) && ((List.range t.length).all fun a=>decide (ZA t 0 a=a) && rdB t t.length a t.length 0 0)
def pwB (t:List (List Nat)):Bool:=ZkL t && ((List.range t.length).all fun a=>decide (ZA t a 0=a)) && asB t
def Pr (t:List (List Nat))(a:Nat):Prop:=a<t.length/\∀x y,x<t.length->y<t.length->ZA t (ZA t x a) y=ZA t x (ZA t a y)
theorem ZkU {t:List (List Nat)}(hl:∀row∈t,row.length=t.length){g:Nat}(h:liB t g=true):Pr t g:=by
 unfold liB at h
 simp only[List.all_eq_true,Bool.and_eq_true,beq_iff_eq,decide_eq_true_eq] at h
 obtain⟨hg,h⟩:=h
 refine⟨hg,fun x y hx hy=>?_⟩
 have hm:t.getD x []∈t:=by
  rw[Zb,Zf hx]
  exact List.getElem_mem hx
 have hmg:t.getD g []∈t:=by
  rw[Zb,Zf hg]
  exact List.getElem_mem hg
 have h1:=h _ hm
 unfold ZA
 rw[h1]
 have hlb:=hl _ hmg
 generalize t.getD g []=rb at *
 have hc':y<rb.length:=by omega
 rw[Zb,Zc,Zf hc',Zb (l:=rb),Zf hc']
 rfl
theorem Pr.times {t:List (List Nat)}(lt:∀a b,a<t.length->b<t.length->ZA t a b<t.length){a g:Nat}(ha:Pr t a)(hg:Pr t g):Pr t (ZA t a g):=by
 refine⟨lt _ _ ha.1 hg.1,fun x y hx hy=>?_⟩
 rw[<-ha.2 x g hx hg.1,hg.2 _ y (lt _ _ hx ha.1) hy,ha.2 x _ hx (lt _ _ hg.1 hy),hg.2 a y ha.1 hy]
theorem Zdt {t:List (List Nat)}(lt:∀a b,a<t.length->b<t.length->ZA t a b<t.length){gens:List Nat}(hg:∀g∈gens,Pr t g):∀(f i:Nat) (acc:List Nat),(∀a∈acc,Pr t a)->∀a∈Zew t gens f i acc,Pr t a
 |0,i,acc,h=>by unfold Zew;exact h
 |f+1,i,acc,h=>by
  unfold Zew
  split
  ·exact h
  ·rename_i x hx
   rw[U6]
   refine Zdt lt hg f (i+1) _ ?_
   have hxp:=h x (List.mem_of_getElem? hx)
   have key:∀(gs acc:List Nat),(∀g∈gs,Pr t g)->(∀a∈acc,Pr t a)->∀a∈gs.foldl (fun acc g=>fq1 (ZA t x g) fun y=>ZjY acc y) acc,Pr t a:=fun gs=>by
    induction gs with
    |nil=>intro acc _ h;exact h
    |cons g gs ih=>
     intro acc hgs hacc
     rw[List.foldl_cons]
     refine ih _ (fun g' hg'=>hgs g' (List.mem_cons_of_mem _ hg')) fun a ha=>?_
     rw[Zf7] at ha
     unfold ZjY at ha
     split at ha
     ·exact hacc a ha
     ·rcases List.mem_append.mp ha with ha|ha
      ·exact hacc a ha
      ·rw[List.mem_singleton.mp ha]
       exact hxp.times lt (hgs g List.mem_cons_self)
   exact key gens acc hg h
theorem ZjV {t:List (List Nat)}(n1:1<=t.length)(hl:∀row∈t,row.length=t.length)(lt:∀a b,a<t.length->b<t.length->ZA t a b<t.length)(one:∀a,a<t.length->ZA t 0 a=a)(oneR:∀a,a<t.length->ZA t a 0=a)(h:asB t=true):∀a b c,a<t.length->b<t.length->c<t.length->ZA t (ZA t a b) c=ZA t a (ZA t b c):=by
 intro a b c ha hb hc
 unfold asB at h
 rw[U6] at h
 generalize Zdf t t.length 0 [] [0]=gens at h
 unfold asG at h
 rw[U6,Bool.and_eq_true,List.all_eq_true,List.all_eq_true] at h
 have h0:Pr t 0:=⟨by omega,fun x y hx hy=>by rw[oneR x hx,one y hy]⟩
 have hb':=Zdt lt (fun g hg=>ZkU hl (h.1 g hg)) t.length 0 [0] (fun a ha=>by rw[List.mem_singleton.mp ha];exact h0) b (List.contains_iff_mem.mp (h.2 b (List.mem_range.mpr hb)))
 exact hb'.2 a c ha hc
theorem Zfc {t:List (List Nat)}{a:Nat}:∀(f k prev:Nat),prev=it t a k->(∀j,1<=j->j<=k->it t a j≠0)->rdB t t.length a f k prev=true->∃r,Rd t a r
 |0,k,prev,_,_,h=>by cases h
 |f+1,k,prev,e,hz,h=>by
  unfold rdB at h
  have ex:it t a (k+1)=ZA t prev a:=by rw[it,e]
  cases hx:ZA t prev a with
  |zero=>
   simp only[hx,Bool.and_eq_true,decide_eq_true_eq,List.all_eq_true,Bool.or_eq_true,Bool.not_eq_true',decide_eq_false_iff_not] at h
   obtain⟨⟨⟨h1,h2⟩,h3⟩,h4⟩:=h
   refine⟨k+1,by omega,h2,h1,by rw[ex,hx],fun j j1 jk=>hz j j1 (by omega),by rw[Nat.add_sub_cancel,<-e];exact h3,fun b hb hm=>?_⟩
   rw[Nat.add_sub_cancel,<-e]
   exact (h4 b (List.mem_range.mpr hb)).resolve_right fun z=>z hm
  |succ y=>
   simp only[hx] at h
   refine Zfc f (k+1) (y+1) (by rw[ex,hx]) (fun j j1 jk=>?_) h
   by_cases ej:j=k+1
   ·rw[ej,ex,hx]
    exact Nat.succ_ne_zero _
   ·exact hz j j1 (by omega)
theorem ZiW {t:List (List Nat)}(h:pwB t=true):PW t:=by
 unfold pwB at h
 rw[Bool.and_eq_true,Bool.and_eq_true] at h
 obtain⟨⟨h,hr1⟩,hr2⟩:=h
 unfold ZkL at h
 simp only[Bool.and_eq_true,decide_eq_true_eq,List.all_eq_true] at h
 obtain⟨⟨⟨h1,h2⟩,h3⟩,h4⟩:=h
 have lt:∀a b,a<t.length->b<t.length->ZA t a b<t.length:=fun a b ha hb=>by
  unfold ZA
  have hm:t.getD a []∈t:=by
   rw[Zb,Zf ha]
   exact List.getElem_mem ha
  obtain⟨hl,hx⟩:=h3 _ hm
  generalize t.getD a []=row at *
  have hb':b<row.length:=by omega
  refine hx _ ?_
  rw[Zb,Zf hb']
  exact List.getElem_mem hb'
 have oneR:∀a,a<t.length->ZA t a 0=a:=fun a ha=>of_decide_eq_true (List.all_eq_true.mp hr1 a (List.mem_range.mpr ha))
 have one:∀a,a<t.length->ZA t 0 a=a:=fun a ha=>(h4 a (List.mem_range.mpr ha)).1
 refine⟨h1,h2,fun row hr=>(h3 row hr).1,lt,one,fun a ha=>?_,oneR,ZjV h1 (fun row hr=>(h3 row hr).1) lt one oneR hr2⟩
 ·exact Zfc _ 0 0 rfl (fun j j1 j0=>by omega) (h4 a (List.mem_range.mpr ha)).2
def pos (o:List Nat)(v:Nat):Nat:=o.findIdx (· == v)
def UG (t:List (List Nat))(o:List Nat):List (List Nat):=o.map fun a=>o.map fun b=>pos o (ZA t a b)
structure Ord (n:Nat)(o:List Nat):Prop where
 len:o.length=n
 nd:o.Nodup
 all:∀v,v<n->v∈o
 lt:∀v∈o,v<n
 z:o.getD 0 0=0
section
variable {t:List (List Nat)}{o:List Nat}
theorem YC {o:List Nat}{i:Nat}(h:i<o.length):o[i]?=some (o.getD i 0):=by
 rw[Zb,Zf h]
 rfl
theorem UM {n v:Nat}(O:Ord n o)(hv:v<n):pos o v<n/\o.getD (pos o v) 0=v:=by
 have hm:=O.all v hv
 have h1:o.findIdx (· == v)<o.length:=List.findIdx_lt_length_of_exists ⟨v,hm,by simp⟩
 refine⟨by rw[<-O.len];exact h1,?_⟩
 have h2:=List.findIdx_getElem (w:=h1)
 have h3:o[o.findIdx (· == v)]=v:=by simpa using h2
 unfold pos
 rw[Zb,Zf h1]
 exact h3
theorem inj {n i j:Nat}(O:Ord n o)(hi:i<n)(hj:j<n)(e:o.getD i 0=o.getD j 0):i=j:=by
 have h1:=YC (o:=o) (i:=i) (by rw[O.len];exact hi)
 have h2:=YC (o:=o) (i:=j) (by rw[O.len];exact hj)
 rw[e] at h1
 exact (List.getElem?_inj (by rw[O.len];exact hi) O.nd).mp (h1.trans h2.symm)
theorem Jh {n i:Nat}(O:Ord n o)(hi:i<n):o.getD i 0<n:=O.lt _ (List.mem_of_getElem? (YC (by rw[O.len];exact hi)))
theorem UF:(UG t o).length=o.length:=by unfold UG;rw[Za]
theorem Zc4 {n i j:Nat}(O:Ord n o)(hi:i<n)(hj:j<n):ZA (UG t o) i j=pos o (ZA t (o.getD i 0) (o.getD j 0)):=by
 unfold ZA UG
 have h1:=YC (o:=o) (i:=i) (by rw[O.len];exact hi)
 have h2:=YC (o:=o) (i:=j) (by rw[O.len];exact hj)
 rw[Zb (l:=o.map _),Zc,h1]
 show (o.map fun b=>pos o ((t.getD (o.getD i 0) []).getD b 0)).getD j 0=_
 rw[Zb,Zc,h2]
 rfl
theorem ZiV (P:PW t)(O:Ord t.length o):PW (UG t o):=by
 have L:(UG t o).length=t.length:=by rw[UF,O.len]
 have back:∀i j,i<t.length->j<t.length->o.getD (ZA (UG t o) i j) 0=ZA t (o.getD i 0) (o.getD j 0):=fun i j hi hj=>by
  rw[Zc4 O hi hj]
  exact (UM O (P.lt _ _ (Jh O hi) (Jh O hj))).2
 have lt:∀i j,i<t.length->j<t.length->ZA (UG t o) i j<t.length:=fun i j hi hj=>by
  rw[Zc4 O hi hj]
  exact (UM O (P.lt _ _ (Jh O hi) (Jh O hj))).1
 have n1:=P.n1
 have itb:∀a,a<t.length->∀k,it (UG t o) a k<t.length/\o.getD (it (UG t o) a k) 0=it t (o.getD a 0) k:=fun a ha k=>by
  induction k with
  |zero=>exact⟨n1,O.z⟩
  |succ k ih=>
   rw[it,it]
   exact⟨lt _ _ ih.1 ha,by rw[back _ _ ih.1 ha,ih.2]⟩
 have zz:∀i,i<t.length->(i=0↔o.getD i 0=0):=fun i hi=>by
  constructor
  ·intro e;rw[e,O.z]
  ·intro e;exact inj O hi n1 (by rw[e,O.z])
 refine⟨by omega,by have:=P.n60;omega,fun row hr=>?_,fun a b ha hb=>by rw[L];exact lt a b (by omega) (by omega),fun a ha=>?_,fun a ha=>?_,fun a ha=>?_,fun a b c ha hb hc=>?_⟩
 ·unfold UG at hr
  obtain⟨a,_,rfl⟩:=List.mem_map.mp hr
  rw[Za,UF]
 ·refine inj O (lt 0 a n1 (by omega)) (by omega) ?_
  rw[back 0 a n1 (by omega),O.z,P.one _ (Jh O (by omega))]
 ·have ha':a<t.length:=by omega
  obtain⟨r,R⟩:=P.rd _ (Jh O ha')
  have key:∀k,it (UG t o) a k=0↔it t (o.getD a 0) k=0:=fun k=>by
   rw[zz _ (itb a ha' k).1,(itb a ha' k).2]
  refine⟨r,R.r1,by rw[L];exact R.rn,by rw[L];exact R.dv,(key r).mpr R.z,fun k k1 kr z=>R.nz k k1 kr ((key k).mp z),?_,fun b hb hm=>?_⟩
  ·refine (zz _ (lt _ _ ha' (itb a ha' _).1)).mpr ?_
   rw[back _ _ ha' (itb a ha' _).1,(itb a ha' _).2]
   exact R.bk
  ·have hb':b<t.length:=by omega
   refine inj O hb' (itb a ha' _).1 ?_
   rw[(itb a ha' _).2]
   refine R.un _ (Jh O hb') ?_
   rw[<-back a b ha' hb',hm,O.z]
 ·refine inj O (lt a 0 (by omega) n1) (by omega) ?_
  rw[back a 0 (by omega) n1,O.z,P.oneR _ (Jh O (by omega))]
 ·have ha':a<t.length:=by omega
  have hb':b<t.length:=by omega
  have hc':c<t.length:=by omega
  refine inj O (lt _ _ (lt _ _ ha' hb') hc') (lt _ _ ha' (lt _ _ hb' hc')) ?_
  rw[back _ _ (lt _ _ ha' hb') hc',back _ _ ha' hb',back _ _ ha' (lt _ _ hb' hc'),back _ _ hb' hc']
  exact P.ass _ _ _ (Jh O ha') (Jh O hb') (Jh O hc')
end
end Tb
namespace L2
open PySem PySem.Spec PyProof.Rows
section
variable {X:Cx}
def ZkE (K:PySem.W.Frag)(neg:Bool):R2:=fun x y H Q=>∃p xs ds dx,y=.ref p/\(Y0 K H p xs\/Wu K H p xs)/\YX K H xs ds/\Xm K H x dx/\PyData.canLayAll0 ds=true/\dx.canLay0=true/\dx.depth<=60/\Q (.bl (if neg then !(ds.any fun y=>y.eqv dx) else ds.any fun y=>y.eqv dx)) H
theorem ZdQ (hu:X.A.units+64<cLine):Jj X (compareOp .NotIn) (ZkE X.K true):=by
 intro pins s σ H x y v u Q I rx ry h
 obtain⟨p,xs,ds,dx,rfl,hq,hs,hd,c1,c2,dp,q⟩:=h
 cases ry
 obtain⟨bs,r1⟩:=I.reads hd rx
 rcases hq with hq|hq
 ·obtain⟨its,r,pl,hz⟩:=I.list hq
  obtain⟨as,ra⟩:=I.readsAll hs r
  refine SeqAt.notIn_listAt _ pl.isList (SeqAt.items_eqAt (by simpa using ra) r1 c1 c2 (by omega)) ⟨.bl _,H,I,rfl,?_⟩
  rw[SeqAt.any_by_data (by simpa using ra) c1]
  exact q
 ·obtain⟨its,r,pl,hz⟩:=I.tuple hq
  obtain⟨as,ra⟩:=I.readsAll hs r
  refine SeqAt.notIn_tupleAt _ pl (SeqAt.items_eqAt (by simpa using ra) r1 c1 c2 (by omega)) ⟨.bl _,H,I,rfl,?_⟩
  rw[SeqAt.any_by_data (by simpa using ra) c1]
  exact q
theorem ZkS (K:PySem.W.Frag)(hu:X.A.units+64<cLine)(hK:X.K=K:=by rfl):Jj X (compareOp .NotIn) (ZkE K true):=hK▸ZdQ hu
end
theorem Xy:∀ns:List Int,PyData.canLayAll0 (ns.map PyData.int)=true
 | []=>rfl
 |n::ns=>by
  show (PyData.canLay0 (.int n) && PyData.canLayAll0 (ns.map PyData.int))=true
  rw[Xy ns]
  rfl
theorem Jw (ns:List Int):PyData.canLay0 (.tuple (ns.map PyData.int))=true:=Xy ns
theorem Vp:∀ns:List Int,PyData.depthAll (ns.map PyData.int)<=1
 | []=>by decide
 |n::ns=>by
  have:=Vp ns
  show max (PyData.depth (.int n)) (PyData.depthAll (ns.map PyData.int))<=1
  have e:PyData.depth (.int n)<=1:=by simp[PyData.depth]
  omega
end L2
namespace L2
open PySem
theorem Xg (ns:List Int):PyData.depth (.tuple (ns.map PyData.int))<=60:=by
 have:=Vp ns
 show PyData.depthAll (ns.map PyData.int)+1<=60
 omega
end L2
namespace PyZ
open PySem
theorem VF (l:Addr)(items:Array Value)(x:Value)(e:Value->Bool)(j:Nat)(hj:j<items.size)(hit:e items[j]=true)(hno:∀(m:Nat) (hm:m<items.size),m<j->e items[m]=false) :
  Meets (Builtin.«tuple.index» {pos:=[Value.ref l,x]}) fun A R s=>
   s.heap.IsTuple l items/\(∀(y:Value),y∈items->SeqAt.EqAt A.in1 s y x (e y))/\
    R (Except.ok (Flow.ret (Value.int (↑j) s.toks))) {heap:=s.heap,gens:=s.gens,drawn:=s.drawn,toks:=s.toks+1,os:=s.os}:=by
 intro prog w A R s h
 obtain⟨hl,he,h⟩:=h
 obtain⟨oa,ha,_,na,da⟩:=hl
 unfold Builtin.«tuple.index»
 refine Zl ?_
 show wpAny _ _ (pure (Value.ref l,[x])) _ _ s
 refine Zm ?_
 show wpAny _ _ (Builtin.Tuple.tupleItemsOf (Value.ref l) >>= _) _ _ s
 refine Zl ?_
 unfold Builtin.Tuple.tupleItemsOf
 refine Zl (wpAny_seqItems ha da ?_)
 refine Zm ?_
 show wpAny _ _ (pure 0 >>= _) _ _ s
 refine Zl (Zm ?_)
 show wpAny _ _ (pure items.size >>= _) _ _ s
 refine Zl (Zm ?_)
 refine Zl ?_
 rw[Nat.min_self,Std.Legacy.Range.forIn_eq_forIn_range']
 have hsz:(List.range' ([0:items.size]:Std.Legacy.Range).start ([0:items.size]:Std.Legacy.Range).size ([0:items.size]:Std.Legacy.Range).step)=List.range' 0 items.size:=by
  show List.range' 0 ((items.size-0+1-1) / 1) 1=_
  rw[Nat.div_one,Nat.sub_zero,Nat.add_sub_cancel]
 rw[hsz]
 refine wpAny_forIn_list _ (fun rest b s'=>s'=s/\b=(none,())/\∃k,rest=List.range' k (items.size-k)/\k<=j) _ ?_ ?_ _ _ ⟨rfl,rfl,0,rfl,Nat.zero_le _⟩
 ·rintro i rest b s' ⟨rfl,rfl,k,hr,hk⟩
  have hs:items.size-k=(items.size-(k+1))+1:=by omega
  rw[hs,List.range'_succ] at hr
  obtain⟨rfl,rfl⟩:=List.cons.inj hr
  have hi:i<items.size:=by omega
  rw[Array.getElem?_eq_getElem hi]
  show wpAny _ _ (eqBool items[i] x >>= _) _ _ _
  refine Zl (he items[i] (Array.getElem_mem hi) _ _ _ _ ?_)
  by_cases hij:i=j
  ·subst hij
   rw[hit,if_pos rfl]
   refine Zl ?_
   unfold retInt
   refine Zl (wpAny_mkInt ?_)
   refine Zm ?_
   refine Zm ?_
   show wpAny _ _ (pure _) _ _ _
   exact Zm h
  ·rw[hno i hi (by omega),if_neg Bool.false_ne_true]
   refine Zm ?_
   exact⟨rfl,rfl,i+1,rfl,by omega⟩
 ·rintro b s' ⟨rfl,rfl,k,hr,hk⟩
  have:items.size-k=0:=by
   have:=congrArg List.length hr
   rw[List.length_range'] at this
   exact this.symm
  omega
end PyZ
namespace L2
open PySem PySem.Spec PyProof.Rows
section
variable {X:Cx}
def Zij (K:PySem.W.Frag):V->List V->Hp->VK->Prop:=fun x vs H Q=>∃p xs y,∃j:Nat,x=.ref p/\vs=[y]/\Wu K H p xs/\WW y=true/\xs.all WW=true/\j<xs.length/\(∀z,xs[j]?=some z->eqV z y=true)/\(∀m z,m<j->xs[m]?=some z->eqV z y=false)/\Q (.int j) H
theorem Zd1:MtR X "tuple.index" (Zij X.K):=by
 intro pins s σ H x vs v us Q I rx rv h
 obtain⟨p,xs,y,j,rfl,rfl,hq,fy,fs,hj,h1,h2,q⟩:=h
 cases rx
 obtain⟨u,rfl,ru⟩:=rv.one
 obtain⟨its,r,pl,hz⟩:=I.tuple hq
 have hl:=r.length
 have flat_at:∀(m:Nat) (z:V),xs[m]?=some z->WW z=true:=fun m z hm=>List.all_eq_true.mp fs z (List.mem_of_getElem? hm)
 have eu:∀(m:Nat) (hm:m<its.toArray.size),∃z,xs[m]?=some z/\eqU y its.toArray[m]=eqV z y:=fun m hm=>by
  have hm':m<xs.length:=by rw[hl];simpa using hm
  obtain⟨w,hw,rw'⟩:=r.get (Zf hm')
  have hw2:its.toArray[m]=w:=by
   have:=(List.getElem?_eq_some_iff.mp hw).2
   simpa using this
  exact⟨_,Zf hm',by rw[hw2];exact Zcg rw' (flat_at m _ (Zf hm'))⟩
 have hjs:j<its.toArray.size:=by rw[Zh,<-hl];exact hj
 have tyI:s.TypeIs (.ref p) "tuple":=PySem.Heap.IsTuple.typeIs pl
 refine call_meets F.slot_tuple_index tyI F.entry_tuple_index (F.args_tuple_index_2 _ _) (PyZ.VF p its.toArray u (eqU y) j hjs ?_ ?_) ⟨pl,fun w hw=>JP ru fy r fs w (by simpa using hw),?_⟩
 ·obtain⟨z,hz1,hz2⟩:=eu j hjs
  rw[hz2]
  exact h1 z hz1
 ·intro m hm hmj
  obtain⟨z,hz1,hz2⟩:=eu m hm
  rw[hz2]
  exact h2 m z hmj hz1
 ·exact⟨.int j,H,I.kept (t':=s.toks+1) fun b o e=>e,⟨_,rfl⟩,q⟩
theorem Zkj (K:PySem.W.Frag)(hK:X.K=K:=by rfl):MtR X "tuple.index" (Zij K):=hK▸Zd1
end
end L2
namespace PyZ
open PySem PyProof PyProof.Rows
def X6 (n:Nat)(cmp:Nat->Nat->Bool){α:Type}:W.KasT α->Option α
 | .ret a=>some a
 | .ask i j k=>if i<n/\j<n then X6 n cmp (k (cmp i j)) else none
theorem V8 {α:Type}{n:Nat}{cmp:Nat->Nat->Bool}{ask:Nat->Nat->(Bool->Shared->Prop)->Shared->Prop}{s:Shared}(h:∀i j C,i<n->j<n->C (cmp i j) s->ask i j C s):∀(t:W.KasT α) (a:α) (Q:α->Shared->Prop),X6 n cmp t=some a->Q a s->W.KasT.kasWp ask t Q s
 | .ret b,a,Q,e,q=>by
  cases (Option.some.inj e)
  exact q
 | .ask i j k,a,Q,e,q=>by
  rw[X6] at e
  by_cases hh:i<n/\j<n
  ·rw[if_pos hh] at e
   exact h i j _ hh.1 hh.2 (V8 h (k (cmp i j)) a Q e q)
  ·rw[if_neg hh] at e
   cases e
def ZfP (fin:Bool):List Int->List Int->Bool
 | [],_=>fin
 |_::_,[]=>fin
 |x::xs,y::ys=>if x=y then ZfP fin xs ys else decide (x<y)
def Xv (xs ys:List Int):Bool:=ZfP (decide (xs.length<ys.length)) xs ys
section
variable {prog:Program}{w:World}{A:Around}{E:Value->Shared->Prop}{s:Shared}
theorem ZfW {fin:Bool}{Q:Bool->Shared->Prop}:∀(us vs:List Value) (xs ys:List Int) (i:Nat),IntsAre us xs->IntsAre vs ys->Q (ZfP fin xs ys) s->W.KatLex prog w A true fin Q (us.zip vs) i s
 | [],vs,xs,ys,i,h1,h2,q=>by
  cases h1
  exact W.kat_nil q
 |_::_,[],xs,ys,i,h1,h2,q=>by
  cases h2
  cases xs with
  |nil=>exact W.kat_nil q
  |cons x xs=>exact W.kat_nil q
 |u::us,v::vs,xs,ys,i,h1,h2,q=>by
  cases h1 with
  |cons x t1 r1=>
   cases h2 with
   |cons y t2 r2=>
    rename_i xs ys
    rw[List.zip_cons_cons]
    refine W.kat_cons ?_
    refine SeqAt.EqAt.int_int _ _ _ _ prog w _ _ ?_
    rw[ZfP] at q
    by_cases e:x=y
    ·rw[if_pos e] at q
     rw[show (x == y)=true from beq_iff_eq.mpr e]
     exact W.kat_yes (ZfW us vs xs ys (i+1) r1 r2 q)
    ·rw[if_neg e] at q
     rw[show (x == y)=false from beq_eq_false_iff_ne.mpr e]
     refine W.kat_no ?_
     by_cases hi:i=0
     ·subst hi
      exact oneLt_int q
     ·have:(true && i == 0)=false:=by simp[hi]
      rw[this]
      exact W.kat_one _ _ (lt_int q)
def Zeo (h:Heap)(L:Addr):Heap:={h with objs:=h.objs.extract 0 L}
theorem Vq {h:Heap}{L b:Addr}(hb:b<L):(Zeo h L).get? b=h.get? b:=by
 unfold Zeo Heap.get?
 have:(h.objs.extract 0 L)[b]?=h.objs[b]?:=by
  rw[Array.getElem?_extract]
  by_cases h1:b<h.objs.size
  ·simp only[Nat.sub_zero,Nat.zero_add]
   rw[if_pos (show b<min L h.objs.size from Nat.lt_min.mpr ⟨hb,h1⟩)]
  ·rw[Array.getElem?_eq_none (Nat.le_of_not_lt h1)]
   split <;> simp_all
 simp only[this]
theorem Xh {h:Heap}{L b:Addr}(hb:L<=b):(Zeo h L).get? b=none:=by
 unfold Zeo Heap.get?
 have:(h.objs.extract 0 L)[b]?=none:=by
  apply Array.getElem?_eq_none
  rw[Array.size_extract]
  exact Nat.le_trans (by rw[Nat.sub_zero];exact Nat.min_le_left ..) hb
 simp only[this]
def ZO (h:Heap)(L:Addr):List (Addr×Obj):=(List.range h.objs.size).filterMap fun a=>if L<a then (h.get? a).map fun o=>(a,o) else none
theorem Wz {h:Heap}{L:Addr}{p:Addr×Obj}:p∈ZO h L↔L<p.1/\h.get? p.1=some p.2:=by
 unfold ZO
 rw[List.mem_filterMap]
 constructor
 ·rintro⟨a,ha,e⟩
  by_cases hl:L<a
  ·rw[if_pos hl] at e
   cases q:h.get? a with
   |none=>rw[q] at e;cases e
   |some o=>
    rw[q] at e
    cases (Option.some.inj e)
    exact⟨hl,q⟩
  ·rw[if_neg hl] at e
   cases e
 ·rintro⟨hl,e⟩
  refine⟨p.1,List.mem_range.mpr (Zp e),?_⟩
  rw[if_pos hl,e]
  rfl
theorem Zdb {h:Heap}:∀(as:List Addr) (yss:List (List Int)),as.length=yss.length->(∀(i:Nat) a,as[i]?=some a->∃(us:List Value) (ys:List Int),yss[i]?=some ys/\h.IsTuple a us.toArray/\IntsAre us ys/\ys≠[])->
  ∃fs:List Value,W.KatTups h (as.map Value.ref) fs/\fs.length=as.length/\∀v∈fs,∃n t,v=Value.int n t
 | [],[],_,_=>⟨[],W.KatTups.nil,rfl,fun v hv=>by cases hv⟩
 | [],_::_,h,_=>by cases h
 |_::_,[],h,_=>by cases h
 |a::as,ys::yss,hl,g=>by
  obtain⟨us,ys',e,⟨o,e1,c,n,d⟩,ia,ne⟩:=g 0 a rfl
  cases e
  obtain⟨fs,k,l,f⟩:=Zdb as yss (Nat.succ.inj hl) fun i a' hi=>g (i+1) a' hi
  cases ia with
  |nil=>exact absurd rfl ne
  |cons z t r=>
   refine⟨Value.int z t::fs,W.KatTups.cons e1 c d (by simp) k,by rw[Zi,Zi,l],fun v hv=>?_⟩
   rcases List.mem_cons.mp hv with rfl|hv
   ·exact⟨_,_,rfl⟩
   ·exact f v hv
end
end PyZ
namespace L2
open PySem PySem.Spec PyProof.Rows
theorem ZN.there {P:Program}{w:World}{H:Hp}{h:Heap}{a:Addr}{o:HO}(x:ZN P w H h a o):∃ob,h.get? a=some ob:=by
 cases o with
 |lst xs=>obtain⟨_,_,_,_,e⟩:=x;exact⟨_,e⟩
 |tup xs=>obtain⟨_,_,_,ob,e,_⟩:=x;exact⟨_,e⟩
 |dK kvs=>obtain⟨_,_,_,_,o,_,_,e,_⟩:=x;exact⟨_,e⟩
 |dT kvs=>obtain⟨_,_,_,_,o,_,_,e,_⟩:=x;exact⟨_,e⟩
 |set S n=>obtain⟨o,_,_,_,e,_⟩:=x;exact⟨_,e⟩
 |ins C dx fs=>obtain⟨_,_,_,e,_⟩:=x;exact⟨_,e⟩
 |own y=>obtain⟨_,e⟩:=x;exact⟨_,e⟩
 |xd fs=>obtain⟨_,⟨_,_,_,e,_⟩,_⟩:=x;exact⟨_,e⟩
 |rng lo hi=>obtain⟨_,_,_,e⟩:=x;exact⟨_,e⟩
 |frz ob u=>obtain⟨e,_⟩:=x;exact⟨_,e⟩
 |tbl ps=>exact⟨_,(show h.get? a=some _ from x)⟩
 |met f y=>exact⟨_,(show h.get? a=some _ from x)⟩
 |ext φ=>obtain⟨_,⟨_,e⟩,_⟩:=x;exact⟨_,e⟩
section
variable {X:Cx}{pins:List (Addr×Obj)}{σ:St}{H:Hp}{s:Shared}
theorem Inv.newL {D:Addr}{c:Nat}{h':Heap}{m:Str->Option Value}{ys:List V}{its:List Value}(I:Inv X pins σ H s)(hm:s.heap.Ns X.env.locals m)
  (hl:∀(i:Nat) (x:Str) (v:V),X.N[i]?=some x->σ[i]?=some (some v)->Vis X.env.scope x->∃u,RelV v u/\Look X.env s.heap m x u)
  (dn:s.heap.get? D=none) (dL:D≠X.env.locals) (kept:∀b o,b≠X.env.locals->s.heap.get? b=some o->h'.get? b=some o) (hn':h'.Ns X.env.locals m) (hz:ys.length<=sizeLine) (hv:ZB ys its) (hD:h'.get? D=some {cls:=.type "list",data:=.seq its.toArray c}) :
  Inv X pins σ (upd H D (.lst ys)) {s with heap:=h'}/\H D=none:=by
 have hHD:H D=none:=by
  cases e:H D with
  |none=>rfl
  |some o=>
   obtain⟨ob,e2⟩:=(I.hok D o e).there
   rw[dn] at e2
   cases e2
 have neD:∀{b:Addr}{o:Obj},s.heap.get? b=some o->b≠D:=fun {b o} e z=>by rw[z,dn] at e;cases e
 have neH:∀{b:Addr}{o:HO},H b=some o->b≠D:=fun {b o} e z=>by rw[z,hHD] at e;cases e
 have neL:∀{b:Addr}{o:HO},H b=some o->b≠X.env.locals:=fun {b o} e z=>by rw[z,I.free] at e;cases e
 have bL:∀{b:Addr}{o:Obj},X.s₀.heap.get? b=some o->b≠X.env.locals:=fun {b o} e=>Nat.ne_of_lt (Nat.lt_of_lt_of_le (Zp e) I.ok.above)
 refine⟨⟨I.ok,I.os,I.bare,⟨fun b o e n hb hx=>?_,fun b o e n hb hx=>?_,fun b o e n hx=>?_,fun b o e hx=>?_,fun b xs e=>?_,fun b o u e=>?_,fun b ps e=>?_⟩,⟨m,hn',fun j y v e1 e2 e3=>?_⟩,fun y c' e=>?_,?_,fun y c' e=>?_,fun p hp=>?_,fun b ob e=>?_,I.len⟩,hHD⟩
 ·exact kept b o (bL e) (I.base.keep b o e n hb hx)
 ·obtain⟨sl,e1⟩:=I.base.slot b o e n hb hx
  exact⟨sl,kept b _ (bL e) e1⟩
 ·obtain⟨o',e1⟩:=I.base.there b o e hx
  rw[Zw (neD e1)]
  exact I.base.free b o e n hx
 ·obtain⟨o',e1⟩:=I.base.there b o e hx
  exact⟨o',kept b _ (bL e) e1⟩
 ·have:=I.base.tups b xs e
  rw[Zw (neH this)]
  exact this
 ·have:=I.base.frzs b o u e
  rw[Zw (neH this)]
  exact this
 ·obtain⟨more,this⟩:=I.base.tbls b ps e
  exact⟨more,by rw[Zw (neH this)];exact this⟩
 ·obtain⟨u,r,q⟩:=hl j y v e1 e2 e3
  refine⟨u,r,?_⟩
  rcases q with ⟨k,e⟩|⟨k,c',e,z⟩
  ·exact .inl ⟨k,e⟩
  ·obtain⟨o,g,rest⟩:=z
   exact .inr ⟨k,c',e,o,kept c' o (I.cne y c' e) g,rest⟩
 ·obtain⟨w',o,g,rest⟩:=I.cell y c' e
  exact⟨w',o,kept c' o (I.cne y c' e) g,rest⟩
 ·rw[Zw (Ne.symm dL)]
  exact I.free
 ·obtain⟨w',o,g,rest⟩:=I.cell y c' e
  rw[Zw (neD g)]
  exact I.freeC y c' e
 ·obtain⟨e,n,ne,nf,d⟩:=I.pin p hp
  exact⟨kept p.1 _ ne e,by rw[Zw (neD e)];exact n,ne,nf,d⟩
 ·by_cases hb:b=D
  ·subst hb
   rw[Zt] at e
   cases (Option.some.inj e)
   exact⟨hz,its,c,hv,hD⟩
  ·rw[Zw hb] at e
   refine (I.hok b ob e).stay (fun c' w' hc q=>kept c' w' ?_ q) (fun c' q=>?_) fun c' xs q=>?_
   ·rcases hc with rfl|hc
    ·exact neL e
    ·exact neL hc
   ·rw[Zw (neH q)]
    exact q
   ·rw[Zw (neH q)]
    exact q
theorem VO:∀{as:List Addr}{us:List Value},ZB (as.map V.ref) us->us=as.map Value.ref
 | [],_,h=>by cases h;rfl
 |a::as,_,h=>by
  cases h with
  |cons r t=>rw[show _=Value.ref a from r,VO t];rfl
theorem XQ:∀{ns:List Int}{us:List Value},ZB (ns.map V.int) us->IntsAre us ns
 | [],_,h=>by cases h;exact .nil
 |n::ns,_,h=>by
  cases h with
  |cons r t=>
   obtain⟨k,rfl⟩:=r
   exact .cons n k (XQ t)
theorem Xa:∀as:List Addr,ZB (as.map V.ref) (as.map Value.ref)
 | []=>.nil
 |a::as=>.cons rfl (Xa as)
end
section
variable {X:Cx}
def Tz (H:Hp)(a:Addr)(ys:List V):Prop:=∃o:Obj,H a=some (.frz o (.tup ys))/\o.cls=.type "tuple"/\o.dict=none
theorem Tz.sq {K:PySem.W.Frag}{H:Hp}{a:Addr}{ys:List V}(h:Tz H a ys):Wu K H a ys:=by
 obtain⟨o,h,_⟩:=h
 exact .inl (.inr ⟨o,h⟩)
theorem Tz.mono {H H':Hp}{a:Addr}{ys:List V}(s:Same H H')(h:Tz H a ys):Tz H' a ys:=by
 obtain⟨o,h,r⟩:=h
 exact⟨o,s _ _ h,r⟩
theorem Zbk:ZP X (.type "tuple") (fun xs H Q=>∃p ys,xs=[.ref p]/\Y0 X.K H p ys/\∀l H',H l=none->Same H H'->Tz H' l ys->Q (.ref l) H'):=by
 intro pins s σ H xs us Q I r h
 obtain⟨p,ys,rfl,hq,q⟩:=h
 obtain⟨u,rfl,rx⟩:=vals1 r
 cases rx
 obtain⟨its,r',pl,hz⟩:=I.list hq
 have hlen:=r'.length
 refine call_tuple_list pl.isList (fun h' kp=>?_) (by simp only[Zh] <;> omega)
 have I1:Inv X pins σ H {s with heap:=h'}:=I.kept (t':=s.toks) kp
 have hf:=I1.hok.fresh (Zq _)
 have I2:Inv X pins σ (upd H h'.objs.size (.frz {cls:=.type "tuple",data:=.seq its.toArray} (.tup ys))) {s with heap:=h'.push {cls:=.type "tuple",data:=.seq its.toArray}}:=
  I1.laid (t':=s.toks) (fun b o e=>Zn _ e) (Zq _) ⟨Zo _ rfl,hz,its,r',IsTup.new _ _⟩
 exact⟨.ref h'.objs.size,_,I2,rfl,q _ _ hf (Same.upd hf) ⟨_,Zt,rfl,rfl⟩⟩
variable {o e:Expr}{es:List Expr}{to:TE}{t:TA}{name:Str}{apos cpos:Pos}{id:String}{r:V->List V->Hp->VK->Prop}
def ZlG (r:V->List V->Hp->VK->Prop)(to:TE)(t:TA):TE:=fun σ H Q=>to σ H fun x H1=>(∃p ys,x=.ref p/\Tz H1 p ys)/\t σ H1 fun xs H2=>r x xs H2 Q
theorem Zfn (pa:PlainAttrs "tuple")(slot:Slot "tuple" name id)(hty:typeOf (.builtin id)=pure (.type "method_descriptor"))(hm:MtR X id r)(ho:PE X o to)(ha:PA X (e::es) t)
  (hbase:attributeBase o name X.env (eval o X.env)=eval o X.env:=by rfl)
  (hfew:((backTo cpos (starEach (e::es) X.env)).all (fun x=>!x.1) && (backToKw cpos (keywordEach [] X.env)).all (fun x=>x.1.isSome)
   && decide ((e::es).length+([]:List Keyword).length+(if ([]:List Keyword).isEmpty then 0 else 1)<30))=true:=by rfl)
  (hline:(apos.endLine == cpos.line)=true:=by rfl) (hs:starEach (e::es) X.env=(false,eval e X.env)::starEach es X.env:=by rfl) (hplain:(backTo cpos (starEach es X.env)).any (·.1)=false:=by rfl) :
  PE X (.Call (.Attribute o name apos) (e::es) [] cpos) (ZlG r to t):=by
 intro pins s σ H Q I h
 refine wpAny_Call_method_late hbase hfew hline rfl (ZT (ho pins s σ H _ I h) fun v s1 ⟨x,H1,I1,r1,ty,q1⟩=>?_)
 obtain⟨p,ys,rfl,ob,hob,hc,hd⟩:=ty
 cases r1
 obtain⟨eo,_⟩:=I1.hok p _ hob
 refine⟨"tuple",id,pa,slot,hty,⟨ob,eo,hc⟩,fun a e=>?_,?_⟩
 ·cases e
  exact⟨ob,eo,hd⟩
 have hA:=ha cpos pins s1 σ H1 _ I1 q1
 rw[hs] at hA ⊢
 refine Calls.callWith_builtin (by show (false || (backTo cpos (starEach es X.env)).any (·.1))=false;rw[hplain] <;> rfl) (Calls.evalArgs_plain ?_)
 exact ZT hA fun us s2 ⟨vs,H2,I2,r2,q2⟩=>hm pins s2 σ H2 (.ref p) vs (.ref p) us Q I2 rfl r2 q2
end
end L2
namespace PyZ
open PySem PySem.Spec PyProof.Rows
section
variable {prog:Program}{w:World}{A:Around}{E:Value->Shared->Prop}{s:Shared}
theorem VL {R:List Value->Shared->Prop}{r:Addr}{a b c:Int}{t u v:Tok}{n:Nat}(hh:A.handled=none)(hr:IsRange s.heap r a b c t u v)(hsmall:Builtin.Range.small a b c=true)
  (hn:Builtin.Range.rangeSize a b c=n) (hlen:n<=2 ^ 24)
  (h:∀(h':Heap) (tk:Nat) (acc:Array Value),(∀b o,s.heap.get? b=some o->h'.get? b=some o)->ItemsOf (fun i v=>∃t,v=.int (a+i*c) t) acc n->R acc.toList {s with heap:=h',toks:=tk}) :
  wpAny (model prog w) A (collect (.ref r)) R E s:=by
 unfold collect
 refine Zl (wpAny_runValue (codeAny_builtin PySem.F.entry_proto_collect ?_))
 rw[Around.under_plainId PySem.F.plain_proto_collect _]
 show wpAny _ A.in1 (newList [] >>= fun l=>again (.builtin "list.__iadd__" ⟨[l,.ref r],[]⟩)) _ _ s
 refine Zl (wpAny_newObj_type ?_)
 refine Zm ⟨plainId_quiet PySem.F.plain_list_iadd _,codeAny_builtin PySem.F.entry_list_iadd ?_⟩
 rw[Around.under_plainId PySem.F.plain_list_iadd _]
 have hS₁:(s.heap.push {cls:=.type "list",data:=.seq ([]:List Value).toArray}).get? s.heap.objs.size=some {cls:=.type "list",data:=.seq #[]}:=Zo _ rfl
 show wpAny _ A.in1 (Builtin.List.listExtendWith (.ref s.heap.objs.size) (.ref r) (.ref s.heap.objs.size)) _ _ _
 have key:=wpAny_extend_range (prog:=prog) (w:=w) (A:=A) (s:={s with heap:=s.heap.push {cls:=.type "list",data:=.seq ([]:List Value).toArray}})
  (R:=fun (q:Result) (s':Shared)=>∃(h':Heap) (tk:Nat) (acc':Array Value) (c':Nat),q=.ok (.ret (.ref s.heap.objs.size))/\s'={s with heap:=h',toks:=tk}/\
   (∀b o,s.heap.get? b=some o->h'.get? b=some o)/\h'.get? s.heap.objs.size=some {cls:=.type "list",dict:=none,data:=.seq acc' c',slots:=#[]}/\ItemsOf (fun i v=>∃t,v=.int (a+i*c) t) acc' n)
  hh (Zn _ hr) hsmall hn hlen s.heap.objs.size (.ref s.heap.objs.size) 0 hS₁
  (fun h' tk acc' c' hk hS' hacc=>⟨h',tk,acc',c',rfl,rfl,fun b o e=>hk b o (Nat.ne_of_lt (Zp e)) (Zn _ e),hS',hacc⟩)
 refine wpAny_mono key (fun fin s' x=>?_) fun e s' x=>?_
 ·cases fin with
  |done f=>
   obtain⟨h',tk,acc',c',e,rfl,hk,hS',hacc⟩:=x
   cases e
   show wpAny _ A (load s.heap.objs.size >>= _) _ _ _
   refine Zl (wpAny_load hS' ?_)
   exact Zm (h h' tk acc' hk hacc)
  |again c₁=>
   refine⟨x.1,codeAny_mono x.2 fun q s₂ y=>?_⟩
   obtain⟨h',tk,acc',c',rfl,rfl,hk,hS',hacc⟩:=y
   show wpAny _ A (load s.heap.objs.size >>= _) _ _ _
   refine Zl (wpAny_load hS' ?_)
   exact Zm (h h' tk acc' hk hacc)
 ·obtain⟨_,_,_,_,e',_⟩:=x
  cases e'
theorem WZ {Q₁:Value->Shared->Prop}{r:Addr}{a b c:Int}{t u v:Tok}{n:Nat}(hh:A.handled=none)(hr:IsRange s.heap r a b c t u v)(hsmall:Builtin.Range.small a b c=true)
  (hn:Builtin.Range.rangeSize a b c=n) (hlen:n<=2 ^ 24)
  (h:∀(h':Heap) (tk:Nat) (acc:Array Value),(∀b o,s.heap.get? b=some o->h'.get? b=some o)->ItemsOf (fun i v=>∃t,v=.int (a+i*c) t) acc n->
   Q₁ (.ref h'.objs.size) {s with heap:=h'.push {cls:=.type "tuple",data:=.seq acc},toks:=tk}) :
  codeAny (model prog w) A (.call (.builtin "tuple.__new__") ⟨[.type "tuple",.ref r],[]⟩) (wants Q₁ E) s:=by
 refine codeAny_of_tree ?_
 show wpAny _ A.in1 (do checkBuiltinCall "tuple.__new__" ⟨[.type "tuple",.ref r],[]⟩;again (.builtin "tuple.__new__" ⟨[.type "tuple",.ref r],[]⟩)) _ _ s
 refine Zl (wpAny_of_eq (PySem.F.newCall_tuple_1 _) (Zm ⟨plainId_quiet (show plainId "tuple.__new__"=true by decide +kernel) _,codeAny_builtin PySem.F.entry_tuple_new ?_⟩))
 rw[Around.under_plainId (show plainId "tuple.__new__"=true by decide +kernel) _]
 have hsub:=sub_tuple_self
 have hinit:=init_tuple_lookup
 have hmh:=madeHere_tuple
 have hTI:s.TypeIs (.ref r) "range":=⟨_,hr,rfl⟩
 have hsz:n<=sizeLine:=by
  have:(16777216:Nat)=sizeLine:=by decide
  omega
 wp_walk using wpAny_typeOf hTI,VL (A:=A.in1) hh hr hsmall hn hlen
 intro h' tk acc hm hacc
 show wpAny _ _ (Builtin.Tuple.tupleExact acc.toList.toArray >>= fun v=>ret v) _ _ _
 unfold Builtin.Tuple.tupleExact
 refine Zl (wpAny_newObj_type ?_ (by show acc.toList.toArray.size<=sizeLine;simp only[Array.toArray_toList];rw[hacc.1];exact hsz))
 refine Zm ?_
 have e:acc.toList.toArray=acc:=by simp
 rw[e]
 exact h h' tk acc hm hacc
theorem Xj {Q:Value->Shared->Prop}{r:Addr}{a b c:Int}{t u v:Tok}{n:Nat}(hh:A.handled=none)(hr:IsRange s.heap r a b c t u v)(hsmall:Builtin.Range.small a b c=true)
  (hn:Builtin.Range.rangeSize a b c=n) (hlen:n<=2 ^ 24)
  (h:∀(h':Heap) (tk:Nat) (acc:Array Value),(∀b o,s.heap.get? b=some o->h'.get? b=some o)->ItemsOf (fun i v=>∃t,v=.int (a+i*c) t) acc n->
   Q (.ref h'.objs.size) {s with heap:=h'.push {cls:=.type "tuple",data:=.seq acc},toks:=tk}) :
  wpAny (model prog w) A (call (.type "tuple") [.ref r]) Q E s:=by
 refine callType_codes (Q₁:=fun obj s₁=>s₁.TypeIs obj "tuple"/\Q obj s₁) PySem.F.called_tuple (PySem.F.typeCall_tuple_1 _) PySem.F.entry_object_init
  (WZ (A:=A.in1) hh hr hsmall hn hlen fun h' tk acc hk hacc=>⟨⟨_,Zo _ rfl,rfl⟩,h h' tk acc hk hacc⟩) fun obj s₁ h₁=>?_
 exact⟨h₁.1,PySem.F.args_object_init_2 obj _,object_init_meets PySem.F.called_tuple.init.lookup PySem.F.called_tuple.made (by decide) prog w A.in1 _ s₁ ⟨h₁.1,rfl,h₁.2⟩⟩
end
end PyZ
namespace L2
open PySem PySem.Spec PyProof.Rows
section
variable {X:Cx}
theorem W3 (hc:X.calm=true):ZP X (.type "tuple") (fun xs H Q=>∃(a:Addr) (lo hi:Int),xs=[.ref a]/\H a=some (.rng lo hi)/\(-(2 ^ 62)<=lo/\lo<2 ^ 62/\-(2 ^ 62)<=hi/\hi<2 ^ 62)/\(hi-lo).toNat<=sizeLine/\
  ∀l,H l=none->Q (.ref l) (upd H l (.tup ((YG lo (hi-lo).toNat).map V.int)))):=by
 intro pins s σ H xs us Q I r h
 obtain⟨a,lo,hi,rfl,ha,⟨b1,b2,b3,b4⟩,hz,q⟩:=h
 obtain⟨u,rfl,ru⟩:=vals1 r
 cases ru
 obtain⟨t,u,v,e⟩:=(show ∃t u v,s.heap.get? a=some {cls:=.type "range",data:=.fields #[.int lo t,.int hi u,.int 1 v]} from I.hok a _ ha)
 refine PyZ.Xj (n:=(hi-lo).toNat) (I.ok.hd hc) e (small_one b1 b2 b3 b4) (by rw[rangeSize_one];split <;> omega) hz fun h' tk acc hk hit=>?_
 have I1:Inv X pins σ H {s with heap:=h',toks:=tk}:=I.kept (t':=tk) hk
 have I2:Inv X pins σ (upd H h'.objs.size (.tup ((YG lo (hi-lo).toNat).map V.int))) {s with heap:=h'.push {cls:=.type "tuple",data:=.seq acc},toks:=tk}:=
  I1.laid (t':=tk) (fun b o e=>Zn _ e) (Zq _) (show ZN X.prog X.w _ _ _ (.tup ((YG lo (hi-lo).toNat).map V.int)) from ⟨by rw[Za,YF];exact hz,acc.toList,Zdz hit,by simpa using IsTup.new _ _⟩)
 exact⟨.ref h'.objs.size,_,I2,rfl,q _ (I1.hok.fresh (Zq _))⟩
end
end L2
namespace PyY
open PySem
open AutoSeq1 (wpAny_loadPart')
section
variable {prog:Program}{w:World}{A:Around}{E:Value->Shared->Prop}{s:Shared}
theorem Zb2 {j a:Addr}{k:Nat}{us:Array Value}{y:Value}{Q:Value->Shared->Prop}(c:s.heap.IsTupleIter j a k)(d:s.heap.IsTuple a us)(e:us[k]?=some y)
  (q:∀g,g.IsTupleIter j a (k+1)->Heap.SameBut j s.heap g->Q y {s with heap:=g}):wpAny (model prog w) A (Builtin.SmallTypes.nextOf (.ref j)) Q E s:=by
 obtain⟨oj,hj,cj,dj⟩:=id c
 obtain⟨oa,ha,_,na,da⟩:=d
 unfold Builtin.SmallTypes.nextOf
 refine Zl (wpAny_callSpecial?_slot (name:=Str.ofString "__next__") c.typeIs F.slot_tuple_iterator_next (wpAny_call_entry F.slot_tuple_iterator_next c.typeIs F.entry_tuple_iterator_next ?_ (F.args_tuple_iterator_next_1 _)))
 show wpAny _ _ (field (.ref j) 0 >>= _) _ _ s
 refine Zl (wpAny_field hj dj (x:=.ref a) rfl ?_)
 show wpAny _ _ (if (Value.ref a == Value.none)=true then _ else _) _ _ s
 rw[if_neg (show ¬((Value.ref a == Value.none)=true) from Bool.false_ne_true)]
 show wpAny _ _ (field (.ref j) 1 >>= _) _ _ s
 refine Zl (wpAny_field hj dj (x:=.int k 0) rfl ?_)
 show wpAny _ _ (seqItems? (.ref a) >>= _) _ _ s
 refine Zl (wpAny_seqItems ha da ?_)
 simp only[Zj,e]
 refine Zl (wpAny_setField hj dj (by simp) (Zm ⟨y,rfl,Zm (q _ ?_ (Heap.SameBut.update ..))⟩))
 refine⟨_,Heap.get?_update_self _ hj (Obj.isFreed_of_fields (Obj.data_mapFields dj _)),(Obj.cls_mapFields ..).trans cj,?_⟩
 rw[Obj.data_mapFields dj]
 simp[rawInt]
theorem Zd0 {j a:Addr}{k:Nat}{us:Array Value}{Q:Value->Shared->Prop}(hn:A.handled=none)(c:s.heap.IsTupleIter j a k)(d:s.heap.IsTuple a us)(e:us[k]?=none)
  (q:∀g x,Heap.ExtBut j s.heap g->(∃o,g.get? x=some o/\o.cls=.type "StopIteration")->E (.ref x) {s with heap:=g}):wpAny (model prog w) A (Builtin.SmallTypes.nextOf (.ref j)) Q E s:=by
 obtain⟨oj,hj,cj,dj⟩:=id c
 obtain⟨oa,ha,_,na,da⟩:=d
 unfold Builtin.SmallTypes.nextOf
 refine Zl (wpAny_callSpecial?_slot (name:=Str.ofString "__next__") c.typeIs F.slot_tuple_iterator_next (wpAny_call_entry F.slot_tuple_iterator_next c.typeIs F.entry_tuple_iterator_next ?_ (F.args_tuple_iterator_next_1 _)))
 show wpAny _ _ (field (.ref j) 0 >>= _) _ _ s
 refine Zl (wpAny_field hj dj (x:=.ref a) rfl ?_)
 show wpAny _ _ (if (Value.ref a == Value.none)=true then _ else _) _ _ s
 rw[if_neg (show ¬((Value.ref a == Value.none)=true) from Bool.false_ne_true)]
 show wpAny _ _ (field (.ref j) 1 >>= _) _ _ s
 refine Zl (wpAny_field hj dj (x:=.int k 0) rfl ?_)
 show wpAny _ _ (seqItems? (.ref a) >>= _) _ _ s
 refine Zl (wpAny_seqItems ha da ?_)
 simp only[Zj,e]
 refine Zl (wpAny_rule (Zl (wpAny_setField hj dj (by simp) ?_)))
 show wpAny _ _ (newExc (.type "StopIteration") [] >>= _) _ _ {s with heap:=_}
 refine Zl ?_
 unfold newExc newTuple
 refine Zl (wpAny_newObj_type (Q:=_) ?_ (by size_fits))
 refine Zl (m:=firstArgMember _ _) (wpAny_of_eq (a:=Value.none) (by first|rfl|(unfold firstArgMember;rfl)) ?_)
 refine wpAny_newObj_type (Q:=_) ?_ (by size_fits)
 unfold raiseNew
 refine Zl (wpAny_handled ?_)
 have hn':A.in1.handled=none:=hn
 rw[hn']
 refine Zl (Zm (wpAny_throw (E:=E) ?_))
 exact q _ _ (((Heap.SameBut.update ..).extBut.push _).push _) ⟨_,Zo _ rfl,rfl⟩
theorem Zch {n j a:Addr}{k:Nat}{us:Array Value}{y old:Value}{Q:Option Value->Shared->Prop}(b:IsEnum s.heap n j k old)(c:s.heap.IsTupleIter j a k)(d:s.heap.IsTuple a us)(e:us[k]?=some y)(nj:n≠j)
  (q:∀g,IsEnumOut g n j ((k:Int)+1) y s.heap.objs.size->g.IsTupleIter j a (k+1)->g.get? s.heap.objs.size=some {cls:=.type "tuple",data:=.seq #[.int k s.toks,y]}->g.objs.size=s.heap.objs.size+1->
   (∀x o,x≠n->x≠j->s.heap.get? x=some o->g.get? x=some o)->Q (some (.ref s.heap.objs.size)) {s with heap:=g,toks:=s.toks+1}):wpAny (model prog w) A (pyNext (.ref n)) Q E s:=by
 have tn:s.TypeIs (.ref n) "enumerate":=⟨_,b,rfl⟩
 unfold pyNext
 refine Zl (wpAny_attempt (wpAny_callSpecial?_slot (name:=Str.ofString "__next__") tn F.slot_enumerate_next (wpAny_call_entry F.slot_enumerate_next tn F.entry_enumerate_next ?_ (F.args_enumerate_next_1 _))))
 obtain⟨g0,gs,dr,tk,os⟩:=s
 show wpAny _ _ (field (.ref n) 2 >>= _) _ _ _
 refine Zl (wpAny_field b rfl (x:=.ref j) rfl ?_)
 refine Zl (Zb2 c d e fun g1 c1 s1=>?_)
 replace s1:Heap.SameBut j g0 g1:=s1
 have b1:IsEnum g1 n j k old:=(s1.2 n nj).trans b
 show wpAny _ _ (field (.ref n) 3 >>= _) _ _ ⟨g1,gs,dr,tk,os⟩
 refine Zl (wpAny_field b1 rfl (x:=rawInt k) rfl ?_)
 show wpAny _ _ (field (.ref n) 4 >>= _) _ _ ⟨g1,gs,dr,tk,os⟩
 refine Zl (wpAny_field b1 rfl (x:=.none) rfl ?_)
 show wpAny _ _ (mkInt k >>= _) _ _ ⟨g1,gs,dr,tk,os⟩
 refine Zl (wpAny_mkInt ?_)
 show wpAny _ _ (setField (.ref n) 3 (rawInt ((k:Int)+1)) >>= _) _ _ ⟨g1,gs,dr,tk+1,os⟩
 refine Zl (wpAny_setField_rec b1 (by simp) fun g2 b2 s2=>?_)
 replace s2:Heap.SameBut n g1 g2:=s2
 replace b2:IsEnum g2 n j ((k:Int)+1) old:=b2
 show wpAny _ _ (setField (.ref n) 4 .none >>= _) _ _ ⟨g2,gs,dr,tk+1,os⟩
 refine Zl (wpAny_setField_rec b2 (by simp) fun g3 b3 s3=>?_)
 replace s3:Heap.SameBut n g2 g3:=s3
 replace b3:IsEnum g3 n j ((k:Int)+1) old:=b3
 show wpAny _ _ (newTuple [.int k tk,y] >>= _) _ _ ⟨g3,gs,dr,tk+1,os⟩
 refine Zl (wpAny_newTuple ?_)
 have b4:IsEnum (g3.push {cls:=.type "tuple",data:=.seq #[.int k tk,y]}) n j ((k:Int)+1) old:=Zn _ b3
 generalize z4:g3.push {cls:=.type "tuple",data:=.seq #[.int k tk,y]}=g4 at b4
 have sz:g3.objs.size=g0.objs.size:=by rw[s3.1,s2.1,s1.1]
 have nl:n<g0.objs.size:=Zp b
 have t4:g4.get? g0.objs.size=some {cls:=.type "tuple",data:=.seq #[.int k tk,y]}:=by
  rw[<-z4,<-sz]
  exact Zo _ rfl
 have w4:g4.objs.size=g0.objs.size+1:=by
  rw[<-z4,Heap.size_push,sz]
 have k4:∀x o,x≠n->x≠j->g0.get? x=some o->g4.get? x=some o:=fun x o xn xj hx=>by
  rw[<-z4]
  exact Zn _ (s3.extBut x o xn (s2.extBut x o xn (s1.extBut x o xj hx)))
 have c4:g4.IsTupleIter j a (k+1):=by
  obtain⟨o,ho,r⟩:=(c1.extBut s2.extBut (Ne.symm nj)).extBut s3.extBut (Ne.symm nj)
  rw[<-z4]
  exact⟨o,Zn _ ho,r⟩
 show wpAny _ _ (Builtin.SmallTypes.ownedTupleIsFree (.ref n) >>= _) _ _ ⟨g4,gs,dr,tk+1,os⟩
 rw[sz]
 clear z4 b3 s3 b2 s2 b1 s1 c1 sz g3 g2 g1
 refine Zl ?_
 unfold Builtin.SmallTypes.ownedTupleIsFree
 refine Zl (wpAny_field b4 rfl (x:=.none) rfl (Zm ?_))
 rw[if_pos rfl]
 refine Zl (wpAny_rule (Zl (wpAny_field b4 rfl (x:=old) rfl ?_)))
 refine Zl (wpAny_setField_rec b4 (by simp) fun g5 b5 s5=>?_)
 replace s5:Heap.SameBut n g4 g5:=s5
 replace b5:IsEnum g5 n j ((k:Int)+1) y:=b5
 show wpAny _ _ (Builtin.SmallTypes.ownedTupleHandOut (.ref n) (.ref g0.objs.size) >>= _) _ _ ⟨g5,gs,dr,tk+1,os⟩
 refine Zl ?_
 unfold Builtin.SmallTypes.ownedTupleHandOut
 refine Zl (wpAny_setField_rec b5 (by simp) fun g6 b6 s6=>?_)
 replace s6:Heap.SameBut n g5 g6:=s6
 replace b6:IsEnumOut g6 n j ((k:Int)+1) y g0.objs.size:=b6
 refine wpAny_setField_rec b6 (by simp) fun g7 b7 s7=>?_
 replace s7:Heap.SameBut n g6 g7:=s7
 replace b7:IsEnumOut g7 n j ((k:Int)+1) y g0.objs.size:=b7
 refine Zl (wpAny_letGo (Zm ⟨_,rfl,Zm (q g7 b7 ?_ ?_ ?_ ?_)⟩))
 ·exact ((c4.extBut s5.extBut (Ne.symm nj)).extBut s6.extBut (Ne.symm nj)).extBut s7.extBut (Ne.symm nj)
 ·exact s7.extBut _ _ (Nat.ne_of_gt nl) (s6.extBut _ _ (Nat.ne_of_gt nl) (s5.extBut _ _ (Nat.ne_of_gt nl) t4))
 ·rw[s7.1,s6.1,s5.1,w4]
 ·exact fun x o xn xj hx=>s7.extBut x o xn (s6.extBut x o xn (s5.extBut x o xn (k4 x o xn xj hx)))
theorem Zei {n j a:Addr}{k:Nat}{us:Array Value}{old:Value}{Q:Option Value->Shared->Prop}(hn:A.handled=none)(b:IsEnum s.heap n j k old)(c:s.heap.IsTupleIter j a k)(d:s.heap.IsTuple a us)(e:us[k]?=none)
  (q:∀g,Heap.ExtBut j s.heap g->Q none {s with heap:=g}):wpAny (model prog w) A (pyNext (.ref n)) Q E s:=by
 have tn:s.TypeIs (.ref n) "enumerate":=⟨_,b,rfl⟩
 unfold pyNext
 refine Zl (wpAny_attempt (wpAny_callSpecial?_slot (name:=Str.ofString "__next__") tn F.slot_enumerate_next (wpAny_call_entry F.slot_enumerate_next tn F.entry_enumerate_next ?_ (F.args_enumerate_next_1 _))))
 show wpAny _ _ (field (.ref n) 2 >>= _) _ _ _
 refine Zl (wpAny_field b rfl (x:=.ref j) rfl ?_)
 refine Zl (Zd0 hn c d e fun g x xe xs=>?_)
 obtain⟨o,ho,hc⟩:=xs
 refine Zl (wpAny_isInstance (T:="StopIteration") (b:=true) ⟨o,ho,hc⟩ isSubtype_stop ?_)
 exact Zm (q _ xe)
theorem Zeh (a:Addr)(us:Array Value)(n:Nat)(dd:Option Addr)(sl:Array (Option Value)) :
  Meets (Builtin.«enumerate.__new__» ⟨[.type "enumerate",.ref a],[]⟩) (fun _ R s=>s.heap.get? a=some {cls:=.type "tuple",dict:=dd,data:=.seq us n,slots:=sl}/\
   R (.ok (.ret (.ref (s.heap.push {cls:=.type "tuple_iterator",data:=.fields #[.ref a,.int 0 0]}).objs.size)))
    {s with heap:=(s.heap.push {cls:=.type "tuple_iterator",data:=.fields #[.ref a,.int 0 0]}).push {cls:=.type "enumerate",data:=.fields #[.none,.bool false,.ref s.heap.objs.size,rawInt 0,.none,.none]}}):=
 .of_wp fun prog w A R s h=>by
  obtain⟨hh,gg,dr,tk,os⟩:=s
  obtain⟨ha,h⟩:=h
  have sub:=sub_enumerate
  have hT:Heap.IsTuple (Shared.heap ⟨hh,gg,dr,tk,os⟩) a us:=⟨_,ha,rfl,n,rfl⟩
  wp_walk using wpAny_loadPart' ha
  refine wpAny_stack_any fun st=>Zm ?_
  split
  ·rename_i c1 _ _ _ _ _
   cases (c1 == Value.type "enumerate") <;> (wp_walk using wpAny_loadPart' ha,wpAny_pyIter_tuple hT) <;> exact⟨_,rfl,h⟩
  ·wp_walk using wpAny_loadPart' ha,wpAny_pyIter_tuple hT
   exact⟨_,rfl,h⟩
theorem Zcm {a:Addr}{us:Array Value}{Q:Value->Shared->Prop}(hT:s.heap.IsTuple a us)
  (h:∀g,IsEnum g (s.heap.objs.size+1) s.heap.objs.size 0 .none->g.IsTupleIter s.heap.objs.size a 0->g.objs.size=s.heap.objs.size+2->(∀b o,s.heap.get? b=some o->g.get? b=some o)->Q (.ref (s.heap.objs.size+1)) {s with heap:=g}) :
  wpAny (model prog w) A (call (.type "enumerate") [.ref a]) Q E s:=by
 obtain⟨⟨cc,dd,dt,sl⟩,ha,hc,n,hd⟩:=hT
 have hc':cc=.type "tuple":=hc
 have hd':dt=.seq us n:=hd
 subst hc' hd'
 refine callType_new F.called_enumerate (by decide) (F.typeCall_enumerate_1 _) (F.newCall_enumerate_1 _) (fun obj=>F.args_object_init_2 obj _) F.entry_enumerate_new (Zeh a us n dd sl) ⟨ha,?_⟩
 have hz:(s.heap.push {cls:=.type "tuple_iterator",data:=.fields #[.ref a,.int 0 0]}).objs.size=s.heap.objs.size+1:=Heap.size_push ..
 show _/\_
 rw[hz]
 have he:IsEnum ((s.heap.push {cls:=.type "tuple_iterator",data:=.fields #[.ref a,.int 0 0]}).push {cls:=.type "enumerate",data:=.fields #[.none,.bool false,.ref s.heap.objs.size,rawInt 0,.none,.none]}) (s.heap.objs.size+1) s.heap.objs.size 0 .none:=by
  have z:=Zo (s.heap.push {cls:=.type "tuple_iterator",data:=.fields #[.ref a,.int 0 0]}) (o:={cls:=.type "enumerate",data:=.fields #[.none,.bool false,.ref s.heap.objs.size,rawInt 0,.none,.none]}) rfl
  rw[hz] at z
  exact z
 exact⟨⟨_,he,rfl⟩,h _ he ⟨_,Zn _ (Zo _ rfl),rfl,rfl⟩ (by rw[Heap.size_push,hz]) fun b o y=>Zn _ (Zn _ y)⟩
end
end PyY
namespace L2
open PySem PySem.Spec PyProof.Rows
section
variable {X:Cx}{pins:List (Addr×Obj)}{σ:St}{H:Hp}{s:Shared}{h':Heap}
theorem Inv.turnLay {t':Nat}{ts:List Addr}{T:Addr}{o:HO}(I:Inv X pins σ H s)(k:∀b u,b∉ts->s.heap.get? b=some u->h'.get? b=some u)(ht:∀b∈ts,∃u,h'.get? b=some u)(hf:∀b∈ts,VN X pins H b)(hT:s.heap.objs.size<=T)
  (new:ZN X.prog X.w (upd H T o) h' T o):Inv X pins σ (upd H T o) {s with heap:=h',toks:=t'}:=by
 have fT:H T=none:=I.hok.fresh hT
 have nts:∀b u,H b=some u->b∉ts:=fun b u e z=>by
  have:=(hf b z).1
  rw[e] at this
  cases this
 refine I.call (ch:=ts) (g':=s.gens) (d':=s.drawn) ⟨fun b u e _ _ nx=>k b u nx e,fun b u e _ _ nx=>⟨u.slots,k b u nx e⟩,fun b u e n _=>?_,fun b u e nx=>⟨u,k b u nx e⟩,fun b ys q=>?_,fun b u v q=>?_,fun b ps q=>⟨#[],?_⟩⟩
  (fun b u e=>?_) I.bare fun b hb=>?_
 ·rw[Zw (Nat.ne_of_lt (Nat.lt_of_lt_of_le (Zp e) hT))]
  exact n
 ·rw[Zw (ZD q fT)]
  exact q
 ·rw[Zw (ZD q fT)]
  exact q
 ·rw[Zw (ZD q fT),q]
  simp
 ·by_cases hb:b=T
  ·subst hb
   rw[Zt] at e
   cases e
   exact new
  ·rw[Zw hb] at e
   refine (I.hok b u e).stay (fun c v hc q=>k c v ?_ q) (fun c r=>by rw[Zw (ZD r fT)];exact r) fun c ys r=>by rw[Zw (ZD r fT)];exact r
   rcases hc with z|z
   ·rw[z]
    exact nts b u e
   ·exact nts c _ z
 ·obtain⟨f0,f1,f2,f3,f4,f5⟩:=hf b hb
  exact⟨f3,f1,f4,f5⟩
theorem Inv.turnedL {t':Nat}{ts:List Addr}(I:Inv X pins σ H s)(k:∀b u,b∉ts->s.heap.get? b=some u->h'.get? b=some u)(hf:∀b∈ts,VN X pins H b):Inv X pins σ H {s with heap:=h',toks:=t'}:=by
 have nts:∀b u,H b=some u->b∉ts:=fun b u e z=>by
  have:=(hf b z).1
  rw[e] at this
  cases this
 refine I.call (ch:=ts) (g':=s.gens) (d':=s.drawn) ⟨fun b u e _ _ nx=>k b u nx e,fun b u e _ _ nx=>⟨u.slots,k b u nx e⟩,fun b u e n _=>n,fun b u e nx=>⟨u,k b u nx e⟩,fun b ys q=>q,fun b u v q=>q,fun b ps q=>⟨#[],by rw[q];simp⟩⟩
  (fun b u e=>?_) I.bare fun b hb=>?_
 ·refine (I.hok b u e).stay (fun c v hc q=>k c v ?_ q) (fun c r=>r) fun c ys r=>r
  rcases hc with z|z
  ·rw[z]
   exact nts b u e
  ·exact nts c _ z
 ·obtain⟨f0,f1,f2,f3,f4,f5⟩:=hf b hb
  exact⟨f3,f1,f4,f5⟩
end
def Zlg (K:PySem.W.Frag)(a:Addr):It:=
 ⟨fun i H=>∃xs x,Y0 K H a xs/\xs[i]?=some x,fun i H x H'=>∃T y,x=.ref T/\H T=none/\H'=upd H T (.tup [.int i,y])/\∀xs,Y0 K H a xs->xs[i]?=some y,fun i H=>∃xs,Y0 K H a xs/\xs.length<=i⟩
def Zj5 (K:PySem.W.Frag)(a:Addr):It:=
 ⟨fun i H=>∃xs x,Wu K H a xs/\xs[i]?=some x,fun i H x H'=>∃T y,x=.ref T/\H T=none/\H'=upd H T (.tup [.int i,y])/\∀xs,Wu K H a xs->xs[i]?=some y,fun i H=>∃xs,Wu K H a xs/\xs.length<=i⟩
theorem Zbz {P:Program}{w:World}{K:PySem.W.Frag}{elts:List Expr}{x1}{pos:Pos}(a e it:Addr)(ne:e≠it) :
  Zco P w K (.Tuple elts x1 pos) (Zlg K a) [e,it] e (fun i h=>(∃old,IsEnum h e it i old)/\h.IsListIter it a i) where
 mem:=by simp
 obj:=fun i h st b hb=>by
  obtain⟨⟨old,se⟩,⟨o,e1,c,d⟩⟩:=st
  rcases List.mem_cons.mp hb with rfl|hb
  ·exact⟨_,se,fun v z=>by
    have z':Data.fields _=Data.cell v:=z
    cases z'⟩
  ·have q:b=it:=by simpa using hb
   subst q
   exact⟨o,e1,fun v z=>by rw[d] at z;cases z⟩
 keep:=fun i h h' st k=>by
  obtain⟨⟨old,se⟩,si⟩:=st
  exact⟨⟨old,k e (by simp) _ se⟩,si.at fun o q=>k it (by simp) o q⟩
 item:=by
  intro X hP hw hK hc i pins s σ H E I hf st hg
  subst hP hw hK
  obtain⟨⟨old,se⟩,si⟩:=st
  obtain⟨xs,x,hq,hx⟩:=hg
  obtain⟨its,rv,p,hz⟩:=I.list hq
  obtain⟨u,hu,ru⟩:=rv.get hx
  refine wpAny_pyNext_enum_item se si p.isList (x:=u) (by simpa using hu) ne fun h1 ho hi1 hT hsz hk=>?_
  refine⟨_,rfl,wpAny_letOwnedTupleGo_enum ho fun h2 he2 hs2=>?_⟩
  have le:e<s.heap.objs.size:=Zp se
  have hs3:Heap.SameBut e h1 h2:=hs2
  have hT2:h2.get? s.heap.objs.size=some {cls:=.type "tuple",data:=.seq #[.int i s.toks,u]}:=(hs3.2 _ (Nat.ne_of_gt le)).trans hT
  have hi2:h2.IsListIter it a (i+1):=hi1.at fun o q=>(hs3.2 it (Ne.symm ne)).trans q
  have he3:IsEnum h2 e it ((i+1:Nat):Int) u:=by
   have:=he2
   simpa using this
  have nT:H s.heap.objs.size=none:=I.hok.fresh (Zq _)
  have I2:=I.turnLay (t':=s.toks+1) (h':=h2) (ts:=[e,it]) (T:=s.heap.objs.size) (o:=.tup [.int i,x]) (fun b v hb q=>?_) (fun b hb=>?_) hf (Zq _) ⟨by show 2<=sizeLine;decide,[.int i s.toks,u],.cons ⟨_,rfl⟩ (.cons ru .nil),_,hT2,rfl,0,rfl⟩
  ·refine⟨.ref s.heap.objs.size,_,I2,rfl,⟨_,x,rfl,nT,rfl,fun ys hy=>by rw[I.list_inj hy hq];exact hx⟩,⟨⟨u,he3⟩,hi2⟩,fun b hb=>?_⟩
   have fb:=(hf b hb).1
   have lb:b<s.heap.objs.size:=by
    rcases List.mem_cons.mp hb with rfl|hb
    ·exact le
    ·have q:b=it:=by simpa using hb
     subst q
     obtain⟨o,e1,_⟩:=si
     exact Zp e1
   rw[Zw (Nat.ne_of_lt lb)]
   exact fb
  ·have q1:b≠e:=fun z=>hb (by simp[z])
   have q2:b≠it:=fun z=>hb (by simp[z])
   exact (hs3.2 b q1).trans (hk b v q1 q2 q)
  ·rcases List.mem_cons.mp hb with rfl|hb
   ·exact⟨_,he3⟩
   ·have q:b=it:=by simpa using hb
    subst q
    obtain⟨o,e1,_⟩:=hi2
    exact⟨o,e1⟩
 done:=by
  intro X hP hw hK hc i pins s σ H E I hf st hg
  subst hP hw hK
  obtain⟨⟨old,se⟩,si⟩:=st
  obtain⟨xs,hq,hx⟩:=hg
  obtain⟨its,rv,p,hz⟩:=I.list hq
  have hl:=rv.length
  exact wpAny_pyNext_enum_end (I.ok.hd hc) se si p.isList (by simp;omega) fun h1 eb=>⟨rfl,I.turnedL (t':=s.toks) (ts:=[e,it]) (fun b o hb q=>eb b o (fun z=>hb (by simp[z])) q) hf⟩
 self:=fun _ _ _ _ _ st h=>by
  obtain⟨⟨old,se⟩,si⟩:=st
  exact wpAny_pyIter_enum se h
theorem Zby {P:Program}{w:World}{K:PySem.W.Frag}{elts:List Expr}{x1}{pos:Pos}(a e it:Addr)(ne:e≠it) :
  Zco P w K (.Tuple elts x1 pos) (Zj5 K a) [e,it] e (fun i h=>(∃old,IsEnum h e it i old)/\h.IsTupleIter it a i) where
 mem:=by simp
 obj:=fun i h st b hb=>by
  obtain⟨⟨old,se⟩,⟨o,e1,c,d⟩⟩:=st
  rcases List.mem_cons.mp hb with rfl|hb
  ·exact⟨_,se,fun v z=>by
    have z':Data.fields _=Data.cell v:=z
    cases z'⟩
  ·have q:b=it:=by simpa using hb
   subst q
   exact⟨o,e1,fun v z=>by rw[d] at z;cases z⟩
 keep:=fun i h h' st k=>by
  obtain⟨⟨old,se⟩,si⟩:=st
  exact⟨⟨old,k e (by simp) _ se⟩,si.at fun o q=>k it (by simp) o q⟩
 item:=by
  intro X hP hw hK hc i pins s σ H E I hf st hg
  subst hP hw hK
  obtain⟨⟨old,se⟩,si⟩:=st
  obtain⟨xs,x,hq,hx⟩:=hg
  obtain⟨its,rv,p,hz⟩:=I.tuple hq
  obtain⟨u,hu,ru⟩:=rv.get hx
  refine PyY.Zch se si (show s.heap.IsTuple a its.toArray from p) (y:=u) (by simpa using hu) ne fun h1 ho hi1 hT hsz hk=>?_
  refine⟨_,rfl,wpAny_letOwnedTupleGo_enum ho fun h2 he2 hs2=>?_⟩
  have le:e<s.heap.objs.size:=Zp se
  have hs3:Heap.SameBut e h1 h2:=hs2
  have hT2:h2.get? s.heap.objs.size=some {cls:=.type "tuple",data:=.seq #[.int i s.toks,u]}:=(hs3.2 _ (Nat.ne_of_gt le)).trans hT
  have hi2:h2.IsTupleIter it a (i+1):=hi1.at fun o q=>(hs3.2 it (Ne.symm ne)).trans q
  have he3:IsEnum h2 e it ((i+1:Nat):Int) u:=by
   have:=he2
   simpa using this
  have nT:H s.heap.objs.size=none:=I.hok.fresh (Zq _)
  have I2:=I.turnLay (t':=s.toks+1) (h':=h2) (ts:=[e,it]) (T:=s.heap.objs.size) (o:=.tup [.int i,x]) (fun b v hb q=>?_) (fun b hb=>?_) hf (Zq _) ⟨by show 2<=sizeLine;decide,[.int i s.toks,u],.cons ⟨_,rfl⟩ (.cons ru .nil),_,hT2,rfl,0,rfl⟩
  ·refine⟨.ref s.heap.objs.size,_,I2,rfl,⟨_,x,rfl,nT,rfl,fun ys hy=>by rw[I.tuple_inj hy hq];exact hx⟩,⟨⟨u,he3⟩,hi2⟩,fun b hb=>?_⟩
   have fb:=(hf b hb).1
   have lb:b<s.heap.objs.size:=by
    rcases List.mem_cons.mp hb with rfl|hb
    ·exact le
    ·have q:b=it:=by simpa using hb
     subst q
     obtain⟨o,e1,_⟩:=si
     exact Zp e1
   rw[Zw (Nat.ne_of_lt lb)]
   exact fb
  ·have q1:b≠e:=fun z=>hb (by simp[z])
   have q2:b≠it:=fun z=>hb (by simp[z])
   exact (hs3.2 b q1).trans (hk b v q1 q2 q)
  ·rcases List.mem_cons.mp hb with rfl|hb
   ·exact⟨_,he3⟩
   ·have q:b=it:=by simpa using hb
    subst q
    obtain⟨o,e1,_⟩:=hi2
    exact⟨o,e1⟩
 done:=by
  intro X hP hw hK hc i pins s σ H E I hf st hg
  subst hP hw hK
  obtain⟨⟨old,se⟩,si⟩:=st
  obtain⟨xs,hq,hx⟩:=hg
  obtain⟨its,rv,p,hz⟩:=I.tuple hq
  have hl:=rv.length
  exact PyY.Zei (I.ok.hd hc) se si (show s.heap.IsTuple a its.toArray from p) (by simp;omega) fun h1 eb=>⟨rfl,I.turnedL (t':=s.toks) (ts:=[e,it]) (fun b o hb q=>eb b o (fun z=>hb (by simp[z])) q) hf⟩
 self:=fun _ _ _ _ _ st h=>by
  obtain⟨⟨old,se⟩,si⟩:=st
  exact wpAny_pyIter_enum se h
section
variable {X:Cx}
def Ziw (K:PySem.W.Frag)(ta:TA):TI:=fun σ H R=>ta σ H fun vs H1=>∃a,vs=[.ref a]/\(((∃xs,Y0 K H1 a xs)/\R (Zlg K a) H1)\/((∃xs,Wu K H1 a xs)/\R (Zj5 K a) H1))
theorem Zk4 {elts:List Expr}{x1}{pt:Pos}{l:Expr}{ta:TA}{p pos:Pos}(hm:X.mg "enumerate"=none)(ha:PA X [l] ta)(hg:YL X.env.scope "enumerate"=true:=by kernel_rfl)(hs:starEach [l] X.env=[(false,eval l X.env)]:=by rfl) :
  PI X (.Tuple elts x1 pt) (.Call (.Name "enumerate" p) [l] [] pos) (Ziw X.K ta):=by
 intro pins s σ H R I h
 refine Call_ (Vj I (WT hg) hm (show bootBuiltins "enumerate"=some (.type "enumerate") by kernel_rfl) (PyProof.Rows.callWith_type1 (ZT (ha pos pins s σ H _ I h) fun us s1 ⟨vs,H1,I1,r1,q1⟩=>?_) hs rfl))
 obtain⟨a,e,q⟩:=q1
 subst e
 cases r1 with
 |cons r rr=>
  cases rr
  cases (show _=Value.ref a from r)
  have sz:∀b,b∈[s1.heap.objs.size+1,s1.heap.objs.size]->s1.heap.objs.size<=b:=fun b hb=>by
   rcases List.mem_cons.mp hb with rfl|hb
   ·exact Nat.le_succ _
   ·have:b=s1.heap.objs.size:=by simpa using hb
    rw[this]
    exact Zq _
  rcases q with ⟨⟨xs,hq⟩,q⟩|⟨⟨xs,hq⟩,q⟩
  ·obtain⟨its,rv,p,hz⟩:=I1.list hq
   refine call_enumerate_list p.isList fun g ge gi gs gk=>?_
   refine wpAny_pyIter_enum ge ?_
   exact⟨_,[s1.heap.objs.size+1,s1.heap.objs.size],_,_,H1,rfl,I1.kept (t':=s1.toks) gk,Zbz a _ _ (Nat.ne_of_gt (Nat.lt_succ_self _)),⟨⟨_,ge⟩,gi⟩,fun b hb=>I1.fpOk (sz b hb) (I1.hok.fresh (sz b hb)),q⟩
  ·obtain⟨its,rv,p,hz⟩:=I1.tuple hq
   refine PyY.Zcm (show s1.heap.IsTuple a its.toArray from p) fun g ge gi gs gk=>?_
   refine wpAny_pyIter_enum ge ?_
   exact⟨_,[s1.heap.objs.size+1,s1.heap.objs.size],_,_,H1,rfl,I1.kept (t':=s1.toks) gk,Zby a _ _ (Nat.ne_of_gt (Nat.lt_succ_self _)),⟨⟨_,ge⟩,gi⟩,fun b hb=>I1.fpOk (sz b hb) (I1.hok.fresh (sz b hb)),q⟩
theorem Ziz (K:PySem.W.Frag){elts:List Expr}{x1}{pt:Pos}{l:Expr}{ta:TA}{p pos:Pos}(hm:X.mg "enumerate"=none)(ha:PA X [l] ta)(hK:X.K=K:=by rfl)(hg:YL X.env.scope "enumerate"=true:=by kernel_rfl)(hs:starEach [l] X.env=[(false,eval l X.env)]:=by rfl) :
  PI X (.Tuple elts x1 pt) (.Call (.Name "enumerate" p) [l] [] pos) (Ziw K ta):=hK▸Zk4 hm ha hg hs
end
structure Zlh (J:It)(At:Hp->Prop)(xs:List V):Prop where
 go:∀i H,At H->i<xs.length->J.go i H
 yld:∀i H x H2,At H->J.yld i H x H2->∃T y,x=.ref T/\H T=none/\H2=upd H T (.tup [.int i,y])/\xs[i]?=some y
 stop:∀i H,At H->xs.length<=i->J.stop i H
theorem Zgh {K:PySem.W.Frag}{a:Addr}{xs:List V}:Zlh (Zj5 K a) (fun H=>Wu K H a xs) xs:=
 ⟨fun i H h hi=>⟨xs,xs[i],h,by simp[hi]⟩,fun i H x H2 h hy=>by
  obtain⟨T,y,e,hT,e2,q⟩:=hy
  exact⟨T,y,e,hT,e2,q xs h⟩,fun i H h hi=>⟨xs,h,hi⟩⟩
theorem Zbb {J:It}{g:TG}{tb:TS}{D:Ws}{σ:St}{H:Hp}{At:Hp->Prop}{xs:List V}(S:Zlh J At xs)(Pv:Nat->St->Hp->Prop)(h0:Pv 0 σ H)(hS:∀i σ H,Pv i σ H->At H)
  (hs:∀(i:Nat) y σ H T,xs[i]?=some y->Pv i σ H->H T=none->g (.ref T) σ (upd H T (.tup [.int i,y])) fun σ2 H2=>tb {D with nx:=Pv (i+1),ct:=Pv (i+1),bk:=D.nx} σ2 H2) (hd:∀ σ H,Pv xs.length σ H->D.nx σ H) :
  ∃W:Nat->Nat->St->Hp->Prop,(∃m,W 0 m σ H)/\∀i m σ H,W i m σ H->
   (J.stop i H/\D.nx σ H)\/(J.go i H/\∃N:St->Hp->Prop,(∀ σ' H',N σ' H'->∃m',m'<m/\W (i+1) m' σ' H')/\∀x H',J.yld i H x H'->g x σ H' fun σ2 H2=>tb {D with nx:=N,ct:=N,bk:=D.nx} σ2 H2):=by
 refine⟨fun i m σ H=>m=xs.length-i/\i<=xs.length/\Pv i σ H,⟨_,rfl,Nat.zero_le _,h0⟩,?_⟩
 rintro i m σ H ⟨rfl,hi,p⟩
 have s:=hS i σ H p
 by_cases hlt:i<xs.length
 ·refine .inr ⟨S.go i H s hlt,Pv (i+1),fun σ' H' p'=>⟨xs.length-(i+1),by omega,rfl,hlt,p'⟩,fun x H' hy=>?_⟩
  obtain⟨T,y,rfl,hT,rfl,hx⟩:=S.yld i H x H' s hy
  exact hs i y σ H T hx p hT
 ·have e:i=xs.length:=by omega
  subst e
  exact .inl ⟨S.stop _ H s (Zq _),hd σ H p⟩
theorem g2 (K:PySem.W.Frag)(i j:Nat){X:Cx}{x y:Str}{k}{px py pos:Pos}(hc:X.calm=true)(hx:PG X (.Name x px) (Yl i))(hy:PG X (.Name y py) (Yl j))(hK:X.K=K:=by rfl)
  (hn:(assignEach [.Name x px,.Name y py] X.env).length=2:=by rfl) (hst:(assignEach [.Name x px,.Name y py] X.env).findIdx? (·.1)=none:=by rfl) :
  PG X (.Tuple [.Name x px,.Name y py] k pos) (Zk1 K 2 (Zf6 (Yl i) (Zf6 (Yl j) Zk2))):=hK▸Zi2 hc (ZaM hx (ZaM hy Zg9)) hn hst
end L2
namespace Pm
open PySem L2 PySem.Spec PyProof.Rows
open Tb
def nV (k:Nat):V:=.int (k:Int)
def GT (H:Hp)(g:Addr)(t:List (List Nat)):Prop:=∃rs:List Addr,H g=some (.tup (rs.map V.ref))/\rs.length=t.length/\∀(i:Nat) r,rs[i]?=some r->Tz H r ((t.getD i []).map nV)
theorem GT.mono {H H':Hp}{g:Addr}{t:List (List Nat)}(s:Same H H')(G:GT H g t):GT H' g t:=by
 obtain⟨rs,h1,h2,h3⟩:=G
 exact⟨rs,s _ _ h1,h2,fun i r hr=>(h3 i r hr).mono s⟩
theorem Yh {t:List (List Nat)}(P:PW t){a:Nat}(ha:a<t.length):(t.getD a []).length=t.length:=by
 refine P.len _ ?_
 rw[Zb,Zf ha]
 exact List.getElem_mem ha
theorem X7 {t:List (List Nat)}(P:PW t){a b:Nat}(ha:a<t.length)(hb:b<t.length):((t.getD a []).map nV)[b]?=some (.int (ZA t a b:Nat)):=by
 have hl:=Yh P ha
 unfold ZA
 generalize t.getD a []=row at *
 rw[Zc,Zf (show b<row.length by omega),Zb,Zf (show b<row.length by omega)]
 rfl
theorem GT.at {H:Hp}{g:Addr}{t:List (List Nat)}(G:GT H g t)(P:PW t){a:Nat}(ha:a<t.length):∃(rs:List Addr) (r:Addr),H g=some (.tup (rs.map V.ref))/\rs.length=t.length/\atI (rs.map V.ref) (a:Int)=some (.ref r)/\Tz H r ((t.getD a []).map nV)/\∀b,b<t.length->atI ((t.getD a []).map nV) (b:Int)=some (.int (ZA t a b:Nat)):=by
 obtain⟨rs,h1,h2,h3⟩:=G
 have hr:rs[a]?=some (rs[a]'(by omega)):=Zf (by omega)
 exact⟨rs,_,h1,h2,YV (by rw[Zc,hr];rfl),h3 a _ hr,fun b hb=>YV (X7 P ha hb)⟩
def Zl7 (H:Hp)(L:Addr)(rs:List Addr)(f:Nat->List Nat):Prop:=H L=some (.lst (rs.map V.ref))/\∀(i:Nat) r,rs[i]?=some r->Tz H r ((f i).map nV)
theorem Za8 {n i:Nat}(h:i<n):ixN n (i:Int)=some i:=by
 unfold ixN
 rw[if_pos (Int.natCast_nonneg _),if_pos (by omega),Zj]
theorem Zbe {α:Type}:∀(l:List α) (i:Nat) (h:i<l.length),(l[i]::l.eraseIdx i).Perm l
 |x::l,0,h=>List.Perm.refl _
 |x::l,i+1,h=>by
  show ((l[i]'(Nat.lt_of_succ_lt_succ h))::x::l.eraseIdx i).Perm (x::l)
  exact (List.Perm.swap x _ _).trans (List.Perm.cons x (Zbe l i (Nat.lt_of_succ_lt_succ h)))
theorem Zjb {n:Nat}{os:List Nat}(n1:1<=n)(p:os.Perm (List.range n))(h0:os[0]?=some 0):Ord n os:=by
 refine⟨by rw[p.length_eq,Zg],p.nodup_iff.mpr List.nodup_range,fun v hv=>p.mem_iff.mpr (List.mem_range.mpr hv),fun v hv=>List.mem_range.mp (p.mem_iff.mp hv),?_⟩
 rw[Zb,h0]
 rfl
theorem Yx {xs:List Nat}{i:Nat}{y:V}(h:(xs.map nV)[i]?=some y):∃k,xs[i]?=some k/\y=.int (k:Nat):=by
 rw[Zc] at h
 cases e:xs[i]? with
 |none=>rw[e] at h;cases h
 |some k=>rw[e] at h;exact⟨k,rfl,(Option.some.inj h).symm⟩
def WC (f g:List Nat):List Nat:=g.map fun i=>f.getD i 0
def nI (xs:List Nat):List Int:=xs.map fun k:Nat=>((k:Nat):Int)
theorem Zb4 (xs:List Nat):(nI xs).map V.int=xs.map nV:=by unfold nI;rw[List.map_map];rfl
def Zx (H:Hp)(L:Addr)(bs:List Addr)(yss:List (List Nat)):Prop:=H L=some (.lst (bs.map V.ref))/\bs.length=yss.length/\∀(i:Nat) b,bs[i]?=some b->H b=some (.tup ((yss.getD i []).map nV))
theorem Zx.mono {H H':Hp}{L:Addr}{bs:List Addr}{yss:List (List Nat)}(s:Same H H')(R:Zx H L bs yss):Zx H' L bs yss:=⟨s _ _ R.1,R.2.1,fun i b hb=>s _ _ (R.2.2 i b hb)⟩
theorem Zx.push {H:Hp}{L:Addr}{bs:List Addr}{yss:List (List Nat)}{b:Addr}{ys:List Nat}(R:Zx H L bs yss)(h:H b=some (.tup (ys.map nV))):Zx (upd H L (.lst (bs.map V.ref++[.ref b]))) L (bs++[b]) (yss++[ys]):=by
 have ne:∀{b ys},H b=some (.tup ys)->upd H L (.lst (bs.map V.ref++[.ref b])) b=some (.tup ys):=fun {b ys} hb=>by
  rw[Zw (fun z=>by rw[z,R.1] at hb;cases hb)]
  exact hb
 refine⟨by rw[Zt,List.map_append];rfl,by rw[Zd,Zd,R.2.1];rfl,fun i c hc=>?_⟩
 have nb:c≠L->upd H L (.lst (bs.map V.ref++[.ref b])) c=H c:=fun z=>Zw z
 by_cases hi:i<bs.length
 ·rw[List.getElem?_append_left hi] at hc
  have:=R.2.2 i c hc
  rw[nb (fun z=>by rw[z,R.1] at this;cases this),Zb,List.getElem?_append_left (by rw[<-R.2.1];exact hi),<-Zb]
  exact this
 ·rw[List.getElem?_append_right (by omega)] at hc
  have e0:i-bs.length=0:=by
   apply Classical.byContradiction
   intro z
   rw[List.getElem?_eq_none (by rw[Zk];omega)] at hc
   cases hc
  rw[e0] at hc
  cases hc
  have:i=yss.length:=by rw[<-R.2.1];omega
  rw[nb (fun z=>by rw[z,R.1] at h;cases h),this,Zb,List.getElem?_append_right (Zq _),Nat.sub_self]
  exact h
theorem UH {K:PySem.W.Frag}{H:Hp}:∀(bs:List Addr) (yss:List (List Nat)),bs.length=yss.length->(∀(j:Nat) b,bs[j]?=some b->H b=some (.tup ((yss.getD j []).map nV)))->YX K H (bs.map V.ref) (yss.map fun ns=>PyData.tuple ((nI ns).map PyData.int))
 | [],[],_,_=>.nil
 | [],_::_,h,_=>by cases h
 |_::_,[],h,_=>by cases h
 |b::bs,y::yss,h,g=>by
  have hb:=g 0 b rfl
  have hb':H b=some (.tup ((nI y).map V.int)):=by rw[Zb4];exact hb
  exact .cons (.tup (.of hb') (YX.ints _)) (UH bs yss (Nat.succ.inj h) fun j b' hj=>g (j+1) b' hj)
theorem Zjq {a b:List Nat}:nI a=nI b↔a=b:=by
 constructor
 ·intro h
  unfold nI at h
  exact (List.map_inj_right (fun x y e=>by exact Int.ofNat.inj e)).mp h
 ·intro h;rw[h]
theorem Zdi (a b:List Nat):PyData.eqv (.tuple ((nI a).map PyData.int)) (.tuple ((nI b).map PyData.int))=decide (a=b):=by
 have:PyData.eqv (.tuple ((nI a).map PyData.int)) (.tuple ((nI b).map PyData.int))=decide (nI a=nI b):=by
  show PyData.eqvAll _ _=_
  exact PySem.W.ked_eqvAll _ _
 rw[this,decide_eq_decide]
 exact Zjq
theorem Zam (yss:List (List Nat))(o:List Nat):((yss.map fun ns=>PyData.tuple ((nI ns).map PyData.int)).any fun y=>y.eqv (.tuple ((nI o).map PyData.int)))=yss.contains o:=by
 rw[List.any_map,List.contains_eq_any_beq]
 congr 1
 funext y
 show PyData.eqv _ _=(o == y)
 rw[Zdi]
 by_cases h:y=o
 ·rw[decide_eq_true h,h,beq_self_eq_true]
 ·rw[decide_eq_false h]
  exact (beq_eq_false_iff_ne.mpr (fun z=>h z.symm)).symm
def Zgb (cur:List Nat):V->V
 | .int z=>nV (cur.getD z.toNat 0)
 |y=>y
theorem Zbd (cur g:List Nat):(g.map nV).map (Zgb cur)=(WC cur g).map nV:=by
 unfold WC
 rw[List.map_map,List.map_map]
 refine List.map_congr_left fun b _=>?_
 show nV (cur.getD (b:Int).toNat 0)=nV (cur.getD b 0)
 rw[Zj]
def Y1 (srt:List (List Nat)):List (List Nat):=srt.map fun a=>srt.map fun b=>srt.findIdx (· == WC a b)
def Gk (k:Nat)(y:List Nat):Prop:=y.length=k/\∀x∈y,x<k
theorem ZgG {k:Nat}{a g:List Nat}(ha:Gk k a)(hg:Gk k g):Gk k (WC a g):=by
 unfold WC
 refine⟨by rw[Za];exact hg.1,fun x hx=>?_⟩
 obtain⟨i,hi,rfl⟩:=List.mem_map.mp hx
 have h1:=hg.2 i hi
 have h2:=ha.1
 rw[Zb,Zf (show i<a.length by omega)]
 exact ha.2 _ (List.getElem_mem _)
theorem Zx.get {H:Hp}{L:Addr}{bs:List Addr}{yss:List (List Nat)}(R:Zx H L bs yss){i:Nat}(hi:i<yss.length):∃b,bs[i]?=some b/\atI (bs.map V.ref) (i:Int)=some (.ref b)/\H b=some (.tup ((yss.getD i []).map nV)):=by
 have hb:i<bs.length:=by rw[R.2.1];exact hi
 have e:bs[i]?=some bs[i]:=Zf hb
 exact⟨_,e,YV (by rw[Zc,e];rfl),R.2.2 i _ e⟩
theorem Zx.ref {H:Hp}{L:Addr}{bs:List Addr}{yss:List (List Nat)}(R:Zx H L bs yss){i:Nat}{y:V}(h:(bs.map V.ref)[i]?=some y):∃b,y=.ref b/\i<yss.length/\H b=some (.tup ((yss.getD i []).map nV)):=by
 rw[Zc] at h
 cases e:bs[i]? with
 |none=>rw[e] at h;cases h
 |some b=>
  rw[e] at h
  refine⟨b,(Option.some.inj h).symm,?_,R.2.2 i b e⟩
  rw[<-R.2.1]
  exact (List.getElem?_eq_some_iff.mp e).1
theorem getL {yss:List (List Nat)}{i:Nat}(h:i<yss.length):yss[i]?=some (yss.getD i []):=by
 rw[Zb,Zf h]
 rfl
theorem Zb6 {yss:List (List Nat)}{i:Nat}(h:i<yss.length):yss.getD i []∈yss:=List.mem_of_getElem? (getL h)
theorem Zio {xs:List Nat}{i:Nat}(h:i<xs.length):atI (xs.map nV) (i:Int)=some (nV (xs.getD i 0)):=YV (by rw[Zc,Zf h,Zb,Zf h];rfl)
def ZaU:List (List Nat)->Hp->(List V->Hp->Prop)->Prop
 | [],H,Q=>Q [] H
 |x::r,H,Q=>(x.map nV).length<=sizeLine/\∀p,H p=none->ZaU r (upd H p (.tup (x.map nV))) fun vs H2=>Q (.ref p::vs) H2
theorem WQ:∀(xss:List (List Nat)) (H:Hp) (Q:List V->Hp->Prop),(∀x∈xss,x.length<=1000)->
  (∀(bs:List Addr) (H':Hp),Same H H'->bs.length=xss.length->(∀(i:Nat) b,bs[i]?=some b->H' b=some (.tup ((xss.getD i []).map nV)))->Q (bs.map V.ref) H')->ZaU xss H Q
 | [],H,Q,_,q=>q [] H (Same.refl _) rfl fun i b hb=>by cases hb
 |x::r,H,Q,hl,q=>by
  have sz:(16777216:Nat)=sizeLine:=by decide
  refine⟨?_,fun p hp=>WQ r _ _ (fun y hy=>hl y (List.mem_cons_of_mem _ hy)) fun bs H' s' hb hi=>?_⟩
  ·have:=hl x List.mem_cons_self
   rw[Za]
   omega
  ·refine q (p::bs) H' ((Same.upd hp).trans s') (by rw[Zi,Zi,hb]) fun i b hib=>?_
   cases i with
   |zero=>
    cases hib
    exact s' _ _ Zt
   |succ i=>exact hi i b hib
def ZfG:List (List (List Nat))->Hp->(List V->Hp->Prop)->Prop
 | [],H,Q=>Q [] H
 |xss::r,H,Q=>ZaU xss H fun vs H1=>vs.length<=sizeLine/\∀p,H1 p=none->ZfG r (upd H1 p (.lst vs)) fun us H2=>Q (.ref p::us) H2
theorem Xu:∀(xsss:List (List (List Nat))) (H:Hp) (Q:List V->Hp->Prop),(∀xss∈xsss,xss.length<=1000/\∀x∈xss,x.length<=1000)->
  (∀(ls:List Addr) (H':Hp),Same H H'->ls.length=xsss.length->(∀(i:Nat) l,ls[i]?=some l->H l=none/\∃bs,Zx H' l bs (xsss.getD i []))->Q (ls.map V.ref) H')->ZfG xsss H Q
 | [],H,Q,_,q=>q [] H (Same.refl _) rfl fun i b hb=>by cases hb
 |xss::r,H,Q,hl,q=>by
  have sz:(16777216:Nat)=sizeLine:=by decide
  obtain⟨h1,h2⟩:=hl xss List.mem_cons_self
  refine WQ xss H _ h2 fun bs H1 s1 hb hi=>⟨by rw[Za];omega,fun p hp=>Xu r _ _ (fun y hy=>hl y (List.mem_cons_of_mem _ hy)) fun ls H' s' hls hi'=>?_⟩
  have s2:=s1.trans (Same.upd (o:=.lst (bs.map V.ref)) hp)
  refine q (p::ls) H' (s2.trans s') (by rw[Zi,Zi,hls]) fun i l hil=>?_
  cases i with
  |zero=>
   cases hil
   refine⟨s1.free hp,bs,Zx.mono s' ⟨Zt,hb,fun i b hib=>?_⟩⟩
   exact Same.upd (o:=.lst (bs.map V.ref)) hp _ _ (hi i b hib)
  |succ i=>
   obtain⟨h3,h4⟩:=hi' i l hil
   exact⟨s2.free h3,h4⟩
section
variable {X:Cx}
def teT (x:List Nat):TE:=fun _ H Q=>(x.map nV).length<=sizeLine/\∀p,H p=none->Q (.ref p) (upd H p (.tup (x.map nV)))
theorem Zha (x:List Nat){es:List Expr}{t:TA}{x1}{pos:Pos}(h:PA X es t)(e:t=fun _ H Q=>Q (x.map nV) H):PE X (.Tuple es x1 pos) (teT x):=by
 subst e
 exact Xb h
def taN (xss:List (List Nat)):TA:=fun _ H Q=>ZaU xss H Q
theorem Zhf:PA X [] (taN []):=Zs
theorem pan {e:Expr}{es:List Expr}{x:List Nat}{xss:List (List Nat)}(h:PE X e (teT x))(r:PA X es (taN xss))(hs:YK e=true:=by rfl):PA X (e::es) (taN (x::xss)):=pc h r hs
def teL (xss:List (List Nat)):TE:=fun _ H Q=>ZaU xss H fun vs H1=>vs.length<=sizeLine/\∀p,H1 p=none->Q (.ref p) (upd H1 p (.lst vs))
theorem Zhb {es:List Expr}{xss:List (List Nat)}{pos:Pos}(h:PA X es (taN xss)):PE X (.List es pos) (teL xss):=Ya h
def taL (xsss:List (List (List Nat))):TA:=fun _ H Q=>ZfG xsss H Q
theorem Zhg:PA X [] (taL []):=Zs
theorem pal {e:Expr}{es:List Expr}{xss:List (List Nat)}{xsss:List (List (List Nat))}(h:PE X e (teL xss))(r:PA X es (taL xsss))(hs:YK e=true:=by rfl):PA X (e::es) (taL (xss::xsss)):=pc h r hs
structure QE (X:Cx)(e:Expr)(t:TE):Prop where
 h:PE X e t
structure QA (X:Cx)(es:List Expr)(t:TA):Prop where
 h:PA X es t
structure QS (X:Cx)(st:Stmt)(t:TS):Prop where
 h:PS X st t
structure QSs (X:Cx)(sts:List Stmt)(t:TS):Prop where
 h:VM X sts t
theorem qi {i:Int}{j}{pos:Pos}:QE X (.Constant (.int i) j pos) (tC (.int i)):=⟨Zz⟩
theorem Z4:QA X [] ZgU:=⟨Zs⟩
theorem qa {e:Expr}{es:List Expr}{te:TE}{t:TA}(h:QE X e te)(r:QA X es t)(hs:YK e=true:=by rfl):QA X (e::es) (Zau te t):=⟨pc h.h r.h hs⟩
theorem Ys (x:List Nat){es:List Expr}{t:TA}{x1}{pos:Pos}(h:QA X es t)(e:t=fun _ H Q=>Q (x.map nV) H):QE X (.Tuple es x1 pos) (teT x):=⟨Zha x h.h e⟩
theorem YT:QA X [] (taN []):=⟨Zhf⟩
theorem qan {e:Expr}{es:List Expr}{x:List Nat}{xss:List (List Nat)}(h:QE X e (teT x))(r:QA X es (taN xss))(hs:YK e=true:=by rfl):QA X (e::es) (taN (x::xss)):=⟨pan h.h r.h hs⟩
theorem JK {es:List Expr}{xss:List (List Nat)}{pos:Pos}(h:QA X es (taN xss)):QE X (.List es pos) (teL xss):=⟨Zhb h.h⟩
theorem ZcR:QA X [] (taL []):=⟨Zhg⟩
theorem qal {e:Expr}{es:List Expr}{xss:List (List Nat)}{xsss:List (List (List Nat))}(h:QE X e (teL xss))(r:QA X es (taL xsss))(hs:YK e=true:=by rfl):QA X (e::es) (taL (xss::xsss)):=⟨pal h.h r.h hs⟩
theorem ZkG {es:List Expr}{t:TA}{pos:Pos}(h:QA X es t):QE X (.List es pos) (ZiJ t):=⟨Ya h.h⟩
theorem Zik (i:Nat){x:Str}{e:Expr}{te:TE}{pos pos':Pos}(hf:X.fn x=true)(he:QE X e te)(hi:X.N[i]?=some x:=by rfl)(hN:Wc X.N=true:=by kernel_rfl)(hx:Uc X.env.scope x=true:=by kernel_rfl)
  (hs:swapsWith e (some (.Name x pos')) pos.line X.env=pure false:=by rfl):QS X (.Assign [.Name x pos'] e pos) (ZbD te (Yl i)):=⟨ZR i hf he.h hi hN hx hs⟩
theorem Wb {st:Stmt}{rest:List Stmt}{t u:TS}(h1:QS X st t)(h2:QSs X rest u):QSs X (st::rest) (ZgS t u):=⟨Zu h1.h h2.h⟩
theorem QSs.out {sts:List Stmt}{t:TS}(h:QSs X sts t):VM X sts t:=h.h
theorem Zg0 {te:TE}{g:TG}{u:TS}{D:Ws}{σ:L2.St}{H:Hp}(h:te σ H fun x H1=>g x σ H1 (u D)):ZgS (ZbD te g) u D σ H:=h
theorem Zat (xsss:List (List (List Nat))){σ:L2.St}{H:Hp}{Q:VK}(hl:∀xss∈xsss,xss.length<=1000/\∀x∈xss,x.length<=1000)(hk:xsss.length<=1000)
  (q:∀(ls:List Addr) (H':Hp),Same H H'->ls.length=xsss.length->(∀(i:Nat) l,ls[i]?=some l->H l=none/\∃bs,Zx H' l bs (xsss.getD i []))->∀S,H' S=none->Q (.ref S) (upd H' S (.lst (ls.map V.ref)))):ZiJ (taL xsss) σ H Q:=by
 have sz:(16777216:Nat)=sizeLine:=by decide
 exact Xu xsss H _ hl fun ls H' s' h1 h2=>⟨by rw[Za];omega,q ls H' s' h1 h2⟩
theorem ZeL (xss:List (List Nat)){σ:L2.St}{H:Hp}{Q:VK}(hl:∀x∈xss,x.length<=1000)(hk:xss.length<=1000)
  (q:∀(bs:List Addr) (H':Hp),Same H H'->bs.length=xss.length->(∀(i:Nat) b,bs[i]?=some b->H' b=some (.tup ((xss.getD i []).map nV)))->∀S,H' S=none->Q (.ref S) (upd H' S (.lst (bs.map V.ref)))):teL xss σ H Q:=by
 have sz:(16777216:Nat)=sizeLine:=by decide
 exact WQ xss H _ hl fun bs H' s' h1 h2=>⟨by rw[Za];omega,q bs H' s' h1 h2⟩
end
theorem Zg5 {bs:List Addr}{i:Nat}(h:i<bs.length):∃b,bs[i]?=some b/\atI (bs.map V.ref) (i:Int)=some (.ref b):=⟨_,Zf h,YV (by rw[Zc,Zf h];rfl)⟩
def CT (H:Hp)(c:Addr)(css:List (List Nat)):Prop:=∃rs:List Addr,H c=some (.tup (rs.map V.ref))/\rs.length=css.length/\∀(i:Nat) r,rs[i]?=some r->H r=some (.tup ((css.getD i []).map nV))
theorem CT.mono {H H':Hp}{c:Addr}{css:List (List Nat)}(s:Same H H')(h:CT H c css):CT H' c css:=by
 obtain⟨rs,h1,h2,h3⟩:=h
 exact⟨rs,s _ _ h1,h2,fun i r hr=>s _ _ (h3 i r hr)⟩
def YS (n:Nat)(f:Nat->Nat):List Nat:=(List.range n).map f
theorem Ze9 (n:Nat)(f:Nat->Nat):(YS n f).length=n:=by unfold YS;rw[Za,Zg]
theorem Ze8 {n a k:Nat}(f:Nat->Nat)(ha:a<n):((YS n f).map nV).set a (nV k)=(YS n fun b=>if b=a then k else f b).map nV:=by
 unfold YS
 refine List.ext_getElem? fun i=>?_
 rw[List.getElem?_set]
 by_cases hi:i<n
 ·by_cases e:a=i
  ·subst e
   rw[if_pos rfl,if_pos (by rw[Za,Za,Zg];exact ha),Zc,Zc,List.getElem?_range ha]
   show some (nV k)=some (nV (if a=a then k else f a))
   rw[if_pos rfl]
  ·rw[if_neg e,Zc,Zc,List.getElem?_range hi,Zc,Zc,List.getElem?_range hi]
   show some (nV (f i))=some (nV (if i=a then k else f i))
   rw[if_neg (fun z=>e z.symm)]
 ·have h1:a≠i:=by omega
  rw[if_neg h1,List.getElem?_eq_none (by rw[Za,Za,Zg];omega),List.getElem?_eq_none (by rw[Za,Za,Zg];omega)]
theorem Jp {n:Nat}{f g:Nat->Nat}(h:∀a,a<n->f a=g a):YS n f=YS n g:=List.map_congr_left fun a ha=>h a (List.mem_range.mp ha)
theorem CT.row {H:Hp}{c:Addr}{css:List (List Nat)}(h:CT H c css):∃rs:List Addr,H c=some (.tup (rs.map V.ref))/\rs.length=css.length/\∀(i:Nat) y,(rs.map V.ref)[i]?=some y->∃r,y=.ref r/\i<css.length/\H r=some (.tup ((css.getD i []).map nV)):=by
 obtain⟨rs,h1,h2,h3⟩:=h
 refine⟨rs,h1,h2,fun i y hy=>?_⟩
 rw[Zc] at hy
 cases hr:rs[i]? with
 |none=>rw[hr] at hy;cases hy
 |some r=>
  rw[hr] at hy
  cases hy
  exact⟨r,rfl,by rw[<-h2];exact (List.getElem?_eq_some_iff.mp hr).1,h3 i r hr⟩
theorem tupK {X:Cx}(K:PySem.W.Frag)(hK:X.K=K:=by rfl):ZP X (.type "tuple") (fun xs H Q=>∃p ys,xs=[.ref p]/\((Y0 K H p ys/\∀l,H l=none->Q (.ref l) (upd H l (.tup ys)))\/(Wu K H p ys/\Q (.ref p) H))):=hK▸ZI
theorem Zg4 (m:Nat):(YG 0 m).map V.int=(List.range m).map nV:=by
 unfold YG
 rw[List.map_map]
 refine List.map_congr_left fun i _=>?_
 show V.int (0+(i:Int))=nV i
 rw[Int.zero_add]
 rfl
theorem UE {m i:Nat}{y:V}(h:((YG 0 m).map V.int)[i]?=some y):i<m/\y=.int (i:Nat):=by
 rw[Zg4] at h
 have hi:i<m:=by
  have:=(List.getElem?_eq_some_iff.mp h).1
  rw[Za,Zg] at this
  exact this
 rw[Zc,List.getElem?_range hi] at h
 exact⟨hi,(Option.some.inj h).symm⟩
def YM (row:List Nat):PyData:=.tuple (row.map fun k:Nat=>PyData.int (k:Int))
def dCs (css:List (List Nat)):PyData:=.tuple (css.map YM)
theorem WM {K:PySem.W.Frag}{H:Hp}:∀row:List Nat,YX K H (row.map nV) (row.map fun k:Nat=>PyData.int (k:Int))
 | []=>.nil
 |k::r=>.cons (.int _) (WM r)
theorem ZbS {K:PySem.W.Frag}{H:Hp}{a:Addr}{row:List Nat}(h:H a=some (.tup (row.map nV))):Xm K H (.ref a) (YM row):=.tup (.of h) (WM row)
theorem ZaK {K:PySem.W.Frag}{H:Hp}:∀{rs:List Addr}{css:List (List Nat)},rs.length=css.length->(∀(i:Nat) r,rs[i]?=some r->H r=some (.tup ((css.getD i []).map nV)))->YX K H (rs.map V.ref) (css.map YM)
 | [],[],_,_=>.nil
 | [],_::_,h,_=>by cases h
 |_::_,[],h,_=>by cases h
 |r::rs,c::css,h,g=>.cons (ZbS (g 0 r rfl)) (ZaK (Nat.succ.inj h) fun i r' hr=>g (i+1) r' hr)
theorem CT.rd {K:PySem.W.Frag}{H:Hp}{c:Addr}{css:List (List Nat)}(h:CT H c css):Xm K H (.ref c) (dCs css):=by
 obtain⟨rs,h1,h2,h3⟩:=h
 exact .tup (.of h1) (ZaK h2 h3)
def cyc (m:Nat):List Nat:=(List.range m).map fun i=>(i+1) % m
def neg (m:Nat):List Nat:=(List.range m).map fun i=>(m-i) % m
def mn1:List (List (List Nat)):=[[[1,0,2,3],[0,1,3,2]],[[1,0,2,3,4,5],[0,1,3,4,5,2]]]
def ma1:List (List Nat):=[[1,2,0,3],[1,0,3,2]]
def ma2:List (List Nat):=[[1,2,3,0,5,6,7,4],[4,7,6,5,2,1,0,3]]
def ma3:List (List Nat):=[[1,2,0,3,4,5,6],[0,2,1,4,5,6,3]]
def ma4:List (List Nat):=[[1,2,0,3,4,5],[0,1,2,4,5,3]]
def mn2:List (List (List Nat)):=[[[1,2,3,4,0],[0,2,4,1,3]],[[1,2,3,0],[1,0,2,3]]]
def ma5:List (List Nat):=[[1,2,3,4,5,6,0],[0,2,4,6,1,3,5]]
def mnS:List (List (List Nat)):=mn1++[ma1]++[ma2]++[ma3]++[ma4]
def mnG:List (List (List Nat)):=mnS++mn2++[ma5]
def ZY (cur:List Nat)(ps:List (List Nat))(s:List (List Nat)×List (List Nat)):List (List Nat)×List (List Nat):=ps.foldl (fun s p=>if s.1.contains (WC cur p) then s else (s.1++[WC cur p],s.2++[WC cur p])) s
def dfs (ps:List (List Nat)):Nat->List (List Nat)->List (List Nat)->Option (List (List Nat))
 |f,fd,[]=>some fd
 |0,fd,_::_=>none
 |f+1,fd,x::ln=>match ZY ((x::ln).getLast?.getD []) ps (fd,(x::ln).dropLast) with
  |(fd',ln')=>dfs ps f fd' ln'
structure Zlb (ps:List (List Nat))(k:Nat)(fd:List (List Nat)):Prop where
 k1:1<=k
 k10:k<=10
 p1:1<=ps.length
 p9:ps.length<=9
 pl:∀g∈ps,Gk k g
 run:dfs ps 61 [List.range k] [List.range k]=some fd
 n60:fd.length<=60
 hd:fd[0]?=some (List.range k)
 nd:fd.Nodup
 fg:∀g∈fd,Gk k g
 pw:PW (Y1 fd)
 cl:∀a∈fd,∀b∈fd,WC a b∈fd
def gkB (k:Nat)(y:List Nat):Bool:=decide (y.length=k) && y.all fun x=>decide (x<k)
theorem Zix {k:Nat}{y:List Nat}(h:gkB k y=true):Gk k y:=by
 unfold gkB at h
 rw[Bool.and_eq_true,decide_eq_true_eq,List.all_eq_true] at h
 exact⟨h.1,fun x hx=>of_decide_eq_true (h.2 x hx)⟩
def ndB:List (List Nat)->Bool
 | []=>true
 |x::r=>!r.contains x && ndB r
theorem Zip:∀{xs:List (List Nat)},ndB xs=true->xs.Nodup
 | [],_=>List.nodup_nil
 |x::r,h=>by
  unfold ndB at h
  rw[Bool.and_eq_true,Bool.not_eq_true'] at h
  refine List.nodup_cons.mpr ⟨fun hx=>?_,Zip h.2⟩
  rw[List.contains_iff_mem.mpr hx] at h
  cases h.1
def psB (ps:List (List Nat)):Bool:=
 let k:=(ps.getD 0 []).length
 decide (1<=k) && decide (k<=10) && decide (1<=ps.length) && decide (ps.length<=9) && ps.all (gkB k) && match dfs ps 61 [List.range k] [List.range k] with
  |none=>false
  |some fd=>decide (fd.length<=60) && decide (fd[0]?=some (List.range k)) && ndB fd && fd.all (gkB k) && pwB (Y1 fd)
theorem ZjF {srt:List (List Nat)}(Pt:PW (Y1 srt)):∀a∈srt,∀b∈srt,WC a b∈srt:=by
 intro a ha b hb
 obtain⟨i,hi⟩:=List.getElem?_of_mem ha
 obtain⟨j,hj⟩:=List.getElem?_of_mem hb
 have hl:(Y1 srt).length=srt.length:=by unfold Y1;rw[Za]
 have il:=(List.getElem?_eq_some_iff.mp hi).1
 have jl:=(List.getElem?_eq_some_iff.mp hj).1
 have h:=Pt.lt i j (by rw[hl];exact il) (by rw[hl];exact jl)
 have e:ZA (Y1 srt) i j=srt.findIdx (· == WC a b):=by
  unfold ZA Y1
  rw[Zb,Zb,Zc,hi]
  show (Option.getD (srt.map _)[j]? 0)=_
  rw[Zc,hj]
  rfl
 rw[e,hl] at h
 obtain⟨x,hx,hx2⟩:=List.findIdx_lt_length.mp h
 rw[<-eq_of_beq hx2]
 exact hx
theorem ZkM {ps:List (List Nat)}(h:psB ps=true):∃fd,Zlb ps (ps.getD 0 []).length fd:=by
 unfold psB at h
 simp only[Bool.and_eq_true,decide_eq_true_eq,List.all_eq_true] at h
 obtain⟨⟨⟨⟨⟨h1,h2⟩,h3⟩,h4⟩,h5⟩,h6⟩:=h
 cases hd:dfs ps 61 [List.range (ps.getD 0 []).length] [List.range (ps.getD 0 []).length] with
 |none=>rw[hd] at h6;cases h6
 |some fd=>
  rw[hd] at h6
  simp only[Bool.and_eq_true,decide_eq_true_eq,List.all_eq_true] at h6
  obtain⟨⟨⟨⟨g1,g2⟩,g3⟩,g4⟩,g5⟩:=h6
  have Pt:=ZiW g5
  exact⟨fd,h1,h2,h3,h4,fun g hg=>Zix (h5 g hg),hd,g1,g2,Zip g3,fun g hg=>Zix (g4 g hg),Pt,ZjF Pt⟩
theorem ZjR:((List.range 10).all fun j=>psB [cyc (j+1)])=true:=by decide +kernel
theorem Zjo:((List.range 4).all fun j=>psB [cyc (j+3),neg (j+3)])=true:=by decide +kernel
theorem Zjr:(mnG.all psB)=true:=by decide +kernel
def Zh0 (ps:List (List Nat)):Prop:=psB ps=true
theorem ZjE {j:Nat}(h:j<10):Zh0 [cyc (j+1)]:=List.all_eq_true.mp ZjR j (List.mem_range.mpr h)
theorem ZjC {j:Nat}(h:j<4):Zh0 [cyc (j+3),neg (j+3)]:=List.all_eq_true.mp Zjo j (List.mem_range.mpr h)
theorem ZkY {ps:List (List Nat)}(h:ps∈mnG):Zh0 ps:=List.all_eq_true.mp Zjr ps h
end Pm
namespace Pm
open PySem L2 PySem.Spec PyProof.Rows
section
variable {X:Cx}
theorem ZaL {o e:Expr}{to te:TE}{apos cpos spos:Pos}(ho:PE X o to)(he:QE X e te)(hns:YK e=true:=by rfl)
  (hbase:attributeBase o "append" X.env (eval o X.env)=eval o X.env:=by rfl)
  (hfew:((backTo cpos (starEach [e] X.env)).all (fun x=>!x.1) && (backToKw cpos (keywordEach [] X.env)).all (fun x=>x.1.isSome)
   && decide (([e]:List Expr).length+([]:List Keyword).length+(if ([]:List Keyword).isEmpty then 0 else 1)<30))=true:=by rfl)
  (hline:(apos.endLine == cpos.line)=true:=by rfl) (hs:starEach [e] X.env=(false,eval e X.env)::starEach [] X.env:=by rfl) (hplain:(backTo cpos (starEach [] X.env)).any (·.1)=false:=by rfl)
  (hsw:swapsWith (.Call (.Attribute o "append" apos) [e] [] cpos) none spos.line X.env=pure false:=by rfl) :
  QS X (.Expr (.Call (.Attribute o "append" apos) [e] [] cpos) spos) (ZeM (tBM X.K "list" UJ to (Zau te ZgU))):=⟨Y9 (JO PySem.F.plainAttrs_list PySem.F.slot_list_append PySem.F.type_list_append Yk ho (pc he.h Zs hns) hbase hfew hline hs hplain) hsw⟩
theorem ZkJ {c:Expr}{a b:List Stmt}{tc:TT}{t u:TS}{pos:Pos}(hc:PT X c tc)(ha:QSs X a t)(hb:VM X b u):QS X (.If c a b pos) (Zkp tc t u):=⟨Z3 hc ha.h hb⟩
theorem ZkI {st:Stmt}{t:TS}(h1:QS X st t):QSs X [st] t:=⟨Zv h1.h⟩
theorem ZkH {op:Operator}{r:R2}{a b:Expr}{ta tb:TE}{pos:Pos}(ho:Jj X (binaryOp op) r)(ha:PE X a ta)(hb:QE X b tb):QE X (.BinOp a op b pos) (tOp r ta tb):=⟨ZS ho ha hb.h⟩
end
def YO (H:Hp)(M:Addr)(ls:List Addr)(mn:List (List (List Nat))):Prop:=H M=some (.lst (ls.map V.ref))/\ls.length=mn.length/\∀(i:Nat) l,ls[i]?=some l->l≠M/\∃bs,Zx H l bs (mn.getD i [])
theorem YO.mono {H H':Hp}{M:Addr}{ls:List Addr}{mn:List (List (List Nat))}(s:Same H H')(h:YO H M ls mn):YO H' M ls mn:=
 ⟨s _ _ h.1,h.2.1,fun i l hl=>let ⟨a,bs,b⟩:=h.2.2 i l hl;⟨a,bs,b.mono s⟩⟩
theorem Zx.updM {H:Hp}{L M:Addr}{bs:List Addr}{yss:List (List Nat)}{vs:List V}{o:HO}(R:Zx H L bs yss)(hM:H M=some (.lst vs))(hn:L≠M):Zx (upd H M o) L bs yss:=
 ⟨by rw[Zw hn];exact R.1,R.2.1,fun i b hb=>by
  have:=R.2.2 i b hb
  rw[Zw (fun z=>by rw[z,hM] at this;cases this)]
  exact this⟩
theorem YO.push {H:Hp}{M S:Addr}{ls bs:List Addr}{mn:List (List (List Nat))}{xss:List (List Nat)}(h:YO H M ls mn)(hS:Zx H S bs xss)(hn:S≠M):YO (upd H M (.lst (ls.map V.ref++[.ref S]))) M (ls++[S]) (mn++[xss]):=by
 refine⟨by rw[Zt,List.map_append];rfl,by rw[Zd,Zd,h.2.1];rfl,fun i l hl=>?_⟩
 by_cases hi:i<ls.length
 ·rw[List.getElem?_append_left hi] at hl
  obtain⟨a,cs,b⟩:=h.2.2 i l hl
  refine⟨a,cs,?_⟩
  rw[Zb,List.getElem?_append_left (by rw[<-h.2.1];exact hi),<-Zb]
  exact b.updM h.1 a
 ·rw[List.getElem?_append_right (by omega)] at hl
  have e0:i-ls.length=0:=by
   apply Classical.byContradiction
   intro z
   rw[List.getElem?_eq_none (by rw[Zk];omega)] at hl
   cases hl
  rw[e0] at hl
  cases hl
  have:i=mn.length:=by rw[<-h.2.1];omega
  refine⟨hn,bs,?_⟩
  rw[this,Zb,List.getElem?_append_right (Zq _),Nat.sub_self]
  exact hS.updM h.1 hn
end Pm
namespace C23
open PySem L2 PySem.Spec PyProof.Rows
open Tb Pm
abbrev Zky:Stmt:=top 38
abbrev Ze0:Stmt:=top 39
abbrev Ze5:Stmt:=top 40
def Zh8:Sp:=fun vs H Q _=>∃(m:Nat),vs=[.int m]/\1<=m/\m<=60/\∀r H',H r=none->Same H H'->H' r=some (.tup ((cyc m).map nV))->Q (.ref r) H'
def ZcC:Sp:=fun vs H Q _=>∃(p:Addr) (b:Nat) (gr:Bool),vs=[.ref p,.bl gr]/\Yc H p b/\b+2<2 ^ 60/\∀L bs ps H',Tk p H H'->Yc H' p (b+2)->Zh0 ps->Zx H' L bs ps->Q (.ref L) H'
def Uw:Sp:=fun vs H Q _=>∃(f g:Addr) (k:Nat) (x y:List Nat),vs=[.ref f,.ref g]/\H f=some (.tup (x.map nV))/\H g=some (.tup (y.map nV))/\Gk k x/\Gk k y/\k<=1000/\∀r H',H r=none->Same H H'->H' r=some (.tup ((WC x y).map nV))->Q (.ref r) H'
def ZjN (m:Nat):V->V
 | .int z=>nV ((z.toNat+1) % m)
 |y=>y
def ZjM (m:Nat):V->V
 | .int z=>nV ((m-z.toNat) % m)
 |y=>y
theorem Zx.tk {H H':Hp}{p L:Addr}{b:Nat}{bs:List Addr}{yss:List (List Nat)}(T:Yc H p b)(d:Tk p H H')(R:Zx H L bs yss):Zx H' L bs yss:=⟨d.lst T R.1,R.2.1,fun i b hb=>d.tup T (R.2.2 i b hb)⟩
section
variable {P:Program}{w:World}{K:PySem.W.Frag}{mg:Str->Option Value}{base:Heap}
theorem Zjm {f:Addr}{fd:FuncData}(F:Wf K "_law_cycle" "_law_cycle" Zky f fd)(T:BlB mg):ZQ P w K mg base Z2 1 f fd ["_law_many"] Zh8:=by
 refine F.ok (FS (N:=["_law_many"])) (fun vs H Q E h=>?_) (fun cdv A outer s H vs Q E hr h=>?_)
 ·obtain⟨m,rfl,_⟩:=h;rfl
 ·obtain⟨m,rfl,m1,m60,q⟩:=h
  refine⟨_,Zv (ZC (ct ZI T.tuple (pc (cmp ["_law_place"] [0] ["_law_place", "_law_many"] rfl (JJ T.range (pc (vn 0) Zs)) (fun _ _ _ _ _=>gn 0) (fun _ _ _ _ _=>ZW)
   (fun _ _ _ _ _=>ZS WP (ZS Wx (vn 0) Zz) (vn 1))) Zs))),?_⟩
  refine⟨_,rfl,_,rfl,by omega,by omega,?_⟩
  rw[Zj]
  refine Yr (JG 0 m) [some (.int (m:Nat))] rfl (ZjN m) (by rw[Za,YF];omega) (fun i x H' hx s' R gg=>?_) (fun D H' nD s' hD=>?_)
  ·obtain⟨hi,rfl⟩:=UE hx
   have fin:=gg H' (Same.refl _)
   have e:ZjN m (.int (i:Nat))=V.int (((i:Int)+1) % (m:Int)):=by
    show V.int ((((i:Int).toNat+1) % m:Nat):Int)=_
    rw[Zj,Int.natCast_emod]
    rfl
   rw[e] at fin
   exact⟨_,rfl,_,_,rfl,rfl,_,rfl,_,_,rfl,rfl,(by show (0:Int)<(m:Int);omega),fin⟩
  ·have e:((YG 0 m).map V.int).map (ZjN m)=(cyc m).map nV:=by
    rw[Zg4]
    unfold cyc
    rw[List.map_map,List.map_map]
    refine List.map_congr_left fun i _=>?_
    show nV (((i:Int).toNat+1) % m)=nV ((i+1) % m)
    rw[Zj]
   rw[e] at hD
   exact⟨D,_,rfl,.inl ⟨.of hD,fun r nr=>q r _ (s'.free nr) (s'.trans (Same.upd nr)) Zt⟩⟩
theorem ZfD {f:Addr}{fd:FuncData}(F:Wf K "_law_after" "_law_after" Ze5 f fd)(T:BlB mg):ZQ P w K mg base Z2 1 f fd ["_law_one", "_law_other"] Uw:=by
 refine F.ok (FS (N:=["_law_one", "_law_other"])) (fun vs H Q E h=>?_) (fun cdv A outer s H vs Q E hr h=>?_)
 ·obtain⟨f,g,k,x,y,rfl,_⟩:=h;rfl
 ·obtain⟨f,g,k,x,y,rfl,hf,hg,gx,gy,k10,q⟩:=h
  refine⟨_,Zv (ZC (ct ZI T.tuple (pc (cmp ["_law_place"] [0] ["_law_place", "_law_one"] rfl (itT K (vn 1)) (fun _ _ _ _ _=>gn 0) (fun _ _ _ _ _=>ZW)
   (fun _ _ _ _ _=>ZE (Wn K) (vn 1) (vn 0) (fun _ _=>rfl))) Zs))),?_⟩
  refine⟨_,rfl,g,rfl,⟨_,.of hg⟩,?_⟩
  refine Yr (Ym (K:=K) (.of hg)) [some (.ref f)] rfl (Zgb x) (by rw[Za,gy.1];omega) (fun i v H' hx s' R gg=>?_) (fun D H' nD s' hD=>?_)
  ·obtain⟨j,hj,rfl⟩:=Yx hx
   have hjk:=gy.2 j (List.mem_of_getElem? hj)
   have fin:=gg H' (Same.refl _)
   have e:Zgb x (.int (j:Nat))=nV (x.getD j 0):=by
    show nV (x.getD (j:Int).toNat 0)=_
    rw[Zj]
   rw[e] at fin
   exact⟨_,rfl,_,rfl,f,_,_,_,rfl,rfl,.of (s' _ _ hf),Zio (by rw[gx.1];exact hjk),fin⟩
  ·rw[Zbd] at hD
   exact⟨D,_,rfl,.inl ⟨.of hD,fun r nr=>q r _ (s'.free nr) (s'.trans (Same.upd nr)) Zt⟩⟩
end
section
variable {P:Program}{w:World}{K:PySem.W.Frag}{mg:Str->Option Value}{base:Heap}
theorem XT {H:Hp}{L c:Addr}{x:List Nat}(h:H L=some (.lst [.ref c]))(hc:H c=some (.tup (x.map nV))):Zx H L [c] [x]:=⟨h,rfl,fun i b hb=>by
 cases i with
 |zero=>cases hb;exact hc
 |succ i=>cases hb⟩
theorem ZeF {H:Hp}{L c d:Addr}{x y:List Nat}(h:H L=some (.lst [.ref c,.ref d]))(hc:H c=some (.tup (x.map nV)))(hd:H d=some (.tup (y.map nV))):Zx H L [c,d] [x,y]:=⟨h,rfl,fun i b hb=>by
 cases i with
 |zero=>cases hb;exact hc
 |succ i=>
  cases i with
  |zero=>cases hb;exact hd
  |succ i=>cases hb⟩
theorem Zhz {m i:Nat}(h:i<m):(-(i:Int)) % (m:Int)=(((m-i) % m:Nat):Int):=by
 rw[Int.natCast_emod,Int.ofNat_sub (by omega),show (m:Int)-(i:Int)=-(i:Int)+(m:Int)*1 by omega,Int.add_mul_emod_self_left]
theorem W5 {K:PySem.W.Frag}{i:Nat}{M:Addr}{σ:L2.St}{Hb H:Hp}{ls:List Addr}{mn:List (List (List Nat))}{xss:List (List Nat)}{D:Ws}(hσ:σ[i]?=some (some (.ref M)))(m:YO H M ls mn)(s:Same Hb H)(nM:Hb M=none)(hx:∀x∈xss,x.length<=1000)(hk:xss.length<=1000)(hl:mn.length<=1000)
  (q:∀S H',Same Hb H'->YO H' M (ls++[S]) (mn++[xss])->D.nx σ H'):ZeM (tBM K "list" UJ (ZgR i) (Zau (teL xss) ZgU)) D σ H:=by
 have sz:(16777216:Nat)=sizeLine:=by decide
 refine⟨_,hσ,.inl ⟨rfl,_,.of m.1⟩,ZeL xss hx hk fun bs H1 s1 hb hi S hS=>?_⟩
 have s2:=s1.trans (Same.upd (o:=.lst (bs.map V.ref)) hS)
 have m2:=m.mono s2
 have nS:S≠M:=fun z=>by
  have:=s1 _ _ m.1
  rw[<-z,hS] at this
  cases this
 have R:Zx (upd H1 S (.lst (bs.map V.ref))) S bs xss:=⟨Zt,hb,fun i b hib=>Same.upd (o:=.lst (bs.map V.ref)) hS _ _ (hi i b hib)⟩
 refine⟨M,_,_,rfl,rfl,m2.1,by rw[Za,m.2.1];omega,q S _ ((s.trans s2).updr nM) (m2.push R nS)⟩
theorem Zfz {f:Addr}{fd:FuncData}(F:Wf K "_law_perms" "_law_perms" Ze0 f fd)(T:BlB mg)(GP:Fn P w K mg base Z2 1 "_law_pick" ["_law_tape_here", "_law_many"] Us)(GC:Fn P w K mg base Z2 1 "_law_cycle" ["_law_many"] Zh8):ZQ P w K mg base Z2 2 f fd ["_law_tape_here", "_law_great"] ZcC:=by
 refine F.ok (FS (N:=["_law_tape_here", "_law_great", "_law_way", "_law_many", "_law_menu"])) (fun vs H Q E h=>?_) (fun cdv A outer s H vs Q E hr h=>?_)
 ·obtain⟨p,b,gr,rfl,_⟩:=h;rfl
 ·obtain⟨p,b,gr,rfl,T0,hb,q⟩:=h
  refine⟨_,QSs.out (Wb ⟨ZR 2 rfl (We GP hr ZK (pc (vn 0) (pc Zz Zs)))⟩
   (Wb ⟨Z3 (ZF ZaO (vn 2) Zz (ZM _)) (Zv (ZC (Ya (pc (We GC hr ZK (pc (ZS Wx Zz (We GP hr ZK (pc (vn 0) (pc Zz Zs)))) Zs)) Zs)))) ZJ⟩
   (Wb ⟨Z3 (ZF ZaO (vn 2) Zz (ZM _))
    (Zu (ZR 3 rfl (ZS Wx Zz (We GP hr ZK (pc (vn 0) (pc Zz Zs)))))
    (Zv (ZC (Ya (pc (We GC hr ZK (pc (vn 3) Zs)) (pc (ct ZI T.tuple (pc (cmp ["_law_place"] [3] ["_law_place", "_law_many"] rfl (JJ T.range (pc (vn 3) Zs)) (fun _ _ _ _ _=>gn 0) (fun _ _ _ _ _=>ZW)
     (fun _ _ _ _ _=>ZS WP (ZkN ZiD (vn 0)) (vn 1))) Zs)) Zs)))))) ZJ⟩
   (Wb (Zik 4 rfl (ZkG (qal (JK (qan (Ys [1,0,2,3] (qa qi (qa qi (qa qi (qa qi Z4)))) (by rfl)) (qan (Ys [0,1,3,2] (qa qi (qa qi (qa qi (qa qi Z4)))) (by rfl)) YT))) (qal (JK (qan (Ys [1,0,2,3,4,5] (qa qi (qa qi (qa qi (qa qi (qa qi (qa qi Z4)))))) (by rfl)) (qan (Ys [0,1,3,4,5,2] (qa qi (qa qi (qa qi (qa qi (qa qi (qa qi Z4)))))) (by rfl)) YT))) ZcR))))
   (Wb (ZaL (vn 4) (JK (qan (Ys [1,2,0,3] (qa qi (qa qi (qa qi (qa qi Z4)))) (by rfl)) (qan (Ys [1,0,3,2] (qa qi (qa qi (qa qi (qa qi Z4)))) (by rfl)) YT)))) (Wb (ZaL (vn 4) (JK (qan (Ys [1,2,3,0,5,6,7,4] (qa qi (qa qi (qa qi (qa qi (qa qi (qa qi (qa qi (qa qi Z4)))))))) (by rfl)) (qan (Ys [4,7,6,5,2,1,0,3] (qa qi (qa qi (qa qi (qa qi (qa qi (qa qi (qa qi (qa qi Z4)))))))) (by rfl)) YT)))) (Wb (ZaL (vn 4) (JK (qan (Ys [1,2,0,3,4,5,6] (qa qi (qa qi (qa qi (qa qi (qa qi (qa qi (qa qi Z4))))))) (by rfl)) (qan (Ys [0,2,1,4,5,6,3] (qa qi (qa qi (qa qi (qa qi (qa qi (qa qi (qa qi Z4))))))) (by rfl)) YT)))) (Wb (ZaL (vn 4) (JK (qan (Ys [1,2,0,3,4,5] (qa qi (qa qi (qa qi (qa qi (qa qi (qa qi Z4)))))) (by rfl)) (qan (Ys [0,1,2,4,5,3] (qa qi (qa qi (qa qi (qa qi (qa qi (qa qi Z4)))))) (by rfl)) YT))))
   (Wb (ZkJ (YJ (vn 1)) (Wb (Zik 4 rfl (ZkH Zjh (vn 4) (ZkG (qal (JK (qan (Ys [1,2,3,4,0] (qa qi (qa qi (qa qi (qa qi (qa qi Z4))))) (by rfl)) (qan (Ys [0,2,4,1,3] (qa qi (qa qi (qa qi (qa qi (qa qi Z4))))) (by rfl)) YT))) (qal (JK (qan (Ys [1,2,3,0] (qa qi (qa qi (qa qi (qa qi Z4)))) (by rfl)) (qan (Ys [1,0,2,3] (qa qi (qa qi (qa qi (qa qi Z4)))) (by rfl)) YT))) ZcR))))) (ZkI (ZaL (vn 4) (JK (qan (Ys [1,2,3,4,5,6,0] (qa qi (qa qi (qa qi (qa qi (qa qi (qa qi (qa qi Z4))))))) (by rfl)) (qan (Ys [0,2,4,6,1,3,5] (qa qi (qa qi (qa qi (qa qi (qa qi (qa qi (qa qi Z4))))))) (by rfl)) YT)))))) ZJ)
   ⟨Zv (ZC (ZE (ixL K) (vn 4) (We GP hr ZK (pc (vn 0) (pc (cb (YA K) T.len (pc (vn 4) Zs)) Zs))) (fun _ _=>rfl)))⟩))))))))),?_⟩
  have sz:(16777216:Nat)=sizeLine:=by decide
  refine⟨_,rfl,p,8,b,rfl,T0,by omega,by decide,by decide,fun r H1 a0 a1 k1 T1=>?_⟩
  refine⟨_,rfl,_,_,rfl,rfl,_,rfl,JS (fun _=>?_) (fun _=>?_)⟩
  ·refine⟨_,rfl,p,10,b+1,rfl,T1,by omega,by decide,by decide,fun r2 H2 c0 c1 k2 T2=>?_⟩
   obtain⟨j,rfl⟩:=Int.eq_ofNat_of_zero_le c0
   have hj:j<10:=by omega
   refine⟨_,_,rfl,rfl,j+1,?_,by omega,by omega,fun c H3 nc s3 hc=>⟨(by show 1<=sizeLine;decide),fun L nL=>?_⟩⟩
   ·show [V.int (1+(j:Int))]=[V.int ((j+1:Nat):Int)]
    rw[show (1:Int)+(j:Int)=((j+1:Nat):Int) by omega]
   ·have s4:=s3.trans (Same.upd (o:=.lst [.ref c]) nL)
    exact q L [c] [cyc (j+1)] _ ((k1.trans k2).trans (Tk.of s4)) (T2.mono s4) (ZjE hj) (XT Zt (Same.upd nL _ _ hc))
  refine⟨_,rfl,_,_,rfl,rfl,_,rfl,JS (fun _=>?_) (fun _=>?_)⟩
  ·refine⟨_,rfl,p,4,b+1,rfl,T1,by omega,by decide,by decide,fun r2 H2 c0 c1 k2 T2=>⟨_,_,rfl,rfl,?_⟩⟩
   obtain⟨j,rfl⟩:=Int.eq_ofNat_of_zero_le c0
   have hj:j<4:=by omega
   have e3:(3:Int)+(j:Int)=((j+3:Nat):Int):=by omega
   dsimp only
   rw[e3]
   refine⟨_,rfl,j+3,rfl,by omega,by omega,fun c H3 nc s3 hc=>?_⟩
   refine⟨_,rfl,_,rfl,by omega,by omega,?_⟩
   rw[Zj]
   refine Yr (JG 0 (j+3)) [some (.int ((j+3:Nat):Int))] rfl (ZjM (j+3)) (by rw[Za,YF];omega) (fun i x H' hx s' R gg=>?_) (fun D H4 nD s4 hD=>?_)
   ·obtain⟨hi,rfl⟩:=UE hx
    have fin:=gg H' (Same.refl _)
    have e:ZjM (j+3) (.int (i:Nat))=V.int ((-(i:Int)) % ((j+3:Nat):Int)):=by
     show V.int ((((j+3)-(i:Int).toNat) % (j+3):Nat):Int)=_
     rw[Zj,Zhz hi]
    rw[e] at fin
    exact⟨_,rfl,_,rfl,_,rfl,_,_,rfl,rfl,(by show (0:Int)<((j+3:Nat):Int);omega),fin⟩
   ·have e:((YG 0 (j+3)).map V.int).map (ZjM (j+3))=(neg (j+3)).map nV:=by
     rw[Zg4]
     unfold neg
     rw[List.map_map,List.map_map]
     refine List.map_congr_left fun i _=>?_
     show nV ((j+3-(i:Int).toNat) % (j+3))=nV ((j+3-i) % (j+3))
     rw[Zj]
    rw[e] at hD
    refine⟨D,_,rfl,.inl ⟨.of hD,fun d nd=>⟨(by show 2<=sizeLine;decide),fun L nL=>?_⟩⟩⟩
    have s5:=Same.upd (o:=.lst [.ref c,.ref d]) nL
    have s6:=(s3.trans s4).trans ((Same.upd (o:=.tup ((neg (j+3)).map nV)) nd).trans s5)
    exact q L [c,d] [cyc (j+3),neg (j+3)] _ ((k1.trans k2).trans (Tk.of s6)) (T2.mono s6) (ZjC hj) (ZeF Zt (s5 _ _ (Same.upd nd _ _ (s4 _ _ hc))) (s5 _ _ Zt))
  have out:∀(M:Addr) (ls:List Addr) (mn:List (List (List Nat))) (H9 H2:Hp) {j:Nat}{Gl:Prop},Same H1 H9->YO H9 M ls mn->(∀ps∈mn,ps∈mnG)->Tk p H9 H2->Yc H2 p (b+1+1)->(j:Int)<(mn.length:Nat)->(∀{l:Addr},H2 M=some (.lst (ls.map V.ref))->atI (ls.map V.ref) (j:Int)=some (.ref l)->Q (.ref l) H2->Gl)->Gl:=fun M ls mn H9 H2 {j Gl} s9 m hin k2 T2 hj fin=>by
   have hjl:j<ls.length:=by rw[m.2.1];omega
   obtain⟨l,hl,hat⟩:=Zg5 hjl
   obtain⟨_,bs,R⟩:=m.2.2 j l hl
   have T9:=T1.mono s9
   have hm:mn.getD j []∈mn:=by
    rw[Zb,Zf (show j<mn.length by omega)]
    exact List.getElem_mem _
   exact fin (k2.lst T9 m.1) hat (q l bs _ H2 ((k1.trans (Tk.of s9)).trans k2) T2 (ZkY (hin _ hm)) (Zx.tk T9 k2 R))
  refine Zg0 (Zat mn1 (by decide) (by decide) fun ls H2 s2 hl2 hi2 M hM=>?_)
  have s3:=s2.trans (Same.upd (H:=H2) (o:=.lst (ls.map V.ref)) hM)
  have nM:H1 M=none:=s2.free hM
  have m0:YO (upd H2 M (.lst (ls.map V.ref))) M ls mn1:=⟨Zt,hl2,fun i l hl=>by
   obtain⟨u1,bs,u2⟩:=hi2 i l hl
   refine⟨fun z=>?_,bs,u2.mono (Same.upd hM)⟩
   have:=u2.1
   rw[z,hM] at this
   cases this⟩
  generalize upd H2 M (.lst (ls.map V.ref))=H3 at s3 m0 ⊢
  refine W5 (xss:=ma1) rfl m0 s3 nM (by decide) (by decide) (by decide) fun S1 H4 s4 m4=>?_
  refine W5 (xss:=ma2) rfl m4 s4 nM (by decide) (by decide) (by decide) fun S2 H5 s5 m5=>?_
  refine W5 (xss:=ma3) rfl m5 s5 nM (by decide) (by decide) (by decide) fun S3 H6 s6 m6=>?_
  refine W5 (xss:=ma4) rfl m6 s6 nM (by decide) (by decide) (by decide) fun S4 H7 s7 m7=>?_
  replace m7:YO H7 M (ls++[S1]++[S2]++[S3]++[S4]) mnS:=m7
  generalize ls++[S1]++[S2]++[S3]++[S4]=L5 at m7
  refine⟨_,rfl,gr,rfl,JS (fun _=>?_) (fun _=>?_)⟩
  ·refine⟨_,rfl,Zat mn2 (by decide) (by decide) fun ls' H8 s8 hl8 hi8 M' hM'=>?_⟩
   have s9:=Same.upd (H:=H8) (o:=.lst (ls'.map V.ref)) hM'
   have hA:=m7.mono (s8.trans s9)
   refine⟨M,M',_,_,rfl,rfl,hA.1,Zt,by rw[Za,Za,hA.2.1,hl8];decide,fun N nN=>?_⟩
   have sX:=Same.upd (o:=.lst (L5.map V.ref++ls'.map V.ref)) nN
   have s10:=((s7.trans s8).trans s9).trans sX
   have nN1:H1 N=none:=((s7.trans s8).trans s9).free nN
   have mN:YO (upd (upd H8 M' (.lst (ls'.map V.ref))) N (.lst (L5.map V.ref++ls'.map V.ref))) N (L5++ls') (mnS++mn2):=by
    have lm:L5.length=mnS.length:=hA.2.1
    refine⟨by rw[Zt,List.map_append],by rw[Zd,Zd,lm,hl8],fun i l hl=>?_⟩
    have go:∀{H':Hp}{l:Addr}{bs:List Addr}{xss:List (List Nat)},Zx H' l bs xss->Same H' (upd H8 M' (.lst (ls'.map V.ref)))->l≠N:=fun {H' l bs xss} R s z=>by
     have:=s _ _ R.1
     rw[z,nN] at this
     cases this
    by_cases hi:i<L5.length
    ·rw[List.getElem?_append_left hi] at hl
     obtain⟨_,bs,u2⟩:=hA.2.2 i l hl
     refine⟨go u2 (Same.refl _),bs,?_⟩
     rw[Zb,List.getElem?_append_left (by rw[<-lm];exact hi),<-Zb]
     exact u2.mono sX
    ·rw[List.getElem?_append_right (by omega)] at hl
     obtain⟨_,bs,u2⟩:=hi8 _ l hl
     refine⟨go u2 s9,bs,?_⟩
     rw[Zb,List.getElem?_append_right (by rw[<-lm];omega),<-lm,<-Zb]
     exact u2.mono (s9.trans sX)
   generalize upd (upd H8 M' (.lst (ls'.map V.ref))) N (.lst (L5.map V.ref++ls'.map V.ref))=HN at s10 mN ⊢
   refine W5 (xss:=ma5) rfl mN s10 nN1 (by decide) (by decide) (by decide) fun S5 H9 s11 m11=>?_
   refine⟨_,rfl,_,rfl,_,rfl,N,_,rfl,.inl (.of m11.1),?_⟩
   rw[Za,m11.2.1]
   refine⟨p,_,b+1,rfl,T1.mono s11,by omega,by decide,by decide,fun r2 H2 c0 c1 k2 T2=>?_⟩
   obtain⟨j,rfl⟩:=Int.eq_ofNat_of_zero_le c0
   exact out _ _ _ _ _ s11 m11 (by decide) k2 T2 c1 fun hM hat R=>⟨N,_,_,_,rfl,rfl,.of hM,hat,R⟩
  ·refine⟨_,rfl,_,rfl,_,rfl,M,_,rfl,.inl (.of m7.1),?_⟩
   rw[Za,m7.2.1]
   refine⟨p,_,b+1,rfl,T1.mono s7,by omega,by decide,by decide,fun r2 H2 c0 c1 k2 T2=>?_⟩
   obtain⟨j,rfl⟩:=Int.eq_ofNat_of_zero_le c0
   exact out _ _ _ _ _ s7 m7 (by decide) k2 T2 c1 fun hM hat R=>⟨M,_,_,_,rfl,rfl,.of hM,hat,R⟩
end
end C23
namespace Pm
open PySem L2 PySem.Spec PyProof.Rows
open Tb
theorem neC {X:Cx}(K:PySem.W.Frag)(hu:X.A.units+64<cLine)(hK:X.K=K:=by rfl):Jj X (compareOp .NotEq) (fun x y H Q=>∃dx dy,Xm K H x dx/\Xm K H y dy/\SeqAt.shaped dx=true/\SeqAt.shaped dy=true/\Q (.bl (!PyData.eqv dx dy)) H):=hK▸Zfv hu
theorem U8 (ds:List PyData):PyData.eqv (.list ds) (.list [])=ds.isEmpty:=by
 cases ds with
 |nil=>rfl
 |cons d r=>rfl
def dT (x:List Nat):PyData:=PyData.tuple ((nI x).map PyData.int)
theorem U9:∀yss:List (List Nat),PyData.canLayAll0 (yss.map dT)=true
 | []=>rfl
 |y::yss=>by
  show (PyData.canLay0 (.tuple ((nI y).map PyData.int)) && PyData.canLayAll0 (yss.map dT))=true
  rw[U9 yss,Jw]
  rfl
theorem Uf:∀yss:List (List Nat),PyData.depthAll (yss.map dT)<=60
 | []=>Nat.zero_le _
 |y::yss=>by
  show max (PyData.depth (.tuple ((nI y).map PyData.int))) (PyData.depthAll (yss.map dT))<=60
  exact Nat.max_le.mpr ⟨Xg _,Uf yss⟩
theorem ZaB (yss:List (List Nat)):SeqAt.shaped (.list (yss.map dT))=true:=by
 unfold SeqAt.shaped
 have h1:PyData.canLay0 (.list (yss.map dT))=true:=U9 yss
 have h2:PyData.depth (.list (yss.map dT))<=64:=by
  have:=Uf yss
  show PyData.depthAll (yss.map dT)+1<=64
  omega
 simp only[h1,Bool.true_and,Bool.and_true,decide_eq_true_eq]
 exact h2
theorem Zx.rds {K:PySem.W.Frag}{H:Hp}{L:Addr}{bs:List Addr}{yss:List (List Nat)}(R:Zx H L bs yss):YX K H (bs.map V.ref) (yss.map dT):=UH bs yss R.2.1 R.2.2
theorem Zx.rd {K:PySem.W.Frag}{H:Hp}{L:Addr}{bs:List Addr}{yss:List (List Nat)}(R:Zx H L bs yss):Xm K H (.ref L) (.list (yss.map dT)):=.lst (.of R.1) R.rds
theorem Zx.pop {H:Hp}{L:Addr}{bs:List Addr}{yss:List (List Nat)}(R:Zx H L bs yss):Zx (upd H L (.lst (bs.map V.ref).dropLast)) L bs.dropLast yss.dropLast:=by
 refine⟨by rw[Zt,List.map_dropLast],by rw[List.length_dropLast,List.length_dropLast,R.2.1],fun i b hb=>?_⟩
 have hi:i<bs.length-1:=by
  have:=(List.getElem?_eq_some_iff.mp hb).1
  rw[List.length_dropLast] at this
  exact this
 rw[List.getElem?_dropLast,if_pos hi] at hb
 have h:=R.2.2 i b hb
 rw[Zw (fun z=>by rw[z,R.1] at h;cases h),h,Zb,Zb,List.getElem?_dropLast,if_pos (by rw[<-R.2.1];exact hi)]
theorem ZbG (cur:List Nat){ps:List (List Nat)}{s:List (List Nat)×List (List Nat)}{i:Nat}{g:List Nat}(h:ps[i]?=some g):ZY cur (ps.take (i+1)) s=if (ZY cur (ps.take i) s).1.contains (WC cur g) then ZY cur (ps.take i) s else ((ZY cur (ps.take i) s).1++[WC cur g],(ZY cur (ps.take i) s).2++[WC cur g]):=by
 unfold ZY
 rw[List.take_add_one,h,List.foldl_append]
 rfl
theorem J7 (cur:List Nat):∀(ps:List (List Nat)) (s:List (List Nat)×List (List Nat)),s.1.length<=(ZY cur ps s).1.length
 | [],s=>Zq _
 |p::ps,s=>by
  show s.1.length<=(ZY cur ps (if s.1.contains (WC cur p) then s else (s.1++[WC cur p],s.2++[WC cur p]))).1.length
  refine Nat.le_trans ?_ (J7 cur ps _)
  split
  ·exact Zq _
  ·show s.1.length<=(s.1++[WC cur p]).length
   rw[Zd];omega
theorem ZbH (cur:List Nat)(ps:List (List Nat))(s:List (List Nat)×List (List Nat))(i:Nat):(ZY cur (ps.take i) s).1.length<=(ZY cur ps s).1.length:=by
 have:ZY cur ps s=ZY cur (ps.drop i) (ZY cur (ps.take i) s):=by
  unfold ZY
  rw[<-List.foldl_append,List.take_append_drop]
 rw[this]
 exact J7 _ _ _
theorem Zdn (ps:List (List Nat)):∀(f:Nat) (fd ln r:List (List Nat)),dfs ps f fd ln=some r->fd.length<=r.length
 |f,fd,[],r,h=>by
  have:fd=r:=by cases f <;> exact Option.some.inj h
  rw[this]
  exact Zq _
 |0,fd,_::_,r,h=>by cases h
 |f+1,fd,x::ln,r,h=>by
  exact Nat.le_trans (J7 ((x::ln).getLast?.getD []) ps (fd,(x::ln).dropLast)) (Zdn ps f (ZY ((x::ln).getLast?.getD []) ps (fd,(x::ln).dropLast)).1 (ZY ((x::ln).getLast?.getD []) ps (fd,(x::ln).dropLast)).2 r h)
theorem Za4 (x:List Nat)(r:List (List Nat)):(x::r).getD ((x::r).length-1) []=(x::r).getLast?.getD []:=by
 rw[List.getLast?_eq_getElem?,Zb]
end Pm
namespace C23
open PySem L2 PySem.Spec PyProof.Rows
open Tb Pm
abbrev ZcL:Stmt:=top 41
def Zax:Sp:=fun vs H Q _=>∃(L:Addr) (bs:List Addr) (ps:List (List Nat)) (k:Nat) (fd:List (List Nat)),vs=[.ref L]/\Zx H L bs ps/\Zlb ps k fd/\∀D cs H',H D=none->Same H H'->Zx H' D cs fd->Q (.ref D) H'
section
variable {P:Program}{w:World}{K:PySem.W.Frag}{mg:Str->Option Value}{base:Heap}
theorem ZdU {f:Addr}{fd:FuncData}(F:Wf K "_law_things" "_law_things" ZcL f fd)(T:BlB mg)(GA:Fn P w K mg base Z2 1 "_law_after" ["_law_one", "_law_other"] Uw):ZQ P w K mg base Z2 2 f fd ["_law_perms_here"] Zax:=by
 refine F.ok (FS (N:=["_law_perms_here", "_law_found", "_law_line", "_law_here", "_law_perm", "_law_later"])) (fun vs H Q E h=>?_) (fun cdv A outer s H vs Q E hr h=>?_)
 ·obtain⟨L,bs,ps,k,fd,rfl,_⟩:=h;rfl
 ·obtain⟨L,bs,ps,k,fd0,rfl,R0,B,q⟩:=h
  refine⟨_,Zu (ZR 1 rfl (Ya (pc (ct (W3 rfl) T.tuple (pc (ct Xz T.range (pc (cb (YA K) T.len (pc (ZE (ixL K) (vn 0) Zz (fun _ _=>rfl)) Zs)) Zs)) Zs)) Zs)))
   (Zu (ZR 2 rfl (ct Zaf T.list (pc (vn 1) Zs)))
   (Zu (JL PassesOwn.never (ZF (neC K hr.units) (vn 2) (Ya Zs) (ZM _))
    (Zu (ZR 3 rfl (Zfo PySem.F.plainAttrs_list PySem.F.slot_list_pop PySem.F.type_list_pop ZfI (vn 2)))
    (Zv (Z5 PassesOwn.never rfl (itL K (vn 0)) (gn 4)
     (Zu (ZR 5 rfl (We GA hr ZK (pc (vn 3) (pc (vn 4) Zs))))
     (Zv (Z3 (ZF (ZkS K hr.units) (vn 5) (vn 1) (by rfl))
      (Zu (Y9 (JO PySem.F.plainAttrs_list PySem.F.slot_list_append PySem.F.type_list_append Yk (vn 1) (pc (vn 5) Zs)))
      (Zv (Y9 (JO PySem.F.plainAttrs_list PySem.F.slot_list_append PySem.F.type_list_append Yk (vn 2) (pc (vn 5) Zs))))) ZJ)))))))
   (Zv (ZC (vn 1))))),?_⟩
  have sz:(16777216:Nat)=sizeLine:=by decide
  have k1:=B.k1
  have k10:=B.k10
  have p1:=B.p1
  have p9:=B.p9
  have n60:=B.n60
  obtain⟨b0,_,hat0,hb0⟩:=R0.get (i:=0) (by omega)
  have e0:((ps.getD 0 []).map nV).length=k:=by rw[Za];exact (B.pl _ (Zb6 (by omega))).1
  refine⟨_,rfl,L,_,_,_,rfl,rfl,.of R0.1,hat0,b0,_,rfl,.inr (.of hb0),_,rfl,fun r0 hr0=>⟨r0,0,_,rfl,Zt,⟨by omega,by omega,by rw[e0];omega,by rw[e0];omega⟩,by rw[e0];omega,fun l hl=>?_⟩⟩
  rw[e0] at hl ⊢
  have ek:((k:Int)-0).toNat=k:=by omega
  rw[ek] at *
  refine⟨(by show 1<=sizeLine;decide),fun D nD'=>?_⟩
  have s1:Same H (upd H r0 (.rng 0 (k:Int))):=Same.upd hr0
  have s2:=s1.trans (Same.upd (o:=.tup ((YG 0 k).map V.int)) hl)
  have s3:=s2.trans (Same.upd (o:=.lst [.ref l]) nD')
  have nD:H D=none:=s2.free nD'
  have R1:Zx (upd (upd (upd H r0 (.rng 0 (k:Int))) l (.tup ((YG 0 k).map V.int))) D (.lst [.ref l])) D [l] [List.range k]:=XT Zt (by
   rw[Zw (fun z=>by rw[<-z,Zt] at nD';cases nD'),Zt,Zg4])
  generalize upd (upd (upd H r0 (.rng 0 (k:Int))) l (.tup ((YG 0 k).map V.int))) D (.lst [.ref l])=H3 at s3 R1 ⊢
  refine⟨_,rfl,D,[.ref l],rfl,.inl (.of R1.1),fun Ln nL'=>?_⟩
  have s4:=Same.upd (H:=H3) (o:=.lst [.ref l]) nL'
  have nL:H Ln=none:=s3.free nL'
  have nDL:D≠Ln:=fun z=>by
   have:=R1.1
   rw[z,nL'] at this
   cases this
  have R2:Zx (upd H3 Ln (.lst [.ref l])) Ln [l] [List.range k]:=XT Zt (s4 _ _ (R1.2.2 0 l rfl))
  have R1':=R1.mono s4
  have s34:=s3.trans s4
  generalize upd H3 Ln (.lst [.ref l])=H4 at s34 R1' R2 ⊢
  have g0:∀y∈[List.range k],Gk k y:=fun y hy=>by
   rw[List.mem_singleton.mp hy]
   exact⟨Zg,fun x hx=>List.mem_range.mp hx⟩
  refine Jy (fun m σ' H'=>∃(cs es:List Addr) (yss ln:List (List Nat)) (v3 v4 v5:Option V),σ'=[some (.ref L),some (.ref D),some (.ref Ln),v3,v4,v5]/\Same H H'/\Zx H' D cs yss/\Zx H' Ln es ln/\(∀y∈yss,Gk k y)/\(∀y∈ln,Gk k y)/\ln.length<=yss.length/\dfs ps m yss ln=some fd0)
   (fun σ' H'=>∃(cs:List Addr) (v3 v4 v5:Option V),σ'=[some (.ref L),some (.ref D),some (.ref Ln),v3,v4,v5]/\Same H H'/\Zx H' D cs fd0) ?hend ⟨61,_,_,_,_,_,_,_,rfl,s34,R1',R2,g0,g0,Zq _,B.run⟩ ?turn
  case hend=>
   rintro σ' H' ⟨cs,v3,v4,v5,rfl,sm,R⟩
   exact⟨_,rfl,q D cs H' nD sm R⟩
  case turn=>
   rintro hend m σ' H' ⟨cs,es,yss,ln,v3,v4,v5,rfl,sm,R,S,gd,gl,ll,run⟩
   refine⟨_,rfl,(by show 0<=sizeLine;decide),fun e0 ne0=>?_⟩
   have sE:=Same.upd (H:=H') (o:=.lst []) ne0
   have RE:=R.mono sE
   have SE:=S.mono sE
   have smE:=sm.trans sE
   refine⟨_,_,SE.rd,.lst (.of Zt) .nil,ZaB ln,rfl,_,rfl,?_⟩
   generalize upd H' e0 (.lst [])=HE at RE SE smE ⊢
   rw[U8]
   cases ln with
   |nil=>
    refine YI (by decide) (hend _ _ ⟨cs,v3,v4,v5,rfl,smE,?_⟩)
    have:yss=fd0:=by cases m <;> exact Option.some.inj run
    rw[<-this]
    exact RE
   |cons x r=>
    refine Xe rfl ?_
    cases m with
    |zero=>cases run
    |succ m=>
     have run:dfs ps m (ZY ((x::r).getLast?.getD []) ps (yss,(x::r).dropLast)).1 (ZY ((x::r).getLast?.getD []) ps (yss,(x::r).dropLast)).2=some fd0:=run
     have esl:es.length=(x::r).length:=SE.2.1
     have hel:es.length-1<es.length:=by rw[esl,Zi];omega
     have hlast:=SE.2.2 (es.length-1) _ (Zf hel)
     have hcg:Gk k ((x::r).getLast?.getD []):=by
      rw[<-Za4]
      exact gl _ (Zb6 (by rw[Zi];omega))
     have el:(x::r).getD (es.length-1) []=(x::r).getLast?.getD []:=by rw[esl];exact Za4 x r
     rw[el] at hlast
     have hlen:=Zdn ps m _ _ _ run
     have gl0:∀y∈(x::r).dropLast,Gk k y:=fun y hy=>gl y (List.dropLast_subset _ hy)
     have ll0:(x::r).dropLast.length<=yss.length:=by rw[List.length_dropLast];omega
     have hxs:(es.map V.ref)[(es.map V.ref).length-1]?=some (.ref es[es.length-1]):=by rw[Za,Zc,Zf hel];rfl
     have SP:=SE.pop
     have RP:=RE.updM (o:=.lst (es.map V.ref).dropLast) SE.1 nDL
     have smP:=smE.updr (o:=.lst (es.map V.ref).dropLast) nL
     have hcP:upd HE Ln (.lst (es.map V.ref).dropLast) es[es.length-1]=some (.tup (((x::r).getLast?.getD []).map nV)):=by
      rw[Zw (fun z=>by rw[z,SE.1] at hlast;cases hlast)]
      exact hlast
     refine⟨_,fun _ _ z=>z,_,rfl,.inl ⟨rfl,_,.of SE.1⟩,Ln,_,_,rfl,rfl,SE.1,hxs,?_⟩
     generalize upd HE Ln (.lst (es.map V.ref).dropLast)=HP at SP RP smP hcP ⊢
     generalize es[es.length-1]=ea at hcP ⊢
     generalize (x::r).getLast?.getD []=cur at hcP hcg run hlen ⊢
     generalize (x::r).dropLast=ln0 at SP run hlen gl0 ll0
     have pll:(bs.map V.ref).length=ps.length:=by rw[Za,R0.2.1]
     refine⟨_,rfl,L,rfl,⟨_,.of (smP _ _ R0.1)⟩,?_⟩
     refine Je (H0:=H) (Y8 (K:=K) (.of R0.1)) (fun i τ HH=>∃(cs' es':List Addr) (w4 w5:Option V),τ=[some (.ref L),some (.ref D),some (.ref Ln),some (.ref ea),w4,w5]/\Same H HH/\Zx HH D cs' (ZY cur (ps.take i) (yss,ln0)).1/\Zx HH Ln es' (ZY cur (ps.take i) (yss,ln0)).2/\(∀y∈(ZY cur (ps.take i) (yss,ln0)).1,Gk k y)/\(∀y∈(ZY cur (ps.take i) (yss,ln0)).2,Gk k y)/\(ZY cur (ps.take i) (yss,ln0)).2.length<=(ZY cur (ps.take i) (yss,ln0)).1.length/\HH ea=some (.tup (cur.map nV)))
      ⟨_,_,_,_,rfl,smP,RP,SP,gd,gl0,ll0,hcP⟩ (fun i τ HH h=>h.choose_spec.choose_spec.choose_spec.choose_spec.2.1) ?_ ?_
     ·rintro i y τ HH hy ⟨cs',es',w4,w5,rfl,sH,R',S',gd',gl',ll',hc'⟩
      obtain⟨b,rfl,hi,hb0'⟩:=R0.ref hy
      have hbH:=sH _ _ hb0'
      have gg:Gk k (ps.getD i []):=B.pl _ (Zb6 hi)
      have pi:ps[i]?=some (ps.getD i []):=getL hi
      generalize ps.getD i []=gp at *
      have hcl:(ZY cur (ps.take i) (yss,ln0)).1.length<=60:=Nat.le_trans (ZbH cur ps (yss,ln0) i) (by omega)
      have est:=ZbG cur (s:=(yss,ln0)) pi
      rw[est]
      generalize ZY cur (ps.take i) (yss,ln0)=zs at *
      refine⟨_,rfl,_,rfl,ea,b,k,cur,gp,rfl,hc',hbH,hcg,gg,by omega,fun tp HF ntp sF hF=>?_⟩
      have RF:=R'.mono sF
      have SF:=S'.mono sF
      have go:Gk k (WC cur gp):=ZgG hcg gg
      refine⟨_,rfl,_,rfl,D,_,(zs.1.map fun ns=>PyData.tuple ((nI ns).map PyData.int)),.tuple ((nI (WC cur gp)).map PyData.int),rfl,.inl (.of RF.1),UH _ _ RF.2.1 RF.2.2,.tup (.of (by rw[Zb4];exact hF)) (YX.ints _),U9 zs.1,Jw _,Xg _,_,rfl,?_⟩
      rw[if_pos rfl,Zam]
      have zl:=RF.2.1
      have wl:=SF.2.1
      refine JS (fun h2=>?_) (fun h2=>?_)
      ·have h2:zs.1.contains (WC cur gp)=false:=by simpa using h2
       rw[if_neg (by rw[h2];decide)]
       refine⟨_,rfl,.inl ⟨rfl,_,.of RF.1⟩,_,rfl,D,_,_,rfl,rfl,RF.1,by rw[Za];omega,?_⟩
       have R2':=RF.push hF
       have S2':=SF.updM (o:=.lst (cs'.map V.ref++[.ref tp])) RF.1 nDL.symm
       have s2':=(sH.trans sF).updr (o:=.lst (cs'.map V.ref++[.ref tp])) nD
       have hF2:upd HF D (.lst (cs'.map V.ref++[.ref tp])) tp=some (.tup ((WC cur gp).map nV)):=by
        rw[Zw (fun z=>by rw[z,RF.1] at hF;cases hF)]
        exact hF
       have hc2:upd HF D (.lst (cs'.map V.ref++[.ref tp])) ea=some (.tup (cur.map nV)):=by
        have:=sF _ _ hc'
        rw[Zw (fun z=>by rw[z,RF.1] at this;cases this)]
        exact this
       generalize upd HF D (.lst (cs'.map V.ref++[.ref tp]))=HG at R2' S2' s2' hF2 hc2 ⊢
       refine⟨_,rfl,.inl ⟨rfl,_,.of S2'.1⟩,_,rfl,Ln,_,_,rfl,rfl,S2'.1,by rw[Za];omega,?_⟩
       refine⟨cs'++[tp],es'++[tp],_,_,rfl,s2'.updr nL,R2'.updM S2'.1 nDL,S2'.push hF2,fun y hy=>?_,fun y hy=>?_,?_,?_⟩
       ·rcases List.mem_append.mp hy with z|z
        ·exact gd' y z
        ·rw[List.mem_singleton.mp z];exact go
       ·rcases List.mem_append.mp hy with z|z
        ·exact gl' y z
        ·rw[List.mem_singleton.mp z];exact go
       ·show (zs.2++[WC cur gp]).length<=(zs.1++[WC cur gp]).length
        rw[Zd,Zd];omega
       ·rw[Zw (fun z=>by rw[z,S2'.1] at hc2;cases hc2)]
        exact hc2
      ·have h2:zs.1.contains (WC cur gp)=true:=by simpa using h2
       rw[if_pos h2]
       exact⟨cs',es',_,_,rfl,sH.trans sF,RF,SF,gd',gl',ll',sF _ _ hc'⟩
     ·rintro τ HH ⟨cs',es',w4,w5,rfl,sH,R',S',gd',gl',ll',hc'⟩
      rw[pll,List.take_length] at R' S' gd' gl' ll'
      exact⟨m,by omega,cs',es',_,_,_,_,_,rfl,sH,R',S',gd',gl',ll',run⟩
end
end C23
namespace Pm
open PySem L2 PySem.Spec PyProof.Rows
open Tb
theorem Vr {W:Type}(adr:W->Addr)(Pr:Nat->W->Hp->Prop)(Nw:W->Hp->Prop){J:It}{own:List Str}{caps:List Nat}{te:TE}{σ:L2.St}{H:Hp}{Q:VK}{xs:List V}(S:Wq J H xs)(cs:L2.St)(hcs:XE own caps σ=none::cs)(hn:xs.length<=1000)
  (mono:∀i w H H',Same H H'->Pr i w H->Pr i w H') (anti:∀w H H',Same H H'->Nw w H'->Nw w H) (hu:∀i w H0 H1 D o ys ys',Pr i w H1->Nw w H0->H0 D=some (.lst o)->H1 D=some (.lst ys)->Pr i w (upd H1 D (.lst ys')))
  (hs:∀(i:Nat) y,xs[i]?=some y->∀H',Same H H'->∀R:VK,(∀w H5,Same H' H5->Pr i w H5->Nw w H'->R (.ref (adr w)) H5)->te (some y::cs) H' R)
  (hd:∀D (ws:List W) H',H D=none->Same H H'->H' D=some (.lst (ws.map fun w=>V.ref (adr w)))->ws.length=xs.length->(∀(i:Nat) w,ws[i]?=some w->Pr i w H'/\Nw w H)->(∀(i j:Nat) w w',i<j->ws[i]?=some w->ws[j]?=some w'->∃Hm,Pr i w Hm/\Nw w' Hm)->Q (.ref D) H'):J3 own caps (Yl 0) Jl te σ Q J H:=by
 refine Vt (xs:=xs) (fun D i ys H'=>Same H H'/\∃ws:List W,ys=ws.map (fun w=>V.ref (adr w))/\ws.length=i/\(∀(i:Nat) w,ws[i]?=some w->Pr i w H'/\Nw w H/\∃H0 o,H0 D=some (.lst o)/\Nw w H0)/\(∀(i j:Nat) w w',i<j->ws[i]?=some w->ws[j]?=some w'->∃Hm,Pr i w Hm/\Nw w' Hm)) cs hcs (by omega) ?_ ?_ ?_ ?_
 ·intro D i ys H' hD hD' p
  have S':=S.mono p.1
  exact⟨fun hi=>⟨S'.go i H' (Same.refl _) hi,fun x H3 y=>S'.yld i H' x H3 (Same.refl _) hi y⟩,fun e=>e▸S'.stop H' (Same.refl _)⟩
 ·intro D hD
  exact⟨Same.upd hD,[],rfl,rfl,(fun i w hw=>by cases hw),(fun i j w w' _ h=>by cases h)⟩
 ·rintro D i y ys H' hD hD' hy ⟨sm,ws,rfl,wl,hw,hp⟩ R k
  refine hs i y hy H' sm R fun w H5 s5 p5 n5=>?_
  have hD5:=s5 _ _ hD'
  have lst:∀(b:Nat) v,(ws++[w])[b]?=some v->(b<ws.length/\ws[b]?=some v)\/(b=ws.length/\v=w):=fun b v hb=>by
   by_cases hbl:b<ws.length
   ·rw[List.getElem?_append_left hbl] at hb
    exact .inl ⟨hbl,hb⟩
   ·rw[List.getElem?_append_right (by omega)] at hb
    have hb0:b-ws.length=0:=by
     apply Classical.byContradiction
     intro z
     rw[List.getElem?_eq_none (by rw[Zk];omega)] at hb
     cases hb
    rw[hb0] at hb
    cases hb
    exact .inr ⟨by omega,rfl⟩
  refine k _ H5 hD5 ⟨(sm.trans s5).updr hD,ws++[w],by rw[List.map_append];rfl,by rw[Zd,wl];rfl,fun b v hv=>?_,fun a b v v' hab ha hb=>?_⟩
  ·rcases lst b v hv with ⟨_,hv⟩|⟨hb,hv⟩
   ·obtain⟨h1,h2,H0,o,h3,h4⟩:=hw b v hv
    exact⟨hu b v H0 H5 D o _ _ (mono b v _ _ s5 h1) h4 h3 hD5,h2,H0,o,h3,h4⟩
   ·subst hv
    subst hb
    rw[<-wl] at p5
    exact⟨hu _ v H' H5 D _ _ _ p5 n5 hD' hD5,anti v _ _ sm n5,H',_,hD',n5⟩
  ·rcases lst b v' hb with ⟨hbl,hb⟩|⟨hbl,hb⟩
   ·rw[List.getElem?_append_left (by omega)] at ha
    exact hp a b v v' hab ha hb
   ·subst hb
    rw[List.getElem?_append_left (by omega)] at ha
    exact⟨H',(hw a v ha).1,n5⟩
 ·rintro D ys H5 hD hD' hyl ⟨sm,ws,rfl,wl,hw,hp⟩
  exact hd D ws H5 hD sm hD' wl (fun i w h=>⟨(hw i w h).1,(hw i w h).2.1⟩) hp
theorem Vs {J:It}{own:List Str}{caps:List Nat}{te:TE}{σ:L2.St}{H:Hp}{Q:VK}{xs:List V}(S:Wq J H xs)(cs:L2.St)(hcs:XE own caps σ=none::cs)(F:Nat->V)(hz:xs.length<=1000)
  (hs:∀(i:Nat) y,xs[i]?=some y->∀H',Same H H'->∀R:VK,(∀H5,Same H' H5->R (F i) H5)->te (some y::cs) H' R)
  (hd:∀D H',H D=none->Same H H'->H' D=some (.lst ((List.range xs.length).map F))->Q (.ref D) H'):J3 own caps (Yl 0) Jl te σ Q J H:=by
 refine Vt (xs:=xs) (fun D i ys H'=>Same H H'/\ys=(List.range i).map F) cs hcs (by omega) ?_ ?_ ?_ ?_
 ·intro D i ys H' hD hD' p
  have S':=S.mono p.1
  exact⟨fun hi=>⟨S'.go i H' (Same.refl _) hi,fun x H3 y=>S'.yld i H' x H3 (Same.refl _) hi y⟩,fun e=>e▸S'.stop H' (Same.refl _)⟩
 ·intro D hD
  exact⟨Same.upd hD,rfl⟩
 ·rintro D i y ys H' hD hD' hy ⟨sm,rfl⟩ R k
  refine hs i y hy H' sm R fun H5 s5=>k _ H5 (s5 _ _ hD') ⟨(sm.trans s5).updr hD,?_⟩
  rw[List.range_succ,List.map_append]
  rfl
 ·rintro D ys H5 hD hD' hyl ⟨sm,rfl⟩
  exact hd D H5 hD sm hD'
theorem Zh4 {X:Cx}(K:PySem.W.Frag)(hK:X.K=K:=by rfl):ZP X (.type "tuple") (fun xs H Q=>∃p ys,xs=[.ref p]/\Y0 K H p ys/\∀l H',H l=none->Same H H'->Tz H' l ys->Q (.ref l) H'):=hK▸Zbk
theorem Tz.updL {H:Hp}{a D:Addr}{ys zs:List V}{o:HO}(h:Tz H a ys)(hD:H D=some (.lst zs)):Tz (upd H D o) a ys:=by
 obtain⟨u,h1,h2⟩:=h
 exact⟨u,by rw[Zw (fun z=>by rw[z,hD] at h1;cases h1)];exact h1,h2⟩
def Jr (y:List Nat):List Z0:=y.map fun x:Nat=>Sum.inl (x:Int)
theorem ZfT (y:List Nat):(Jr y).map kV=y.map nV:=by
 unfold Jr
 rw[List.map_map]
 rfl
theorem Za6 {a b:List Nat}(h:Jr a=Jr b):a=b:=by
 unfold Jr at h
 refine (List.map_inj_right (fun x y e=>?_)).mp h
 injection e with e
 omega
def kvN (fd:List (List Nat))(os:List Nat)(m:Nat):List (List Z0×V):=(List.range m).map fun i=>(Jr (fd.getD (os.getD i 0) []),.int (i:Nat))
section
variable {fd:List (List Nat)}{os:List Nat}
theorem Zga (nd:fd.Nodup){a b:Nat}(ha:a<fd.length)(hb:b<fd.length)(h:fd.getD a []=fd.getD b []):a=b:=by
 have h1:=getL ha
 have h2:=getL hb
 rw[h,<-h2] at h1
 exact (List.getElem?_inj ha nd).mp h1
theorem ZfS (nd:fd.Nodup){n:Nat}(hn:fd.length=n)(O:Ord n os){i c:Nat}(hi:i<n)(hc:c<n):Jr (fd.getD (os.getD i 0) [])=Jr (fd.getD c [])↔i=pos os c:=by
 have ho:=Jh O hi
 obtain⟨p1,p2⟩:=UM O hc
 constructor
 ·intro h
  have:=Zga nd (by omega) (by omega) (Za6 h)
  exact inj O hi p1 (by rw[this,p2])
 ·rintro rfl
  rw[p2]
theorem ZhF (nd:fd.Nodup){n:Nat}(hn:fd.length=n)(O:Ord n os){m:Nat}(hm:m<n):Yf (kvN fd os m) (Jr (fd.getD (os.getD m 0) [])) (.int (m:Nat))=kvN fd os (m+1):=by
 have:(kvN fd os m).any (fun kv=>decide (kv.1=Jr (fd.getD (os.getD m 0) [])))=false:=by
  rw[Bool.eq_false_iff]
  intro h
  rw[List.any_eq_true] at h
  obtain⟨kv,hkv,e⟩:=h
  obtain⟨i,hi,rfl⟩:=List.mem_map.mp hkv
  have hi:=List.mem_range.mp hi
  have e:=of_decide_eq_true e
  have:=Zga nd (by have:=Jh O (show i<n by omega);omega) (by have:=Jh O hm;omega) (Za6 e)
  have:=inj O (by omega) hm this
  omega
 unfold Yf
 rw[this]
 unfold kvN
 rw[List.range_succ,List.map_append]
 rfl
theorem ZhE (nd:fd.Nodup){n:Nat}(hn:fd.length=n)(O:Ord n os){c:Nat}(hc:c<n):WF (kvN fd os n) (Jr (fd.getD c []))=some (.int (pos os c:Nat)):=by
 obtain⟨p1,p2⟩:=UM O hc
 unfold WF kvN
 rw[List.find?_map]
 have:(List.range n).find? ((fun kv:List Z0×V=>decide (kv.1=Jr (fd.getD c []))) ∘ fun i:Nat=>((Jr (fd.getD (os.getD i 0) []),V.int (i:Nat)):List Z0×V))=some (pos os c):=by
  rw[List.find?_range_eq_some]
  refine⟨decide_eq_true ((ZfS nd hn O p1 hc).mpr rfl),List.mem_range.mpr p1,fun j hj=>?_⟩
  rw[Bool.not_eq_true']
  refine decide_eq_false fun h=>?_
  have:=(ZfS nd hn O (by omega) hc).mp h
  omega
 rw[this]
 rfl
theorem ZjW (cl:∀a∈fd,∀b∈fd,WC a b∈fd){a b:Nat}(ha:a<fd.length)(hb:b<fd.length):ZA (Y1 fd) a b<fd.length/\fd.getD (ZA (Y1 fd) a b) []=WC (fd.getD a []) (fd.getD b []):=by
 have e:ZA (Y1 fd) a b=fd.findIdx (· == WC (fd.getD a []) (fd.getD b [])):=by
  unfold ZA Y1
  rw[Zb (l:=fd.map _),Zc,getL ha]
  show (fd.map fun b=>fd.findIdx (· == WC (fd.getD a []) b)).getD b 0=_
  rw[Zb,Zc,getL hb]
  rfl
 have hm:=cl _ (Zb6 ha) _ (Zb6 hb)
 have hl:fd.findIdx (· == WC (fd.getD a []) (fd.getD b []))<fd.length:=List.findIdx_lt_length.mpr ⟨_,hm,by exact beq_self_eq_true _⟩
 rw[e]
 refine⟨hl,?_⟩
 have:=List.findIdx_getElem (w:=hl)
 rw[Zb,Zf hl]
 exact eq_of_beq this
theorem ZeJ (fd:List (List Nat)):(Y1 fd).length=fd.length:=by unfold Y1;rw[Za]
end
theorem XL {α β:Type}(f:α->β):∀(xs:List α) (j:Nat),(xs.map f).eraseIdx j=(xs.eraseIdx j).map f
 | [],j=>rfl
 |x::xs,0=>rfl
 |x::xs,j+1=>by
  show f x::(xs.map f).eraseIdx j=f x::(xs.eraseIdx j).map f
  rw[XL f xs j]
theorem Zx.erase {H:Hp}{L:Addr}{bs:List Addr}{yss:List (List Nat)}(R:Zx H L bs yss)(j:Nat):Zx (upd H L (.lst ((bs.map V.ref).eraseIdx j))) L (bs.eraseIdx j) (yss.eraseIdx j):=by
 refine⟨by rw[Zt,XL],by rw[List.length_eraseIdx,List.length_eraseIdx,R.2.1],fun i b hb=>?_⟩
 rw[List.getElem?_eraseIdx] at hb
 rw[Zb,List.getElem?_eraseIdx]
 have key:∀i',bs[i']?=some b->upd H L (.lst ((bs.map V.ref).eraseIdx j)) b=some (.tup ((yss[i']?.getD []).map nV)):=fun i' h'=>by
  have h:=R.2.2 i' b h'
  rw[Zw (fun z=>by rw[z,R.1] at h;cases h),h,Zb]
 by_cases hi:i<j
 ·rw[if_pos hi] at hb ⊢
  exact key _ hb
 ·rw[if_neg hi] at hb ⊢
  exact key _ hb
theorem Zx.sub {H:Hp}{L A:Addr}{cs:List Addr}{fd:List (List Nat)}(R:Zx H L cs fd)(os:List Nat)(ho:∀i∈os,i<fd.length)(hA:H A=some (.lst ((os.map fun i=>cs.getD i 0).map V.ref))):Zx H A (os.map fun i=>cs.getD i 0) (os.map fun i=>fd.getD i []):=by
 refine⟨hA,by rw[Za,Za],fun i b hb=>?_⟩
 rw[Zc] at hb
 cases e:os[i]? with
 |none=>rw[e] at hb;cases hb
 |some j=>
  rw[e] at hb
  have hj:=ho j (List.mem_of_getElem? e)
  have hjc:j<cs.length:=by rw[R.2.1];exact hj
  have hb':cs[j]?=some b:=by
   rw[<-Option.some.inj hb]
   show cs[j]?=some (cs.getD j 0)
   rw[Zb,Zf hjc]
   rfl
  rw[R.2.2 j b hb',Zb (l:=os.map _),Zc,e]
  rfl
end Pm
namespace C23
open PySem L2 PySem.Spec PyProof.Rows
open Tb Pm
abbrev ZbO:Stmt:=top 42
def ZcF:Sp:=fun vs H Q _=>∃(p:Addr) (b:Nat) (gr:Bool),vs=[.ref p,.bl gr]/\Yc H p b/\b+100<2 ^ 60/\∀g t H',Tk p H H'->Yc H' p (b+70)->GT H' g t->PW t->Q (.ref g) H'
theorem Zgp {xs:List V}(h:1<=xs.length):Zad xs (some 1) none=xs.drop 1:=by
 unfold Zad
 have e1:HT.UD xs.length 0 (some 1)=1:=by
  have:=HT.ZcN xs.length 0 1
  rw[show ((1:Nat):Int)=1 from rfl] at this
  rw[this]
  omega
 rw[e1,HT.ZaG]
 rw[List.take_of_length_le (by rw[List.length_drop];omega)]
theorem ZjS {xs:List V}(h:1<=xs.length):Zad xs none (some 1)=xs.take 1:=by
 unfold Zad
 have e1:HT.UD xs.length xs.length (some 1)=1:=by
  have:=HT.ZcN xs.length xs.length 1
  rw[show ((1:Nat):Int)=1 from rfl] at this
  rw[this]
  omega
 rw[e1,HT.ZaG]
 rfl
theorem Zel {cs:List Addr}{n:Nat}(h:cs.length=n):(cs.map V.ref).drop 1=(((List.range (n-1)).map (· + 1)).map fun i=>cs.getD i 0).map V.ref:=by
 refine List.ext_getElem? fun i=>?_
 rw[List.getElem?_drop,Zc,Zc,Zc,Zc]
 by_cases hi:i<n-1
 ·rw[List.getElem?_range hi,Zf (show 1+i<cs.length by omega)]
  show some (V.ref cs[1+i])=some (V.ref (cs.getD (i+1) 0))
  rw[Zb,Zf (show i+1<cs.length by omega)]
  congr 3
  omega
 ·rw[List.getElem?_eq_none (by omega),List.getElem?_eq_none (by rw[Zg];omega)]
  rfl
theorem ZdD {cs:List Addr}(h:1<=cs.length):(cs.map V.ref).take 1=(([0]:List Nat).map fun i=>cs.getD i 0).map V.ref:=by
 cases cs with
 |nil=>cases h
 |cons c r=>rfl
theorem Tk.updN {p l:Addr}{H H1:Hp}{o:HO}(a:Tk p H H1)(h:H l=none):Tk p H (upd H1 l o):=fun c u e n=>by
 rw[Zw (ZD e h)]
 exact a c u e n
theorem Tk.same {p:Addr}{H H1 H2:Hp}(a:Tk p H H1)(s:Same H1 H2):Tk p H H2:=a.trans (Tk.of s)
theorem Yc.updN {p l:Addr}{H:Hp}{b:Nat}{o:HO}(h:Yc H p b)(hl:l≠p):Yc (upd H l o) p b:=by
 obtain⟨c,l',n,h1,h2⟩:=h
 exact⟨c,l',n,by rw[Zw hl.symm];exact h1,h2⟩
theorem Zjs (os:List Nat)(g:Nat->Nat):(List.range os.length).map (fun j=>g (os.getD j 0))=os.map g:=by
 refine List.ext_getElem? fun i=>?_
 rw[Zc,Zc]
 by_cases hi:i<os.length
 ·rw[List.getElem?_range hi,Zf hi]
  show some (g (os.getD i 0))=some (g os[i])
  rw[Zb,Zf hi]
  rfl
 ·rw[List.getElem?_eq_none (by rw[Zg];omega),List.getElem?_eq_none (by omega)]
  rfl
theorem UZ {os:List Nat}{fd:List (List Nat)}{i:Nat}(hi:i<os.length):(os.map fun i=>fd.getD i []).getD i []=fd.getD (os.getD i 0) []:=by
 rw[Zb,Zc,Zf hi,Zb (l:=os),Zf hi]
 rfl
section
variable {P:Program}{w:World}{K:PySem.W.Frag}{mg:Str->Option Value}{base:Heap}
theorem ZfB {f:Addr}{fd:FuncData}(F:Wf K "_law_group" "_law_group" ZbO f fd)(T:BlB mg)(GT':Fn P w K mg base Z2 2 "_law_things" ["_law_perms_here"] Zax)(GP:Fn P w K mg base Z2 2 "_law_perms" ["_law_tape_here", "_law_great"] ZcC)(GK:Fn P w K mg base Z2 1 "_law_pick" ["_law_tape_here", "_law_many"] Us)(GA:Fn P w K mg base Z2 1 "_law_after" ["_law_one", "_law_other"] Uw) :
  ZQ P w K mg base Z2 3 f fd ["_law_tape_here", "_law_great"] ZcF:=by
 refine F.ok (FS (N:=["_law_tape_here", "_law_great", "_law_things_here", "_law_left", "_law_order", "_law_numbers", "_law_k"])) (fun vs H Q E h=>?_) (fun cdv A outer s H vs Q E hr h=>?_)
 ·obtain⟨p,b,gr,rfl,_⟩:=h;rfl
 ·obtain⟨p,b,gr,rfl,T0,hb,q⟩:=h
  have hu:(A.deeper (envOfC "_law_group" (ZH ZbO) s.heap.objs.size f cdv)).units+1<cLine:=by have:=hr.un;omega
  refine⟨_,Zu (ZR 2 rfl (We GT' hr ZK (pc (We GP hr ZK (pc (vn 0) (pc (vn 1) Zs))) Zs)))
   (Zu (ZR 3 rfl (Vc Uz (vn 2) (UO Zz) UP))
   (Zu (ZR 4 rfl (Vc Uz (vn 2) UP (UO Zz)))
   (Zu (JL PassesOwn.never (ZF (neC K hr.units) (vn 3) (Ya Zs) (ZM _))
    (Zv (Y9 (JO PySem.F.plainAttrs_list PySem.F.slot_list_append PySem.F.type_list_append Yk (vn 4)
     (pc (JO PySem.F.plainAttrs_list PySem.F.slot_list_pop PySem.F.type_list_pop ZfH (vn 3) (pc (We GK hr ZK (pc (vn 0) (pc (cb (YA K) T.len (pc (vn 3) Zs)) Zs))) Zs)) Zs)))))
   (Zu (ZR 5 rfl Zfi)
   (Zu (Z5 PassesOwn.never rfl (JJ T.range (pc (cb (YA K) T.len (pc (vn 4) Zs)) Zs)) (gn 6)
    (Zv (JM hu (vn 5) (ZE (ixL K) (vn 4) (vn 6) (fun _ _=>rfl)) (vn 6) (by rfl))))
   (Zv (ZC (ct ZI T.tuple (pc (cmp ["_law_one"] [5,4] ["_law_one", "_law_numbers", "_law_order"] rfl (itL K (vn 4)) (fun _ _ _ _ _=>gnf 0 rfl) (fun _ _ _ _ _=>ZW)
    (fun _ _ _ _ _=>ct (Zh4 K) (by exact T.tuple) (pc (cmp ["_law_other"] [1,0] ["_law_other", "_law_numbers", "_law_one"] rfl (itL K (vn 2)) (fun _ _ _ _ _=>gn 0) (fun _ _ _ _ _=>ZW)
     (fun _ _ _ _ _=>W9 hu (vn 1) (We GA hr ZK (pc (vn 2) (pc (vn 0) Zs))) (fun _ _=>rfl))) Zs))) Zs))))))))),?_⟩
  have sz:(16777216:Nat)=sizeLine:=by decide
  refine⟨_,rfl,_,rfl,p,b,gr,rfl,T0,by omega,fun L bs ps H1 k1 T1 hps R1=>?_⟩
  obtain⟨fd0,B⟩:=ZkM hps
  generalize (ps.getD 0 []).length=k at B
  have n60:=B.n60
  have k10:=B.k10
  have n1:1<=fd0.length:=(List.getElem?_eq_some_iff.mp B.hd).1
  refine⟨L,bs,ps,k,fd0,rfl,R1,B,fun D cs H2 nD s2 R2=>?_⟩
  have csl:cs.length=fd0.length:=R2.2.1
  have cml:(cs.map V.ref).length=fd0.length:=by rw[Za,csl]
  refine⟨_,rfl,_,rfl,D,_,rfl,.of R2.1,fun Lf nLf=>?_⟩
  rw[Zgp (by omega),Zel csl]
  have s3:=Same.upd (H:=H2) (o:=.lst ((((List.range (fd0.length-1)).map (· + 1)).map fun i=>cs.getD i 0).map V.ref)) nLf
  have hLf:upd H2 Lf (.lst ((((List.range (fd0.length-1)).map (· + 1)).map fun i=>cs.getD i 0).map V.ref)) Lf=some (.lst ((((List.range (fd0.length-1)).map (· + 1)).map fun i=>cs.getD i 0).map V.ref)):=Zt
  generalize upd H2 Lf (.lst ((((List.range (fd0.length-1)).map (· + 1)).map fun i=>cs.getD i 0).map V.ref))=H3 at s3 hLf ⊢
  refine⟨_,rfl,_,rfl,D,_,rfl,.of (s3 _ _ R2.1),fun Od nOd=>?_⟩
  rw[ZjS (by omega),ZdD (by omega)]
  have s4:=Same.upd (H:=H3) (o:=.lst ((([0]:List Nat).map fun i=>cs.getD i 0).map V.ref)) nOd
  have hOd:upd H3 Od (.lst ((([0]:List Nat).map fun i=>cs.getD i 0).map V.ref)) Od=some (.lst ((([0]:List Nat).map fun i=>cs.getD i 0).map V.ref)):=Zt
  generalize upd H3 Od (.lst ((([0]:List Nat).map fun i=>cs.getD i 0).map V.ref))=H4 at s4 hOd ⊢
  have s24:=s3.trans s4
  have R4:=R2.mono s24
  have nOd2:H2 Od=none:=s3.free nOd
  have nLO:Lf≠Od:=fun z=>by rw[z,nOd] at hLf;cases hLf
  have T2:=T1.mono s2
  have T4:=T2.mono s24
  have nLp:Lf≠p:=T2.neN nLf
  have nOp:Od≠p:=T2.neN nOd2
  have RL4:=R4.sub ((List.range (fd0.length-1)).map (· + 1)) (fun i hi=>by
   obtain⟨j,hj,rfl⟩:=List.mem_map.mp hi
   have:=List.mem_range.mp hj
   omega) (s4 _ _ hLf)
  have RO4:=R4.sub [0] (fun i hi=>by rw[List.mem_singleton.mp hi];omega) hOd
  have p0:([0]++(List.range (fd0.length-1)).map (· + 1)).Perm (List.range fd0.length):=by
   have:List.range fd0.length=[0]++(List.range (fd0.length-1)).map (· + 1):=by
    obtain⟨k,hk⟩:∃k,fd0.length=k+1:=⟨fd0.length-1,by omega⟩
    rw[hk,List.range_succ_eq_map]
    rfl
   rw[this]
  refine Jy (fun m σ' H'=>∃(ls os:List Nat),σ'=[some (.ref p),some (.bl gr),some (.ref D),some (.ref Lf),some (.ref Od),none,none]/\Tk p H2 H'/\Yc H' p (b+2+os.length)/\Zx H' Lf (ls.map fun i=>cs.getD i 0) (ls.map fun i=>fd0.getD i [])/\Zx H' Od (os.map fun i=>cs.getD i 0) (os.map fun i=>fd0.getD i [])/\(os++ls).Perm (List.range fd0.length)/\os[0]?=some 0/\m=ls.length)
   (fun σ' H'=>∃(os:List Nat),σ'=[some (.ref p),some (.bl gr),some (.ref D),some (.ref Lf),some (.ref Od),none,none]/\Tk p H2 H'/\Yc H' p (b+2+os.length)/\Zx H' Od (os.map fun i=>cs.getD i 0) (os.map fun i=>fd0.getD i [])/\os.Perm (List.range fd0.length)/\os[0]?=some 0) ?hend ⟨_,_,_,rfl,Tk.of s24,T4.le (by omega),RL4,RO4,p0,rfl,rfl⟩ ?turn
  case turn=>
   rintro hend m σ' H' ⟨ls,os,rfl,kk,Tp,RL,RO,pm,h0,hm⟩
   have pl:=pm.length_eq
   rw[Zd,Zg] at pl
   refine⟨_,rfl,(by show 0<=sizeLine;decide),fun e0 ne0=>?_⟩
   have sE:=Same.upd (H:=H') (o:=.lst []) ne0
   have RLE:=RL.mono sE
   have ROE:=RO.mono sE
   have kE:=kk.same sE
   have TE:=Tp.mono sE
   refine⟨_,_,RLE.rd,.lst (.of Zt) .nil,ZaB _,rfl,_,rfl,?_⟩
   generalize upd H' e0 (.lst [])=HE at RLE ROE kE TE ⊢
   rw[U8]
   refine JS (fun hne=>?_) (fun he=>?_)
   ·have hpos:0<ls.length:=by
     cases ls with
     |nil=>cases hne
     |cons x r=>rw[Zi];omega
    refine⟨_,fun _ _ z=>z,_,rfl,.inl ⟨rfl,_,.of ROE.1⟩,_,rfl,.inl ⟨rfl,_,.of RLE.1⟩,_,rfl,_,rfl,Lf,_,rfl,.inl (.of RLE.1),p,_,b+2+os.length,rfl,TE,by omega,?_,?_,fun r5 H5 c0 c1 k5 T5=>?_⟩
    ·rw[Za,Za];omega
    ·rw[Za,Za];omega
    rw[Za,Za] at c1
    obtain⟨j,rfl⟩:=Int.eq_ofNat_of_zero_le c0
    have hj:j<ls.length:=by omega
    have RL5:=Zx.tk TE k5 RLE
    have RO5:=Zx.tk TE k5 ROE
    have hat:((ls.map fun i=>cs.getD i 0).map V.ref)[j]?=some (.ref (cs.getD ls[j] 0)):=by rw[Zc,Zc,Zf hj];rfl
    obtain⟨sx,_⟩:=U5 (Za8 (n:=((ls.map fun i=>cs.getD i 0).map V.ref).length) (i:=j) (by rw[Za,Za];exact hj))
    have hb5:=RL5.2.2 j (cs.getD ls[j] 0) (by rw[Zc,Zf hj];rfl)
    have ef:(ls.map fun i=>fd0.getD i []).getD j []=fd0.getD ls[j] []:=by
     rw[Zb,Zc,Zf hj]
     rfl
    rw[ef] at hb5
    have RL6:=RL5.erase j
    have RO6:=RO5.updM (o:=.lst (((ls.map fun i=>cs.getD i 0).map V.ref).eraseIdx j)) RL5.1 nLO.symm
    have T6:=T5.updN (o:=.lst (((ls.map fun i=>cs.getD i 0).map V.ref).eraseIdx j)) nLp
    have k6:=(kE.trans k5).updN (o:=.lst (((ls.map fun i=>cs.getD i 0).map V.ref).eraseIdx j)) nLf
    have hb6:upd H5 Lf (.lst (((ls.map fun i=>cs.getD i 0).map V.ref).eraseIdx j)) (cs.getD ls[j] 0)=some (.tup ((fd0.getD ls[j] []).map nV)):=by
     rw[Zw (fun z=>by rw[z,RL5.1] at hb5;cases hb5)]
     exact hb5
    refine⟨Lf,_,j,j,_,rfl,rfl,RL5.1,by omega,by omega,sx,hat,?_⟩
    generalize upd H5 Lf (.lst (((ls.map fun i=>cs.getD i 0).map V.ref).eraseIdx j))=H6 at RL6 RO6 T6 k6 hb6 ⊢
    refine⟨Od,_,_,rfl,rfl,RO6.1,by rw[Za,Za];omega,?_⟩
    rw[XL,XL] at RL6
    refine⟨(ls.eraseIdx j).length,by rw[List.length_eraseIdx,if_pos hj];omega,ls.eraseIdx j,os++[ls[j]],rfl,k6.updN nOd2,?_,RL6.updM RO6.1 nLO,?_,?_,?_,rfl⟩
    ·rw[Zd]
     exact T6.updN nOp
    ·rw[List.map_append,List.map_append]
     exact RO6.push hb6
    ·rw[List.append_assoc]
     exact (List.Perm.append_left os (Zbe ls j hj)).trans pm
    ·rw[List.getElem?_append_left]
     ·exact h0
     ·exact (List.getElem?_eq_some_iff.mp h0).1
   ·have:ls=[]:=by
     cases ls with
     |nil=>rfl
     |cons x r=>exact absurd rfl he
    subst this
    rw[List.append_nil] at pm
    exact hend _ _ ⟨os,rfl,kE,TE,ROE,pm,h0⟩
  case hend=>
   rintro σ' H5 ⟨os,rfl,kk,Tp,RO,pm,h0⟩
   have O:=Zjb n1 pm h0
   have osl:=O.len
   have nd:=B.nd
   refine fun Nd nNd=>?_
   have s6:=Same.upd (H:=H5) (o:=.dT []) nNd
   have hN6:upd H5 Nd (.dT []) Nd=some (.dT []):=Zt
   generalize upd H5 Nd (.dT [])=H6 at s6 hN6 ⊢
   have ol:((os.map fun i=>cs.getD i 0).map V.ref).length=fd0.length:=by rw[Za,Za,osl]
   refine⟨_,rfl,Od,_,rfl,.inl (.of (s6 _ _ RO.1)),_,rfl,by rw[ol];omega,by rw[ol];omega,?_⟩
   rw[ol,Zj]
   refine Yb (fun m σ' H'=>∃v6:Option V,σ'=[some (.ref p),some (.bl gr),some (.ref D),some (.ref Lf),some (.ref Od),some (.ref Nd),v6]/\Same H5 H'/\H' Nd=some (.dT (kvN fd0 os m))) ⟨_,rfl,s6,hN6⟩ ?_ ?_
   ·rintro m σ' H7 hm ⟨v6,rfl,s7,hN7⟩
    rw[show (0:Int)+(m:Int)=(m:Int) by omega]
    have RO7:=RO.mono s7
    obtain⟨c,_,hat,hc⟩:=RO7.get (i:=m) (by rw[Za,osl];exact hm)
    rw[UZ (by omega)] at hc
    refine⟨_,rfl,_,rfl,_,rfl,_,rfl,Od,_,_,_,rfl,rfl,.of RO7.1,hat,Nd,_,rfl,Xo.t (k:=Jr (fd0.getD (os.getD m 0) [])) hN7 (by rw[ZfT];exact hc) (by unfold kvN;rw[Za,Zg];omega),?_⟩
    rw[ZhF nd rfl O hm]
    exact⟨_,rfl,s7.updr nNd,Zt⟩
   ·rintro σ' H7 ⟨v6,rfl,s7,hN7⟩
    have RO7:=RO.mono s7
    refine⟨_,rfl,Od,rfl,⟨_,.of RO7.1⟩,?_⟩
    have Ot:Ord (Y1 fd0).length os:=by rw[ZeJ];exact O
    have Pt:PW (UG (Y1 fd0) os):=ZiV B.pw Ot
    have rl:(UG (Y1 fd0) os).length=fd0.length:=by rw[UF,osl]
    have rat:∀i,i<fd0.length->(UG (Y1 fd0) os).getD i []=os.map fun b=>pos os (ZA (Y1 fd0) (os.getD i 0) b):=fun i hi=>by
     unfold UG
     rw[Zb,Zc,YC (show i<os.length by omega)]
     rfl
    refine Vr (W:=Addr) id (fun i w H=>Tz H w (((UG (Y1 fd0) os).getD i []).map nV)) (fun _ _=>True) (Y8 (K:=K) (.of RO7.1)) [some (.ref Nd),some (.ref Od)] rfl (by rw[ol];omega) (fun i w H H' s h=>h.mono s) (fun w H H' s h=>trivial) (fun i w H0 H1 D o ys ys' h h0 h1 h2=>Tz.updL h h2) (fun i y hy H8 s8 R k8=>?_) (fun D8 ws H8 nD8 s8 hD8 wl hw hp=>?_)
    ·obtain⟨c,rfl,hi,hc⟩:=RO7.ref hy
     rw[Za,osl] at hi
     rw[UZ (by omega)] at hc
     have RO8:=RO7.mono s8
     have hoi:=Jh O hi
     refine⟨_,rfl,Od,rfl,⟨_,.of RO8.1⟩,?_⟩
     refine Vs (Y8 (K:=K) (.of RO8.1)) [some (.ref Nd),some (.ref c)] rfl (fun j=>nV (pos os (ZA (Y1 fd0) (os.getD i 0) (os.getD j 0)))) (by rw[ol];omega) (fun j y' hy' H9 s9 R' k9=>?_) (fun D9 H9 nD9 s9 hD9=>?_)
     ·obtain⟨d,rfl,hj,hd⟩:=RO8.ref hy'
      rw[Za,osl] at hj
      rw[UZ (by omega)] at hd
      have hoj:=Jh O hj
      obtain⟨ml,me⟩:=ZjW B.cl hoi hoj
      refine⟨_,rfl,_,rfl,_,rfl,c,d,k,_,_,rfl,(s8.trans s9) _ _ hc,s9 _ _ hd,B.fg _ (Zb6 hoi),B.fg _ (Zb6 hoj),by omega,fun r HA nr sA hr'=>?_⟩
      have dg:=WH.t (H:=HA) (k:=Jr (WC (fd0.getD (os.getD i 0) []) (fd0.getD (os.getD j 0) []))) (((s8.trans s9).trans sA) _ _ hN7) (by rw[ZfT];exact hr')
      rw[<-me,ZhE nd rfl O ml] at dg
      exact⟨Nd,_,rfl,dg,k9 HA sA⟩
     ·rw[ol] at hD9
      have e:(List.range fd0.length).map (fun j=>nV (pos os (ZA (Y1 fd0) (os.getD i 0) (os.getD j 0))))=((UG (Y1 fd0) os).getD i []).map nV:=by
       rw[rat i hi,<-Zjs os,List.map_map,osl]
       rfl
      rw[e] at hD9
      exact⟨D9,_,rfl,.of hD9,fun z Hz nz sz' hz=>k8 z Hz (s9.trans sz') hz trivial⟩
    ·refine⟨D8,_,rfl,.inl ⟨.of hD8,fun g ng=>?_⟩⟩
     have s9:=Same.upd (H:=H8) (o:=.tup (ws.map fun w=>V.ref (id w))) ng
     have sX:=(s7.trans s8).trans s9
     refine q g (UG (Y1 fd0) os) _ (((k1.same s2).trans kk).same sX) ((Tp.mono sX).le (by omega)) ⟨ws,Zt,by rw[wl,ol,rl],fun i r hr=>((hw i r hr).1).mono s9⟩ Pt
end
structure Bl (mg:Str->Option Value):Prop where
 list:mg "list"=none
 len:mg "len"=none
 abs:mg "abs"=none
 range:mg "range"=none
 tuple:mg "tuple"=none
 isi:mg "isinstance"=none
 all:mg "all"=none
 set:mg "set"=none
 repr:mg "repr"=none
 any:mg "any"=none
 int:mg "int"=none
 bool:mg "bool"=none
abbrev Zif:Stmt:=top 25
def Uv (K:PySem.W.Frag):Sp:=fun vs H Q _=>∃(g:Addr) (t:List (List Nat)) (a r:Nat),vs=[.ref g,.int a]/\GT H g t/\PW t/\a<t.length/\Rd t a r/\Q (.int (it t a (r-1):Nat)) H
section
variable {P:Program}{w:World}{K:PySem.W.Frag}{mg:Str->Option Value}{base:Heap}
theorem Zhq {f:Addr}{fd:FuncData}(F:Wf K "back" "back" Zif f fd):ZQ P w K mg base Z2 1 f fd ["group", "a"] (Uv K):=by
 refine F.ok (FS (N:=["group", "a"])) (fun vs H Q E h=>?_) (fun cdv A outer s H vs Q E hr h=>?_)
 ·obtain⟨g,t,a,r,rfl,_⟩:=h;rfl
 ·obtain⟨g,t,a,r,rfl,G,Pt,ha,R,q⟩:=h
  refine⟨_,Zv (ZC (Zfn PySem.F.plainAttrs_tuple PySem.F.slot_tuple_index PySem.F.type_tuple_index (Zkj K) (ZE (Wn K) (vn 0) (vn 1) (fun _ _=>rfl)) (pc Zz Zs))),?_⟩
  obtain⟨rs,r1,h1,_,h2,h3,h4⟩:=G.at Pt ha
  have hl:=Yh Pt ha
  have il:=Ua Pt ha (r-1)
  refine⟨_,rfl,_,rfl,g,_,_,_,rfl,rfl,.of h1,h2,⟨_,_,rfl,h3⟩,r1,_,.int 0,it t a (r-1),rfl,rfl,h3.sq,rfl,?_,by rw[Za,hl];exact il,fun z hz=>?_,fun m z hm hz=>?_,q⟩
  ·rw[List.all_eq_true]
   intro z hz
   obtain⟨k,_,rfl⟩:=List.mem_map.mp hz
   rfl
  ·rw[X7 Pt ha il,R.bk] at hz
   cases hz
   decide
  ·have hm':m<t.length:=by omega
   rw[X7 Pt ha hm'] at hz
   cases hz
   have:ZA t a m≠0:=fun z=>by
    have:=R.un m hm' z
    omega
   show decide ((ZA t a m:Int)=0)=false
   exact decide_eq_false (by omega)
end
end C23
namespace Tb
section
variable {t:List (List Nat)}
def XA (t:List (List Nat))(a:Nat):Nat:=((List.range t.length).find? fun b=>ZA t a b == 0).getD 0
theorem YN (P:PW t){a:Nat}(ha:a<t.length):XA t a<t.length/\ZA t a (XA t a)=0:=by
 obtain⟨r,R⟩:=P.rd a ha
 unfold XA
 cases h:(List.range t.length).find? fun b=>ZA t a b == 0 with
 |none=>
  exfalso
  rw[List.find?_eq_none] at h
  exact h _ (List.mem_range.mpr (Ua P ha (r-1))) (by rw[R.bk];rfl)
 |some b=>
  have h1:=List.mem_range.mp (List.mem_of_find?_eq_some h)
  have h2:=List.find?_some h
  exact⟨h1,by simpa using h2⟩
theorem Zaj (P:PW t){a r:Nat}(ha:a<t.length)(R:Rd t a r):it t a (r-1)=XA t a:=((R.un _ (YN P ha).1 (YN P ha).2)).symm
theorem ZgF (P:PW t){a b:Nat}(ha:a<t.length)(hb:b<t.length)(h:ZA t a b=0):b=XA t a:=by
 obtain⟨r,R⟩:=P.rd a ha
 rw[<-Zaj P ha R]
 exact R.un b hb h
theorem Zdu (P:PW t){a:Nat}(ha:a<t.length):ZA t (XA t a) a=0:=by
 obtain⟨h1,h2⟩:=YN P ha
 obtain⟨h3,h4⟩:=YN P h1
 have e:a=XA t (XA t a):=by
  have:=P.ass a (XA t a) (XA t (XA t a)) ha h1 h3
  rw[h2,h4,P.one _ h3,P.oneR a ha] at this
  exact this.symm
 conv=>lhs;rw[e]
 rw[<-e]
 conv=>lhs;rw[e]
 rw[<-e]
 rw[show ZA t (XA t a) a=ZA t (XA t a) (XA t (XA t a)) by rw[<-e]]
 exact h4
def tb (t:List (List Nat))(b x:Nat):Nat:=ZA t (ZA t x b) (XA t x)
theorem ZeI (P:PW t){b x:Nat}(hb:b<t.length)(hx:x<t.length):tb t b x<t.length:=P.lt _ _ (P.lt _ _ hx hb) (YN P hx).1
theorem ZgP (P:PW t){b:Nat}(hb:b<t.length):tb t b 0=b:=by
 have n1:=P.n1
 have e:XA t 0=0:=(ZgF P (by omega) (by omega) (P.one 0 (by omega))).symm
 unfold tb
 rw[e,P.one b hb,P.oneR b hb]
def Zbj (t:List (List Nat))(b:Nat):List Nat:=(List.range t.length).filter fun a=>(List.range t.length).any fun x=>tb t b x == a
theorem JX (P:PW t){b a:Nat}(hb:b<t.length):a∈Zbj t b↔∃x,x<t.length/\tb t b x=a:=by
 unfold Zbj
 rw[List.mem_filter,List.any_eq_true]
 constructor
 ·rintro⟨_,x,hx,e⟩
  exact⟨x,List.mem_range.mp hx,by simpa using e⟩
 ·rintro⟨x,hx,e⟩
  exact⟨List.mem_range.mpr (e▸ZeI P hb hx),x,List.mem_range.mpr hx,by simpa using e⟩
theorem Zgv (b:Nat):(Zbj t b).Pairwise (· < ·):=List.Pairwise.sublist List.filter_sublist List.pairwise_lt_range
theorem Zdr (b:Nat):(Zbj t b).length<=t.length:=by
 have:=List.length_filter_le (fun a=>(List.range t.length).any fun x=>tb t b x == a) (List.range t.length)
 rw[Zg] at this
 exact this
end
end Tb
namespace C23
open PySem L2 PySem.Spec PyProof.Rows
open Tb Pm
abbrev ZcJ:Stmt:=top 27
abbrev VW:Stmt:=top 28
abbrev Zkw:Stmt:=top 50
structure Zao (mg:Str->Option Value):Prop where
 sorted:mg "sorted"=none
 enumerate:mg "enumerate"=none
theorem XH {ns M:List Int}{c:List Nat}(hp:List.Perm ns M)(hs:ns.Pairwise (· ≤ ·))(hn:M.Nodup)(hm:∀k:Int,k∈M↔∃a∈c,k=(a:Int))(hc:c.Pairwise (· < ·)):ns.map V.int=c.map nV:=by
 have e:ns=c.map fun a:Nat=>(a:Int):=by
  refine PySem.W.lks_uniq (hp.trans ?_) hs ?_
  ·refine (List.perm_ext_iff_of_nodup hn ?_).mpr fun k=>?_
   ·refine List.Pairwise.map _ (fun a b (h:a<b)=>?_) hc
    omega
   ·rw[hm k,List.mem_map]
    exact⟨fun ⟨a,ha,e⟩=>⟨a,ha,e.symm⟩,fun ⟨a,ha,e⟩=>⟨a,ha,e.symm⟩⟩
  ·refine List.Pairwise.map _ (fun a b (h:a<b)=>?_) hc
   omega
 rw[e,List.map_map]
 rfl
def JC:Sp:=fun vs H Q _=>∃(g:Addr) (t:List (List Nat)) (b x:Nat),vs=[.ref g,.int b,.int x]/\GT H g t/\PW t/\b<t.length/\x<t.length/\Q (.int (tb t b x:Nat)) H
def XV:Sp:=fun vs H Q _=>∃(g:Addr) (t:List (List Nat)) (b:Nat),vs=[.ref g,.int b]/\GT H g t/\PW t/\b<t.length/\∀r H',Same H H'->H' r=some (.tup ((Zbj t b).map nV))->Q (.ref r) H'
section
variable {P:Program}{w:World}{K:PySem.W.Frag}{mg:Str->Option Value}{base:Heap}
theorem ZdT {f:Addr}{fd:FuncData}(F:Wf K "turned_by" "turned_by" ZcJ f fd)(GB:Fn P w K mg base Z2 1 "back" ["group", "a"] (Uv K)):ZQ P w K mg base Z2 2 f fd ["group", "b", "t"] JC:=by
 refine F.ok (FS (N:=["group", "b", "t"])) (fun vs H Q E h=>?_) (fun cdv A outer s H vs Q E hr h=>?_)
 ·obtain⟨g,t,b,x,rfl,_⟩:=h;rfl
 ·obtain⟨g,t,b,x,rfl,G,Pt,hb,hx,q⟩:=h
  refine⟨_,Zv (ZC (ZE (Wn K) (ZE (Wn K) (vn 0) (ZE (Wn K) (ZE (Wn K) (vn 0) (vn 2) (fun _ _=>rfl)) (vn 1) (fun _ _=>rfl)) (fun _ _=>rfl)) (We GB hr ZK (pc (vn 0) (pc (vn 2) Zs))) (fun _ _=>rfl))),?_⟩
  obtain⟨r,R⟩:=Pt.rd x hx
  obtain⟨rs,r1,h1,_,h2,h3,h4⟩:=G.at Pt hx
  have ml:=Pt.lt _ _ hx hb
  obtain⟨rs',r2,g1,_,g2,g3,g4⟩:=G.at Pt ml
  have q':Q (.int (ZA t (ZA t x b) (it t x (r-1)):Nat)) H:=by rw[Zaj Pt hx R];exact q
  exact⟨_,rfl,_,rfl,_,rfl,g,_,_,_,rfl,rfl,.of h1,h2,_,rfl,r1,_,_,_,rfl,rfl,h3.sq,h4 b hb,g,_,_,_,rfl,rfl,.of g1,g2,_,rfl,_,rfl,g,t,x,r,rfl,G,Pt,hx,R,r2,_,_,_,rfl,rfl,g3.sq,g4 _ (Ua Pt hx (r-1)),q'⟩
def fTb (t:List (List Nat))(b:Nat):V->V
 | .int z=>nV (tb t b z.toNat)
 |y=>y
theorem ZaP {f:Addr}{fd:FuncData}(F:Wf K "turnings" "turnings" VW f fd)(T:Bl mg)(T2:Zao mg)(GT':Fn P w K mg base Z2 2 "turned_by" ["group", "b", "t"] JC):ZQ P w K mg base Z2 3 f fd ["group", "b"] XV:=by
 refine F.ok (FS (N:=["group", "b"])) (fun vs H Q E h=>?_) (fun cdv A outer s H vs Q E hr h=>?_)
 ·obtain⟨g,t,b,rfl,_⟩:=h;rfl
 ·obtain⟨g,t,b,rfl,G,Pt,hb,q⟩:=h
  refine⟨_,Zv (ZC (ct ZI T.tuple (pc (cb (Jx rfl) T2.sorted (pc (ct (Zes rfl) T.set (pc (cmp ["t"] [0,1] ["t", "group", "b"] rfl (JJ T.range (pc (cb (YA K) T.len (pc (vn 0) Zs)) Zs)) (fun _ _ _ _ _=>gn 0) (fun _ _ _ _ _=>ZW)
   (fun _ _ _ _ _=>We GT' hr ZK (pc (vn 1) (pc (vn 2) (pc (vn 0) Zs))))) Zs)) Zs)) Zs))),?_⟩
  have n60:=Pt.n60
  obtain⟨gs,u1,u2,_⟩:=id G
  have el:(gs.map V.ref).length=t.length:=by rw[Za,u2]
  refine⟨_,rfl,g,_,rfl,.inr (.of u1),_,rfl,by rw[el];omega,by rw[el];omega,?_⟩
  rw[el,Zj]
  refine Yr (JG 0 t.length) [some (.ref g),some (.int b)] rfl (fTb t b) (by rw[Za,YF];omega) (fun i x H' hx sm R gg=>?_) (fun D H' hD sm hD'=>?_)
  ·have hi:i<t.length:=by
    have:=(List.getElem?_eq_some_iff.mp hx).1
    rw[Za,YF] at this
    exact this
   rw[Zc,ZaH hi] at hx
   have hx:x=.int (i:Int):=by
    have:=Option.some.inj hx
    rw[<-this,Int.zero_add]
   subst hx
   have fin:=gg H' (Same.refl _)
   exact⟨_,rfl,_,rfl,_,rfl,g,t,b,i,rfl,G.mono sm,Pt,hb,hi,fin⟩
  ·have e1:((YG 0 t.length).map V.int).map (fTb t b)=((List.range t.length).map fun x=>((tb t b x:Nat):Int)).map V.int:=by
    unfold YG
    rw[List.map_map,List.map_map,List.map_map]
    refine List.map_congr_left fun i _=>?_
    show nV (tb t b ((0:Int)+(i:Int)).toNat)=V.int _
    rw[Int.zero_add,Zj]
    rfl
   rw[e1] at hD'
   generalize hN:((List.range t.length).map fun x=>((tb t b x:Nat):Int))=N at hD'
   have nl:N.length=t.length:=by rw[<-hN,Za,Zg]
   refine⟨D,N,rfl,.of hD',by omega,fun p1 h1=>?_⟩
   have s1:=Same.upd (o:=XC P w p1 (Yt N N.length)) h1
   have ml:(Yt N N.length).length<=N.length:=firstMet_length_le _ _
   refine⟨p1,Yt N N.length,rfl,Zt,Yy _ _,by omega,fun l ns h2 hp hs=>?_⟩
   have s2:=Same.upd (o:=.lst (ns.map V.int)) h2
   have e:=XH (c:=Zbj t b) hp hs (Yy _ _) (fun k=>?_) (Zgv b)
   ·refine⟨l,_,rfl,.inl ⟨.of Zt,fun r nr=>?_⟩⟩
    exact q r _ (((sm.trans s1).trans s2).trans (Same.upd nr)) (by rw[<-e];exact Zt)
   ·rw[Zc6]
    constructor
    ·rintro⟨j,hj,e⟩
     have hj':j<t.length:=by omega
     refine⟨tb t b j,(JX Pt hb).mpr ⟨j,hj',rfl⟩,?_⟩
     rw[<-e,<-hN,Zb,Zc,List.getElem?_range hj']
     rfl
    ·rintro⟨a,ha,rfl⟩
     obtain⟨x,hx,e⟩:=(JX Pt hb).mp ha
     refine⟨x,by omega,?_⟩
     rw[<-e,<-hN,Zb,Zc,List.getElem?_range hx]
     rfl
end
abbrev Ze2:Stmt:=top 43
abbrev ZaF:Stmt:=top 44
section
variable {P:Program}{w:World}{K:PySem.W.Frag}{mg:Str->Option Value}{base:Heap}
theorem ZfA {f:Addr}{fd:FuncData}(F:Wf K "_law_back" "_law_back" Ze2 f fd):ZQ P w K mg base Z2 1 f fd ["_law_group_here", "_law_a"] (Uv K):=by
 refine F.ok (FS (N:=["_law_group_here", "_law_a"])) (fun vs H Q E h=>?_) (fun cdv A outer s H vs Q E hr h=>?_)
 ·obtain⟨g,t,a,r,rfl,_⟩:=h;rfl
 ·obtain⟨g,t,a,r,rfl,G,Pt,ha,R,q⟩:=h
  refine⟨_,Zv (ZC (Zfn PySem.F.plainAttrs_tuple PySem.F.slot_tuple_index PySem.F.type_tuple_index (Zkj K) (ZE (Wn K) (vn 0) (vn 1) (fun _ _=>rfl)) (pc Zz Zs))),?_⟩
  obtain⟨rs,r1,h1,_,h2,h3,h4⟩:=G.at Pt ha
  have hl:=Yh Pt ha
  have il:=Ua Pt ha (r-1)
  refine⟨_,rfl,_,rfl,g,_,_,_,rfl,rfl,.of h1,h2,⟨_,_,rfl,h3⟩,r1,_,.int 0,it t a (r-1),rfl,rfl,h3.sq,rfl,?_,by rw[Za,hl];exact il,fun z hz=>?_,fun m z hm hz=>?_,q⟩
  ·rw[List.all_eq_true]
   intro z hz
   obtain⟨k,_,rfl⟩:=List.mem_map.mp hz
   rfl
  ·rw[X7 Pt ha il,R.bk] at hz
   cases hz
   decide
  ·have hm':m<t.length:=by omega
   rw[X7 Pt ha hm'] at hz
   cases hz
   have:ZA t a m≠0:=fun z=>by
    have:=R.un m hm' z
    omega
   show decide ((ZA t a m:Int)=0)=false
   exact decide_eq_false (by omega)
theorem ZbY {f:Addr}{fd:FuncData}(F:Wf K "_law_turned" "_law_turned" ZaF f fd)(GB:Fn P w K mg base Z2 1 "_law_back" ["_law_group_here", "_law_a"] (Uv K)):ZQ P w K mg base Z2 2 f fd ["_law_group_here", "_law_thing", "_law_t"] JC:=by
 refine F.ok (FS (N:=["_law_group_here", "_law_thing", "_law_t"])) (fun vs H Q E h=>?_) (fun cdv A outer s H vs Q E hr h=>?_)
 ·obtain⟨g,t,b,x,rfl,_⟩:=h;rfl
 ·obtain⟨g,t,b,x,rfl,G,Pt,hb,hx,q⟩:=h
  refine⟨_,Zv (ZC (ZE (Wn K) (ZE (Wn K) (vn 0) (ZE (Wn K) (ZE (Wn K) (vn 0) (vn 2) (fun _ _=>rfl)) (vn 1) (fun _ _=>rfl)) (fun _ _=>rfl)) (We GB hr ZK (pc (vn 0) (pc (vn 2) Zs))) (fun _ _=>rfl))),?_⟩
  obtain⟨r,R⟩:=Pt.rd x hx
  obtain⟨rs,r1,h1,_,h2,h3,h4⟩:=G.at Pt hx
  have ml:=Pt.lt _ _ hx hb
  obtain⟨rs',r2,g1,_,g2,g3,g4⟩:=G.at Pt ml
  have q':Q (.int (ZA t (ZA t x b) (it t x (r-1)):Nat)) H:=by rw[Zaj Pt hx R];exact q
  exact⟨_,rfl,_,rfl,_,rfl,g,_,_,_,rfl,rfl,.of h1,h2,_,rfl,r1,_,_,_,rfl,rfl,h3.sq,h4 b hb,g,_,_,_,rfl,rfl,.of g1,g2,_,rfl,_,rfl,g,t,x,r,rfl,G,Pt,hx,R,r2,_,_,_,rfl,rfl,g3.sq,g4 _ (Ua Pt hx (r-1)),q'⟩
end
end C23
namespace PyS
open PySem PySem.W PyProof.Rows PySem.Calls PyProof.V PySem.Spec
section
variable {prog:Program}{w:World}{A:Around}{R:Result->Shared->Prop}{I:Addr}{fp wr:List Addr}{G:Array GenState->Array GenState->Prop}{n:Nat}{P:Nat->Value->Prop}{St:Nat->Shared->Prop}
variable {prog:Program}{w:World}{A:Around}{E:Value->Shared->Prop}{s:Shared}
theorem ZbN {l:Addr}{items:Array Value}{ns:List Int}{Q:Value->Shared->Prop}(hh:A.handled=none)(hl:s.heap.IsTuple l items)(hi:IntsAre items.toList ns)(hb:items.size+1<scanBound)
  (h:∀(h':Heap) (tk:Nat),XN prog w s ns items.size h'->Q (.ref s.heap.objs.size) {s with heap:=h',toks:=tk}):wpAny (model prog w) A (call (.type "set") [.ref l]) Q E s:=by
 obtain⟨c,tl,hmro⟩:=PySem.F.called_set.mro
 have hmade:=PySem.F.called_set.made;have hsub:=PySem.F.called_set.sub
 refine wpAny_call (codeAny_of_tree ?_);show wpAny _ _ (callAny (.type "set") _) _ _ _
 refine Zm ⟨Code.quiet_builtin _ (by decide +kernel),codeAny_builtin PySem.F.entry_type_call ?_⟩;rw[Around.under_plain (weight_type_call_type "set" [.ref l] []) rfl]
 have h1:=PySem.F.called_set.notType;have h2:=PySem.F.called_set.canCreate;have hct:=PySem.F.typeCall_set_1 (.ref l)
 repeat (any_goals (first|assumption|wp_step))
 let ob:Obj:={cls:=.type "set",dict:=none,data:=.set #[] 0 (.fresh 0 0 (!w.params.followText "set-order"))}
 refine codeAny_mono (UA (.ref l) (E:=E) (Q₁:=fun obj s₁=>obj=.ref s.heap.objs.size/\s₁={s with heap:=s.heap.push ob}) ⟨rfl,rfl⟩) fun r s₁ hr=>?_
 cases r with
 |error e=>exact hr
 |ok fl=>
  cases fl with
  |ret obj=>
   obtain⟨rfl,rfl⟩:=hr
   have hS:(s.heap.push ob).get? s.heap.objs.size=some ob:=Zo _ rfl
   have hT:Shared.TypeIs {s with heap:=s.heap.push ob} (.ref s.heap.objs.size) "set":=⟨_,hS,rfl⟩
   have hli:=PySem.F.called_set.init.lookup;have hbi:=PySem.F.called_set.init.bind (.ref s.heap.objs.size)
   repeat (any_goals (first|assumption|wp_step))
   refine codeAny_mono (codeAny_call_builtin (R:=wants (fun r s₂=>r=.none/\∃h' tk,s₂={s with heap:=h',toks:=tk}/\XN prog w s ns items.size h') E) PySem.F.called_set.init.plain PySem.F.entry_set_init (check_set_init_1 hT ?_)) fun r₂ s₂ hr₂=>?_
   ·obtain⟨ol,J4,hcl,nl,hdl⟩:=id hl
    obtain⟨ocls,odict,odata,oslots⟩:=ol
    simp only at hcl hdl
    subst hcl;subst hdl
    have hol':(s.heap.push ob).get? l=some {cls:=.type "tuple",dict:=odict,data:=.seq items nl,slots:=oslots}:=Zn _ J4
    have hsls:=L2.ZeG;have hslf:=L2.ZdC
    have hne:(Value.type "tuple" == Value.type "dict")=false:=by decide
    have hl1:(s.heap.push ob).IsTuple l items:=⟨_,hol',rfl,nl,rfl⟩
    unfold Builtin.«set.__init__» noKeywords Builtin.Frozenset.updateFrom;generalize hPI:pyIter=PI
    wp_walk
    subst hPI
    refine wpAny_pyIter_tuple hl1 ?_
    refine Zl (wpAny_runValue ?_)
    have hlS:l<s.heap.objs.size:=Zp J4
    have hneI:l≠(s.heap.push ob).objs.size:=by rw[Heap.size_push];exact Nat.ne_of_lt (Nat.lt_succ_of_lt hlS)
    have hSf:s.heap.objs.size∉[(s.heap.push ob).objs.size,l]:=by
     rw[Heap.size_push];intro z
     rcases List.mem_cons.mp z with z|z
     ·exact absurd z (Nat.ne_of_lt (Nat.lt_succ_self _))
     ·exact absurd (List.mem_singleton.mp z) (Nat.ne_of_gt hlS)
    refine Zar ((Walks.tuple (A:=A.in1.in1.in1) (by simp[hh]) _ l hneI items).toS) s.heap.objs.size hSf (fun i=>ns.getD i 0) (fun i v hv=>IntsAre.int_at hi i v (by rw[Array.getElem?_toList];exact hv)) hb (items.size-0) 0 _ (by omega) (Nat.zero_le _)
     ⟨⟨_,Zo _ rfl,rfl,rfl⟩,⟨_,Zn _ hol',rfl,nl,rfl⟩⟩ ?hS0 ?hR
    case hS0=>exact (Zdg (Zn _ hS)).congr (fun _=>rfl) rfl
    case hR=>
     intro s' hm hS'
     obtain⟨h',g',d',tk',os'⟩:=s'
     obtain rfl:g'=s.gens:=hm.gens
     obtain rfl:d'=s.drawn:=hm.drawn
     obtain rfl:os'=s.os:=hm.os
     show wpAny _ _ _ _ _ _
     refine Zm ?_;show wpAny _ _ (ret Value.none) _ _ _
     refine Zm ⟨rfl,h',tk',rfl,hS',fun b o hb e=>hm.heap b o (fun z=>?_) (Zn _ (Zn _ e))⟩
     rcases List.mem_cons.mp z with z|z
     ·exact absurd z (Nat.ne_of_lt hb)
     ·refine absurd (List.mem_singleton.mp z) (Nat.ne_of_lt ?_);rw[Heap.size_push];exact Nat.lt_succ_of_lt hb
   ·cases r₂ with
    |error e=>exact hr₂
    |ok fl₂=>
     cases fl₂ with
     |ret r=>
      obtain⟨rfl,h',tk,rfl,he⟩:=hr₂
      repeat (any_goals (first|assumption|wp_step))
      exact h _ _ he
     |_=>exact hr₂.elim
  |_=>exact hr.elim
end
end PyS
namespace L2
open PySem PySem.Spec PyProof.Rows
section
variable {X:Cx}
end
end L2
namespace Tb
inductive Y5 (On:Nat->List Nat):Nat->Prop where
 |zero:Y5 On 0
 |step {a b:Nat} (h:Y5 On a) (hb:b∈On a):Y5 On b
section
variable {t:List (List Nat)}{On:Nat->List Nat}{n:Nat}
theorem Y5.lt (n1:1<=n)(h:∀a,a<n->∀b∈On a,b<n){x:Nat}(r:Y5 On x):x<n:=by
 induction r with
 |zero=>exact n1
 |step _ hb ih=>exact h _ ih _ hb
theorem Y5.sub {S:List Nat}(h0:0∈S)(hc:∀x∈S,∀y∈On x,y∈S){x:Nat}(r:Y5 On x):x∈S:=by
 induction r with
 |zero=>exact h0
 |step _ hb ih=>exact hc _ ih _ hb
open Classical in
noncomputable def prtL (n:Nat) (On:Nat->List Nat):List Nat:=(List.range n).filter fun x=>decide (Y5 On x)
open Classical in
theorem Z7 {x:Nat}:x∈prtL n On↔x<n/\Y5 On x:=by
 unfold prtL
 rw[List.mem_filter,List.mem_range,decide_eq_true_iff]
theorem Wl:(prtL n On).Pairwise (· < ·):=List.Pairwise.sublist List.filter_sublist List.pairwise_lt_range
open Classical in
theorem V1 {On':Nat->List Nat}(h:∀x,Y5 On x↔Y5 On' x):prtL n On=prtL n On':=by
 unfold prtL
 refine List.filter_congr fun x _=>?_
 rw[decide_eq_decide]
 exact h x
def YQ (t:List (List Nat))(gs:List Nat):Nat->List Nat:=fun a=>gs.map (ZA t a)
theorem Vg (P:PW t){gs:List Nat}(hg:∀g∈gs,g<t.length):∀a,a<t.length->∀b∈YQ t gs a,b<t.length:=fun a ha b hb=>by
 obtain⟨g,hg',rfl⟩:=List.mem_map.mp hb
 exact P.lt _ _ ha (hg g hg')
theorem ZcP {gs gs':List Nat}(h:∀g,g∈gs->g∈gs'){x:Nat}(r:Y5 (YQ t gs) x):Y5 (YQ t gs') x:=by
 induction r with
 |zero=>exact .zero
 |step _ hb ih=>
  obtain⟨g,hg,rfl⟩:=List.mem_map.mp hb
  exact .step ih (List.mem_map.mpr ⟨g,h g hg,rfl⟩)
theorem ZcS {gs gs':List Nat}(h:∀g,g∈gs↔g∈gs'):prtL n (YQ t gs)=prtL n (YQ t gs'):=V1 fun x=>⟨ZcP fun g=>(h g).mp,ZcP fun g=>(h g).mpr⟩
theorem UI (P:PW t){gs:List Nat}{g:Nat}(hg:g∈gs)(hl:g<t.length):Y5 (YQ t gs) g:=.step .zero (List.mem_map.mpr ⟨g,hg,P.one g hl⟩)
theorem ZcQ (P:PW t){gs:List Nat}(hg:∀g∈gs,g<t.length){a b:Nat}(ra:Y5 (YQ t gs) a)(rb:Y5 (YQ t gs) b):Y5 (YQ t gs) (ZA t a b):=by
 have la:=ra.lt P.n1 (Vg P hg)
 induction rb with
 |zero=>rw[P.oneR a la];exact ra
 | @step c d rc hd ih=>
  obtain⟨g,hg',rfl⟩:=List.mem_map.mp hd
  have lc:=rc.lt P.n1 (Vg P hg)
  rw[<-P.ass a c g la lc (hg g hg')]
  exact .step ih (List.mem_map.mpr ⟨g,hg',rfl⟩)
theorem ZiR (P:PW t){gs hs:List Nat}(hh:∀g∈hs,g<t.length)(h:∀g∈gs,Y5 (YQ t hs) g){x:Nat}(r:Y5 (YQ t gs) x):Y5 (YQ t hs) x:=by
 induction r with
 |zero=>exact .zero
 |step _ hb ih=>
  obtain⟨g,hg,rfl⟩:=List.mem_map.mp hb
  exact ZcQ P hh ih (h g hg)
def Wg (t:List (List Nat))(gs:List Nat):List Nat:=gs.flatMap fun b=>(List.range t.length).map fun x=>tb t b x
theorem YY {gs:List Nat}{y:Nat}:y∈Wg t gs↔∃b∈gs,∃x,x<t.length/\tb t b x=y:=by
 unfold Wg
 rw[List.mem_flatMap]
 constructor
 ·rintro⟨b,hb,h⟩
  obtain⟨x,hx,e⟩:=List.mem_map.mp h
  exact⟨b,hb,x,List.mem_range.mp hx,e⟩
 ·rintro⟨b,hb,x,hx,e⟩
  exact⟨b,hb,List.mem_map.mpr ⟨x,List.mem_range.mpr hx,e⟩⟩
theorem Jz (P:PW t){gs:List Nat}(hg:∀g∈gs,g<t.length):∀y∈Wg t gs,y<t.length:=fun y hy=>by
 obtain⟨b,hb,x,hx,rfl⟩:=YY.mp hy
 exact ZeI P (hg b hb) hx
theorem ZfU (P:PW t){gs:List Nat}(hg:∀g∈gs,g<t.length):prtL t.length (YQ t (Wg t (prtL t.length (YQ t gs))))=prtL t.length (YQ t gs)↔∀y∈Wg t (prtL t.length (YQ t gs)),y∈prtL t.length (YQ t gs):=by
 have pl:∀g∈prtL t.length (YQ t gs),g<t.length:=fun g h=>(Z7.mp h).1
 constructor
 ·intro e y hy
  rw[<-e]
  exact Z7.mpr ⟨Jz P pl y hy,UI P hy (Jz P pl y hy)⟩
 ·intro h
  refine V1 fun x=>⟨fun r=>?_,fun r=>?_⟩
  ·exact ZiR P hg (fun y hy=>(Z7.mp (h y hy)).2) r
  ·have hx:=r.lt P.n1 (Vg P hg)
   have hm:x∈prtL t.length (YQ t gs):=Z7.mpr ⟨hx,r⟩
   exact UI P (YY.mpr ⟨x,hm,0,P.n1,ZgP P hx⟩) hx
theorem V4:∀(n:Nat) (l:List Nat),l.Nodup->(∀x∈l,x<n)->l.length<=n
 |0,l,_,h=>by
  cases l with
  |nil=>exact Zq _
  |cons a r=>exact absurd (h a List.mem_cons_self) (Nat.not_lt_zero _)
 |n+1,l,nd,h=>by
  have h1:=V4 n (l.filter (· != n)) (nd.sublist List.filter_sublist) fun x hx=>by
   obtain⟨hx,hn⟩:=List.mem_filter.mp hx
   have:=h x hx
   have hn:x≠n:=by simpa using hn
   omega
  have h2:(l.filter (· != n)).length+1 ≥ l.length:=by
   by_cases hm:n∈l
   ·have:l.filter (· != n)=l.erase n:=(nd.erase_eq_filter n).symm
    rw[this,List.length_erase_of_mem hm]
    omega
   ·rw[List.filter_eq_self.mpr fun x hx=>by
     have:x≠n:=fun z=>hm (z▸hx)
     simpa using this]
    omega
  omega
end
end Tb
namespace L2
open PySem PySem.Spec PyProof.Rows
theorem JQ {α:Type}{n:Str}:∀{a b:List (Str×α)},a.lookup n=none->(a++b).lookup n=b.lookup n
 | [],_,_=>rfl
 |(x,y)::r,b,h=>by
  rw[List.lookup_cons] at h
  show List.lookup n ((x,y)::(r++b))=_
  rw[List.lookup_cons]
  cases q:n == x with
  |true=>rw[q] at h;cases h
  |false=>rw[q] at h;exact JQ h
theorem Wm {α:Type}{n:Str}{c:α}:∀{a b:List (Str×α)},a.lookup n=some c->(a++b).lookup n=some c
 | [],_,h=>by cases h
 |(x,y)::r,b,h=>by
  rw[List.lookup_cons] at h
  show List.lookup n ((x,y)::(r++b))=_
  rw[List.lookup_cons]
  cases q:n == x with
  |true=>rw[q] at h;exact h
  |false=>rw[q] at h;exact Wm h
def Xf (env:Env)(cl:List (Str×Addr)):Env:={env with cells:=env.cells++cl}
theorem ZbF {env:Env}{cl:List (Str×Addr)}{n:Str}{v:Value}(h:env.kindOf n=some .local\/(env.kindOf n=some .cell/\(env.cells.lookup n).isSome=true)):storeName (Xf env cl) n v=storeName env n v:=by
 have hk:(Xf env cl).kindOf n=env.kindOf n:=rfl
 have hb:(Xf env cl).blockKind=env.blockKind:=rfl
 unfold storeName
 rw[hk,hb]
 rcases h with h|⟨h,hc⟩
 ·rw[h];rfl
 ·rw[h]
  have e:cellOf (Xf env cl) n=cellOf env n:=by
   obtain⟨c,hc⟩:=Option.isSome_iff_exists.mp hc
   unfold cellOf
   rw[show (Xf env cl).cells=env.cells++cl from rfl,Wm hc,hc]
  rw[e]
  rfl
section
variable {M:Model}{A:Around}{E:Value->Shared->Prop}{s₀:Shared}{env:Env}{cl:List (Str×Addr)}
theorem W4 (f:Str×Value->PUnit->Sem (ForInStep PUnit))(hf:∀n v u,f (n,v) u=(do storeName (Xf env cl) n v;pure (.yield ⟨⟩)))(hk:env.scope.kind=.function) :
  ∀(binds:List (Str×Value)) (m cm:Str->Option Value) (s:Shared) (Q:PUnit->Shared->Prop),InCallC s₀ env.locals m env.cells cm s->
   (∀x∈binds,env.kindOf x.1=some .local\/(env.kindOf x.1=some .cell/\(env.cells.lookup x.1).isSome=true))->
   (∀s',InCallC s₀ env.locals (bindL env.kindOf binds m) env.cells (bindC env.kindOf binds cm) s'->Q ⟨⟩ s')->wpAny M A (forIn binds ⟨⟩ f) Q E s
 | [],m,cm,s,Q,x,_,h=>by rw[List.forIn_nil];exact Zm (h s x)
 |(n,v)::r,m,cm,s,Q,x,hkind,h=>by
  rw[List.forIn_cons,hf,ZbF (hkind (n,v) List.mem_cons_self)]
  have hr:∀y∈r,env.kindOf y.1=some .local\/(env.kindOf y.1=some .cell/\(env.cells.lookup y.1).isSome=true):=fun y hy=>hkind y (List.mem_cons_of_mem _ hy)
  rcases hkind (n,v) List.mem_cons_self with hl|⟨hl,hc⟩
  ·refine Zl (Zl (stLC x hk hl fun s' x'=>Zm (W4 f hf hk r _ _ s' Q x' hr fun s'' x''=>h s'' ?_)))
   unfold bindL bindC;rw[if_pos hl,if_pos hl];exact x''
  ·obtain⟨c,hc⟩:=Option.isSome_iff_exists.mp hc
   have hnl:¬env.kindOf n=some .local:=by rw[hl];decide
   refine Zl (Zl (stCC x hk hl hc fun s' x'=>Zm (W4 f hf hk r _ _ s' Q x' hr fun s'' x''=>h s'' ?_)))
   unfold bindL bindC;rw[if_neg hnl,if_neg hnl];exact x''
end
section
variable {M:Model}{A:Around}{E:Value->Shared->Prop}{s:Shared}
theorem Zhy {scope:Scope}{globals:Addr}{cl:List (Str×Addr)}{binds:List (Str×Value)}{qual:Str}{func:Option Addr}{code:Value}{builtins:Addr}{Q:Env->Shared->Prop}
  (hk:scope.kind=.function)
  (hkind:∀x∈binds,scope.names.lookup x.1=some .local\/(scope.names.lookup x.1=some .cell/\((cellsFrom (s.heap.objs.size+1) scope.names []).lookup x.1).isSome=true))
  (hQ:∀env,env=newEnv scope s.heap.objs.size globals (cellsFrom (s.heap.objs.size+1) scope.names []) qual func code none builtins->
   ∀s',InCallC s env.locals (bindL env.kindOf binds fun _=>none) env.cells (bindC env.kindOf binds fun _=>none) s'->Q (Xf env cl) s') :
  wpAny M A (newFunctionEnv scope globals cl binds qual func code none builtins) Q E s:=by
 simp only[newFunctionEnv,Option.isSome_none,Bool.false_eq_true,if_false]
 refine Zl (wpAny_alloc ?_)
 refine Zl (wpAny_layCells _ (fun name kind cells=>by cases hkc:kind == NameKind.cell <;> simp[hkc]) _ _ _ _ ?_)
 have ok:=cellsFrom_ok scope.names (s.heap.push {cls:=.type "frame",data:=.dict #[]}) (s.heap.objs.size+1) [] ⟨fun _ _ hm=>(nomatch hm),List.Pairwise.nil⟩ (by rw[Heap.size_push];exact Zq _)
 rw[Heap.size_push] at ok
 rw[show ({s with heap:=s.heap.push {cls:=.type "frame",data:=.dict #[]}}:Shared).heap.objs.size=s.heap.objs.size+1 from Heap.size_push ..]
 rw[Wo]
 refine Zl (W4 (cl:=cl) (s₀:=s) (env:=newEnv scope s.heap.objs.size globals (cellsFrom (s.heap.objs.size+1) scope.names []) qual func code none builtins)
  _ (fun _ _ _=>rfl) hk binds (fun _=>none) (fun _=>none) _ _
  ⟨⟨⟨_,_,rfl⟩,(Heap.Ns.new s.heap (.type "frame")).keeps (pushCells_keeps _ _),fun b o e=>pushCells_keeps _ _ b o (Zn _ e),Zq _⟩,
   fun n c hc=>(ok.empty n c (mem_of_lookup hc)).1,ok.apart,fun n c hm=>(ok.empty n c hm).2⟩
  hkind fun s' x=>Zm (hQ _ rfl s' x))
end
structure VB (N ps caps:List Str)(sc:Scope):Prop where
 kind:sc.kind=.function
 co:sc.isCoroutine=false
 gen:sc.isGenerator=false
 nd:N.Nodup
 ndn:(sc.names.map (·.1)).Nodup
 eqN:N=ps++caps
 par:∀x∈ps,sc.names.lookup x=some .local\/sc.names.lookup x=some .cell
 cap:∀x∈caps,sc.names.lookup x=some .free
 fr:∀y∈sc.names,y.2=.free->y.1∈caps
structure Zan (base:Heap)(cl:List (Str×Addr))(caps:List Str)(cvs:List V):Prop where
 len:caps.length=cvs.length
 at_:∀(i:Nat) x v,caps[i]?=some x->cvs[i]?=some v->∃c u,cl.lookup x=some c/\base.IsCell c (some u)/\RelV v u
 only:∀x c,cl.lookup x=some c->x∈caps
 inj:∀x y c,cl.lookup x=some c->cl.lookup y=some c->x=y
def Uh (CX:XO)(P:Program)(w:World)(K:PySem.W.Frag)(mg:Str->Option Value)(base:Heap)(N caps:List Str)(cl:List (Str×Addr))(qual:Str)(scope:Scope)(f:Addr)(cd:Value)(A:Around)(outer:List Env)(s:Shared)(H:Hp)(E:XK):Cx where
 prog:=P
 w:=w
 K:=K
 mg:=mg
 base:=base
 A:=A.deeper (Xf (envOfC qual scope s.heap.objs.size f cd) cl)
 N:=N
 s₀:=s
 H₀:=H
 env:=Xf (envOfC qual scope s.heap.objs.size f cd) cl
 outer:=outer
 stack:=Xf (envOfC qual scope s.heap.objs.size f cd) cl::outer
 ex:=[]
 calm:=true
 fn:=fun x=>!caps.contains x
 pn:=[]
 xe:=fun e s'=>wpAny (model P w) (A.deeper (Xf (envOfC qual scope s.heap.objs.size f cd) cl)) (leaving (Xf (envOfC qual scope s.heap.objs.size f cd) cl) e) (fun _ s''=>CX outer H s E e s'') (fun e' s''=>CX outer H s E e' s'') s'
theorem Jv {scope:Scope}{n:Nat}{x:Str}(nd:(scope.names.map (·.1)).Nodup)(h:scope.names.lookup x=some .free):(cellsFrom n scope.names []).lookup x=none:=by
 cases e:(cellsFrom n scope.names []).lookup x with
 |none=>rfl
 |some c=>
  rcases Jf scope.names n [] (PySem.mem_of_lookup e) with z|z
  ·have:=Jb nd z
   rw[h] at this
   cases this
  ·cases z
theorem ZhK {CX:XO}{P:Program}{w:World}{K:PySem.W.Frag}{mg:Str->Option Value}{base:Heap}{N ps caps:List Str}{cl:List (Str×Addr)}{cvs:List V}{qual:Str}{scope:Scope}{f:Addr}{cd:Value}{A:Around}{outer:List Env}{s s1:Shared}{H:Hp}{E:XK}{us:List Value}{vs:List V}
  (S:VB N ps caps scope) (C:Zan base cl caps cvs) (hd:A.handled=none) (e0:Zey P w K mg base A outer s H) (hl:vs.length=ps.length) (r:ZB vs us)
  (x:InCallC s s.heap.objs.size (bindL (envOfC qual scope s.heap.objs.size f cd).kindOf (ps.zip us) fun _=>none) (cellsFrom (s.heap.objs.size+1) scope.names []) (bindC (envOfC qual scope s.heap.objs.size f cd).kindOf (ps.zip us) fun _=>none) s1) :
  Inv (Uh CX P w K mg base N caps cl qual scope f cd A outer s H E) [] ((vs++cvs).map some) H s1:=by
 obtain⟨h1,tk,rfl,hk⟩:=x.done
 have noA:∀b:Addr,b∉(Uh CX P w K mg base N caps cl qual scope f cd A outer s H E).ex:=fun b z=>absurd (show b∈([]:List Addr) from z) (by simp)
 have ndps:ps.Nodup:=by have:=S.nd;rw[S.eqN] at this;exact (List.nodup_append.mp this).1
 have split:∀y c,(cellsFrom (s.heap.objs.size+1) scope.names []++cl).lookup y=some c->((cellsFrom (s.heap.objs.size+1) scope.names []).lookup y=some c/\y∉caps)\/((cellsFrom (s.heap.objs.size+1) scope.names []).lookup y=none/\cl.lookup y=some c):=fun y c h=>by
  cases e:(cellsFrom (s.heap.objs.size+1) scope.names []).lookup y with
  |none=>rw[JQ e] at h;exact .inr ⟨rfl,h⟩
  |some d=>
   rw[Wm e] at h
   cases h
   refine .inl ⟨rfl,fun hy=>?_⟩
   rw[Jv S.ndn (S.cap y hy)] at e
   cases e
 have atB:∀y c,cl.lookup y=some c->∃u,base.IsCell c (some u):=fun y c h=>by
  have hy:=C.only y c h
  obtain⟨i,hi⟩:=List.getElem?_of_mem hy
  have hlt:i<cvs.length:=by rw[<-C.len];exact (List.getElem?_eq_some_iff.mp hi).1
  obtain⟨d,u,h1,h2,_⟩:=C.at_ i y cvs[i] hi (Zf hlt)
  rw[h] at h1
  cases h1
  exact⟨u,h2⟩
 have below:∀y c,cl.lookup y=some c->c<s.heap.objs.size:=fun y c h=>by
  obtain⟨u,o,ho,_⟩:=atB y c h
  exact Zp (e0.bs _ _ ho).1
 have up:∀c u,base.IsCell c (some u)->h1.IsCell c (some u):=fun c u h=>by
  obtain⟨o,ho,hd⟩:=h
  exact⟨o,hk _ _ (e0.bs _ _ ho).1,hd⟩
 refine⟨⟨e0.mod,S.kind,rfl,rfl,Zq _,fun y z c h1 h2=>?_,fun y hy=>?_,fun y c hf h=>?_,fun _=>hd,Around.frames_deeper e0.frames,.inr ⟨rfl,rfl⟩,fun b z=>absurd z (noA b),e0.bs,e0.bsz,fun b _ _=>noA b,fun b z=>absurd z (noA b),e0.funs,e0.frf⟩,
  rfl,e0.bare,Un.kept hk,⟨_,x.toInCall.ns,fun i y v h1 h2 h3=>?_⟩,fun y c h=>?_,e0.hok.fresh (Zq _),fun y c h=>?_,fun p hp=>absurd (show p∈([]:List (Addr×Obj)) from hp) (by simp),e0.hok.kept hk,?_⟩
 ·rcases split y c h1 with ⟨a1,_⟩|⟨_,a1⟩ <;> rcases split z c h2 with ⟨a2,_⟩|⟨_,a2⟩
  ·exact name_of_addr x.apart (PySem.mem_of_lookup a1) (PySem.mem_of_lookup a2)
  ·exact absurd (Nat.lt_trans (below z c a2) (x.above y c (PySem.mem_of_lookup a1))) (Nat.lt_irrefl _)
  ·exact absurd (Nat.lt_trans (below y c a1) (x.above z c (PySem.mem_of_lookup a2))) (Nat.lt_irrefl _)
  ·exact C.inj y z c a1 a2
 ·have hy:scope.names.lookup y=some .cell\/scope.names.lookup y=some .free:=hy
  rcases hy with hy|hy
  ·obtain⟨c,hc⟩:=JY (n:=s.heap.objs.size+1) hy
   exact⟨c,Wm hc⟩
  ·have hm:=S.fr _ (PySem.mem_of_lookup hy) rfl
   obtain⟨i,hi⟩:=List.getElem?_of_mem hm
   have hlt:i<cvs.length:=by rw[<-C.len];exact (List.getElem?_eq_some_iff.mp hi).1
   obtain⟨d,u,h1,_⟩:=C.at_ i y cvs[i] hi (Zf hlt)
   exact⟨d,by rw[show (Uh CX P w K mg base N caps cl qual scope f cd A outer s H E).env.cells=cellsFrom (s.heap.objs.size+1) scope.names []++cl from rfl,JQ (Jv S.ndn hy)];exact h1⟩
 ·rcases split y c h with ⟨a1,_⟩|⟨_,a1⟩
  ·exact Nat.le_of_lt (x.above y c (PySem.mem_of_lookup a1))
  ·have hf:(!caps.contains y)=true:=hf
   have:=List.contains_iff_mem.mpr (C.only y c a1)
   rw[this] at hf
   cases hf
 ·have h1:(ps++caps)[i]?=some y:=by rw[<-S.eqN];exact h1
  rw[Zc] at h2
  by_cases hi:i<vs.length
  ·rw[List.getElem?_append_left hi] at h2
   rw[List.getElem?_append_left (by omega)] at h1
   cases ha:vs[i]? with
   |none=>rw[ha] at h2;cases h2
   |some a=>
    rw[ha] at h2
    cases h2
    obtain⟨u,hu,rv⟩:=r.get ha
    refine⟨u,rv,?_⟩
    rcases S.par y (List.mem_of_getElem? h1) with k|k
    ·exact .inl ⟨k,Xk ndps h1 hu k⟩
    ·obtain⟨c,e⟩:=JY (n:=s.heap.objs.size+1) k
     refine .inr ⟨.inl k,c,Wm e,?_⟩
     have q:=x.cell y c e
     rw[Xl ndps h1 hu (by show scope.names.lookup y≠_;rw[k];decide)] at q
     exact q
  ·rw[List.getElem?_append_right (by omega)] at h2
   rw[List.getElem?_append_right (by omega)] at h1
   rw[hl] at h2
   cases ha:cvs[i-ps.length]? with
   |none=>rw[ha] at h2;cases h2
   |some a=>
    rw[ha] at h2
    cases h2
    obtain⟨c,u,b1,b2,b3⟩:=C.at_ (i-ps.length) y _ h1 ha
    have hf:=S.cap y (List.mem_of_getElem? h1)
    exact⟨u,b3,.inr ⟨.inr hf,c,by rw[show (Uh CX P w K mg base N caps cl qual scope f cd A outer s H E).env.cells=cellsFrom (s.heap.objs.size+1) scope.names []++cl from rfl,JQ (Jv S.ndn hf)];exact b1,up c u b2⟩⟩
 ·rcases split y c h with ⟨a1,_⟩|⟨_,a1⟩
  ·exact⟨_,x.cell y c a1⟩
  ·obtain⟨u,hu⟩:=atB y c a1
   exact⟨_,up c u hu⟩
 ·rcases split y c h with ⟨a1,_⟩|⟨_,a1⟩
  ·exact e0.hok.fresh (Nat.le_of_lt (x.above y c (PySem.mem_of_lookup a1)))
  ·obtain⟨u,o,ho,_⟩:=atB y c a1
   exact (e0.bs _ _ ho).2
 ·show _=N.length
  rw[Za,Zd,S.eqN,Zd,hl,C.len]
theorem ZjL {CX:XO}{P:Program}{w:World}{K:PySem.W.Frag}{mg:Str->Option Value}{base:Heap}{k:Nat}{f:Addr}{name qual:Str}{params:Arguments}{body:Expr}{scope:Scope}{cl:List (Str×Addr)}{cvs:List V}{pm cdv ct:Value}{N ps caps:List Str}{sp:Sp}
  (S:VB N ps caps scope) (C:Zan base cl caps cvs) (len:∀vs H Q E,sp vs H Q E->vs.length=ps.length)
  (hat:∀vs (s:Shared) H Q E,W8 P w H s.heap->sp vs H Q E->(∃oc od osl,s.heap.get? f=some ⟨oc,od,.func (PySem.W.kla_fn name qual params body scope cl pm cdv ct),osl⟩)/\s.heap.CodeRec cdv qual)
  (hbody:∀(A:Around) (outer:List Env) (s:Shared) (H:Hp) (vs:List V) (Q:VK) (E:XK),Y7 k (A.deeper (Xf (envOfC qual scope s.heap.objs.size f cdv) cl))->sp vs H Q E->
   ∃t,PE (Uh CX P w K mg base N caps cl qual scope f cdv A outer s H E) body t/\t ((vs++cvs).map some) H Q) :
  ZQ P w K mg base CX (k+1) f (PySem.W.kla_fn name qual params body scope cl pm cdv ct) ps sp:=by
 refine⟨len,fun A outer s H args us vs Q E hr e0 hb r hsp=>?_⟩
 have hl:=len _ _ _ _ hsp
 have lim:s.heap.NoLimit:=e0.mod.nolimit.keeps fun b o e=>(e0.bs b o e).1
 obtain⟨⟨oc,od,osl,hf⟩,hcd⟩:=hat vs s H Q E e0.hok hsp
 have hkind:∀y∈ps.zip us,scope.names.lookup y.1=some .local\/(scope.names.lookup y.1=some .cell/\((cellsFrom (s.heap.objs.size+1) scope.names []).lookup y.1).isSome=true):=fun ⟨n,v⟩ hy=>by
  rcases S.par n (List.of_mem_zip hy).1 with q|q
  ·exact .inl q
  ·exact .inr ⟨q,PySem.W.cellsFrom_some _ _ _ (.inl q)⟩
 refine PySem.W.kla_callFunE hr.depth hf rfl S.co S.gen rfl hcd (hb _ _ _ _ ?_)
 refine Zhy S.kind hkind fun env he s1 x=>?_
 subst he
 refine⟨lim.keeps x.toInCall.keep,PySem.W.kla_codeExpr ?_⟩
 obtain⟨t,ht,hq⟩:=hbody A outer s H vs Q E (hr.deeper _) hsp
 have I:Inv (Uh CX P w K mg base N caps cl qual scope f cdv A outer s H E) [] ((vs++cvs).map some) H s1:=ZhK S C hr.hd e0 hl r x
 refine wpAny_mono (ht [] s1 _ H _ I hq) (fun u s' hs=>?_) fun e s' hs=>hs
 obtain⟨v,H',J,rv,q⟩:=hs
 exact⟨v,H',J.os,J.bare,J.base,J.hok,rv,q⟩
def Js (f:Addr)(o:Obj):HO:=.ext fun h=>h.get? f=some o
def W0 (c:Addr)(qual:Str):HO:=.ext fun h=>h.CodeRec (.ref c) qual
theorem Zcd {P:Program}{w:World}{H:Hp}{h:Heap}{f:Addr}{o:Obj}(k:W8 P w H h)(e:H f=some (Js f o)):h.get? f=some o:=(k f _ e).1
theorem ZhR {P:Program}{w:World}{H:Hp}{h:Heap}{c:Addr}{qual:Str}(k:W8 P w H h)(e:H c=some (W0 c qual)):h.CodeRec (.ref c) qual:=(k c _ e).1
section
variable {X:Cx}
def ZiN (P:Program)(w:World)(K:PySem.W.Frag)(mg:Str->Option Value)(base:Heap)(CX:XO)(k i:Nat)(E:XK)(t:TA):TE:=fun σ H Q=>∃f oc od fd sl,σ[i]?=some (some (.ref f))/\H f=some (Js f ⟨oc,od,.func fd,sl⟩)/\
 t σ H fun vs H1=>H1 f=some (Js f ⟨oc,od,.func fd,sl⟩)/\∃ps sp,ZQ P w K mg base CX k f fd ps sp/\Binds K fd ps []/\sp vs H1 Q E
theorem Zfl {CX:XO}{k j i:Nat}{x:Str}{E:XK}{e:Expr}{es:List Expr}{t:TA}{p pos:Pos}(hr:Y7 j X.A)(hx:W7 CX X E)(hv:PE X (.Name x p) (ZgR i))(ha:PA X (e::es) t)(hk:k<=j:=by decide)
  (he:starEach (e::es) X.env=(false,eval e X.env)::starEach es X.env:=by rfl) (hpl:(backTo pos (starEach es X.env)).any (·.1)=false:=by rfl) :
  PE X (.Call (.Name x p) (e::es) [] pos) (ZiN X.prog X.w X.K X.mg X.base CX k i E t):=by
 intro pins s σ H Q I h
 obtain⟨f,oc,od,fd,sl,h1,h2,h3⟩:=h
 refine wpAny_Call_Name_kw (ZT (hv pins s σ H (fun v H1=>v=.ref f/\H1=H) I ⟨_,h1,rfl,rfl⟩) fun u s1 ⟨v,H1,I1,rv,e1,e2⟩=>?_)
 subst e1
 subst e2
 cases rv
 refine PySem.W.callWith_F ⟨oc,od,fd,sl,Zcd I1.hok h2⟩ (ZT (ha pos pins s1 σ H1 _ I1 h3) fun us s2 ⟨vs,H2,I2,r,g1,ps,sp,F,B,q⟩=>⟨⟨oc,od,fd,sl,Zcd I2.hok g1⟩,?_⟩) he hpl
 refine Ze6 (dvs:=[]) (ds:=[]) F (hr.mono hk) B .nil hx I2 r ?_
 rw[List.append_nil]
 exact q
structure ZiA (X:Cx)(σ:St)(base':Heap):Prop where
 base:∀b o,X.base.get? b=some o->base'.get? b=some o
 cells:∀(i:Nat) x v c,X.N[i]?=some x->σ[i]?=some (some v)->Vis X.env.scope x->X.env.cells.lookup x=some c->(X.env.kindOf x=some .cell\/X.env.kindOf x=some .free)->X.fn x=true->∃u,base'.IsCell c (some u)/\RelV v u
theorem Mod.wider {K:PySem.W.Frag}{mg:Str->Option Value}{base base':Heap}(M:Mod K mg base)(k:∀b o,base.get? b=some o->base'.get? b=some o):Mod K mg base':=by
 obtain⟨mb,h1,h2⟩:=M.blt
 exact⟨M.kin.keeps k,M.glob.keeps k,⟨mb,h1.keeps k,h2⟩,M.nolimit.keeps k⟩
open Classical in
theorem ZeC {pins:List (Addr×Obj)}{σ:St}{H:Hp}{s:Shared}(I:Inv X pins σ H s):∃base',ZiA X σ base'/\Zey X.prog X.w X.K X.mg base' X.A X.stack s H:=by
 let keepB:Addr->Prop:=fun b=>(X.base.get? b).isSome=true\/∃x,X.fn x=true/\X.env.cells.lookup x=some b
 let as:List Addr:=(List.range s.heap.objs.size).filter fun b=>decide (¬keepB b)
 have inAs:∀b,b<s.heap.objs.size->¬keepB b->b∈as:=fun b hb hk=>List.mem_filter.mpr ⟨List.mem_range.mpr hb,decide_eq_true hk⟩
 have notAs:∀b,keepB b->b∉as:=fun b hk hb=>(of_decide_eq_true (List.mem_filter.mp hb).2) hk
 have kp:∀b o,X.base.get? b=some o->(PySem.W.hideAll s.heap as).get? b=some o:=fun b o e=>PySem.W.hideAll_get _ (I.bk b o e) (notAs b (.inl (by rw[e];rfl)))
 refine⟨PySem.W.hideAll s.heap as,⟨kp,fun i x v c h1 h2 h3 h4 h5 h6=>?_⟩,⟨I.ok.frames,I.ok.mod.wider kp,fun b o e=>⟨PySem.W.of_hideAll _ e,?_⟩,Nat.le_of_eq (PySem.W.hideAll_size _ _),PySem.W.funFrames_hide I.stack fun env he a ha=>?_,I.stkFree,I.hok,I.bare⟩⟩
 ·obtain⟨m,hn,hl⟩:=I.loc
  obtain⟨u,rv,lk⟩:=hl i x v h1 h2 h3
  rcases lk with ⟨k,_⟩|⟨_,c',hc,o,ho,hd⟩
  ·rcases h5 with z|z <;> rw[k] at z <;> cases z
  ·rw[h4] at hc
   cases hc
   exact⟨u,⟨o,PySem.W.hideAll_get _ ho (notAs _ (.inr ⟨x,h6,h4⟩)),hd⟩,rv⟩
 ·by_cases hk:keepB b
  ·rcases hk with hk|⟨x,_,hx⟩
   ·obtain⟨o',ho'⟩:=Option.isSome_iff_exists.mp hk
    exact (I.bs b o' ho').2
   ·exact I.freeC x b hx
  ·have:=PySem.W.hideAll_none as (h:=s.heap) (inAs b (Zp (PySem.W.of_hideAll _ e)) hk)
   rw[this] at e
   cases e
 ·have hb:a∈frs X.stack:=List.mem_filterMap.mpr ⟨env,he,ha⟩
  obtain⟨hn,o,ho,_⟩:=I.stack.mem hb
  refine inAs a (Zp ho) fun hk=>?_
  rcases hk with hk|⟨x,hf,hx⟩
  ·rw[hn] at hk;cases hk
  ·rcases List.mem_cons.mp (I.stkSub a hb) with e|hfs
   ·exact I.cne x a hx e
   ·obtain⟨_,o',ho',_⟩:=I.ok.funs.mem hfs
    exact absurd (Nat.lt_of_lt_of_le (Zp ho') (I.ok.cab x a hf hx)) (Nat.lt_irrefl _)
def ZiM (X:Cx)(sp:Heap->Sp)(E:XK)(t:TA):TE:=fun σ H Q=>t σ H fun vs H1=>∀base',ZiA X σ base'->sp base' vs H1 Q E
theorem Zfk {CX:XO}{k j:Nat}{x:Str}{ps:List Str}{sp:Heap->Sp}{E:XK}{e:Expr}{es:List Expr}{t:TA}{p pos:Pos}(G:∀base',Fn X.prog X.w X.K X.mg base' CX k x ps (sp base'))(hr:Y7 j X.A)(hx:W7 CX X E)(ha:PA X (e::es) t)(hk:k<=j:=by decide)
  (hg:YL X.env.scope x=true:=by kernel_rfl) (hd:(x == ("__debug__":Str))=false:=by kernel_rfl)
  (he:starEach (e::es) X.env=(false,eval e X.env)::starEach es X.env:=by rfl) (hpl:(backTo pos (starEach es X.env)).any (·.1)=false:=by rfl) :
  PE X (.Call (.Name x p) (e::es) [] pos) (ZiM X sp E t):=by
 intro pins s σ H Q I h
 obtain⟨f,fd,_,hm,kp,_⟩:=G X.base
 refine wpAny_Call_Name_kw (JR I (WT hg) hm ?_ hd)
 refine PySem.W.callWith_K (h₀:=X.base) I.ok.mod.kin kp (ZT (ha pos pins s σ H _ I h) fun us s1 ⟨vs,H1,I1,r,q⟩=>⟨I1.kIn,?_⟩) he hpl
 obtain⟨base',W,e0⟩:=ZeC I1
 obtain⟨f',fd',F',hm',kp',b'⟩:=G base'
 rw[hm] at hm'
 cases hm'
 have q':=q base' W
 have hl:us.length=ps.length:=by rw[<-r.length];exact F'.len _ _ _ _ q'
 refine wpAny_call (codeAny_mono (F'.run X.A X.stack s1 H1 ⟨us,[]⟩ us vs Q E (hr.mono hk) e0 (by have:=b' s1 us I1.kIn (by rw[List.append_nil];exact hl);rw[List.append_nil] at this;exact this) r q') fun r s' hq=>?_)
 cases r with
 |error e=>exact hx pins σ H1 s1 e s' I1 hq
 |ok fl=>
  cases fl with
  |ret u=>exact I1.after hq
  |next=>exact False.elim hq
  |brk=>exact False.elim hq
  |cont=>exact False.elim hq
end
def J5 (H:Hp)(P:Addr)(pos:Pos)(qual:Str):Prop:=∃ps,H P=some (.tbl ps)/\TriplesOk ps.toList/\(codeAmong pos ps.toList=none\/∃c,codeAmong pos ps.toList=some (.ref c)/\H c=some (W0 c qual))
def Bt (P:Addr)(H H':Hp):Prop:=∀b o,H b=some o->b≠P->H' b=some o
theorem Bt.of {P:Addr}{H H':Hp}(s:Same H H'):Bt P H H':=fun b o e _=>s b o e
theorem Bt.trans {P:Addr}{H H1 H2:Hp}(a:Bt P H H1)(b:Bt P H1 H2):Bt P H H2:=fun c o e n=>b c o (a c o e n) n
theorem J5.mono {H H':Hp}{P:Addr}{pos:Pos}{qual:Str}(s:Same H H')(t:J5 H P pos qual):J5 H' P pos qual:=by
 obtain⟨ps,h1,h2,h3⟩:=t
 refine⟨ps,s _ _ h1,h2,?_⟩
 rcases h3 with h|⟨c,h,h'⟩
 ·exact .inl h
 ·exact .inr ⟨c,h,s _ _ h'⟩
def Xp (h:Heap)(mg:Str->Option Value):Prop:=∃bm o,mg "__builtins__"=some (.ref bm)/\bm≠builtinsNs/\h.get? bm=some o/\o.cls=.type "module"/\o.dict=some builtinsNs/\o.data=.plain
theorem Xp.at {h:Heap}{mg:Str->Option Value}{P:Addr}{ps:Array Value}(B:Xp h mg)(G:h.Ns mainGlobals mg)(hP:h.get? P=some (PySem.W.tabObj ps)):h.BuiltinsAt mg P/\mainGlobals≠P:=by
 obtain⟨bm,o,b1,b2,b3,b4,b5,b6⟩:=B
 obtain⟨g,es,ep,g1,g2,_⟩:=G
 refine⟨⟨bm,o,b1,b2,fun z=>?_,fun z=>?_,b3,b4,b5,b6⟩,fun z=>?_⟩
 ·rw[z,g1] at b3;cases b3;rw[g2] at b6;cases b6
 ·rw[z,hP] at b3;cases b3;cases b6
 ·rw[z,hP] at g1;cases g1;cases g2
theorem W2 {env:Env}:∀(names:List (Str×NameKind)) (acc:List (Str×Addr)),(∀y∈names,y.2=.free->∃c,env.cells.lookup y.1=some c)->(∀y c,acc.lookup y=some c->env.cells.lookup y=some c)->
  ∃cl,(forIn names acc (fun x r=>if (x.2 == NameKind.free)=true then (do let c <-cellOf env x.1;pure (ForInStep.yield ((x.1,c)::r))) else pure (ForInStep.yield r)):Sem (List (Str×Addr)))=pure cl/\
   (∀y c,cl.lookup y=some c->env.cells.lookup y=some c)/\(∀y,(∃c,acc.lookup y=some c)->∃c,cl.lookup y=some c)/\(∀y∈names,y.2=.free->∃c,cl.lookup y.1=some c)/\∀y c,cl.lookup y=some c->(∃d,acc.lookup y=some d)\/(y,NameKind.free)∈names
 | [],acc,_,ha=>⟨acc,rfl,ha,fun _ h=>h,fun _ h=>absurd h (by simp),fun y c h=>.inl ⟨c,h⟩⟩
 | (n,k)::r,acc,hn,ha=>by
  rw[List.forIn_cons]
  by_cases hk:k=.free
  ·subst hk
   obtain⟨c,hc⟩:=hn (n,.free) List.mem_cons_self rfl
   have ha':∀y d,((n,c)::acc).lookup y=some d->env.cells.lookup y=some d:=fun y d e=>by
    rw[List.lookup_cons] at e
    cases q:y == n with
    |true=>rw[q] at e;cases e;rw[beq_iff_eq.mp q];exact hc
    |false=>rw[q] at e;exact ha y d e
   obtain⟨cl,e,h1,h2,h3,h4⟩:=W2 r ((n,c)::acc) (fun y hy=>hn y (List.mem_cons_of_mem _ hy)) ha'
   have hh:∀y,(∃d,acc.lookup y=some d)->∃d,((n,c)::acc).lookup y=some d:=fun y ⟨d,hd⟩=>by
    rw[List.lookup_cons]
    cases q:y == n with
    |true=>exact⟨c,rfl⟩
    |false=>exact⟨d,hd⟩
   have hs:∃d,((n,c)::acc).lookup n=some d:=⟨c,by rw[List.lookup_cons,beq_self_eq_true]⟩
   refine⟨cl,?_,h1,fun y hy=>h2 y (hh y hy),fun y hy hf=>?_,fun y d hd=>?_⟩
   ·have hcell:cellOf env n=pure c:=by simp only[cellOf,hc]
    simp only[beq_self_eq_true,if_true,hcell]
    simp only[pure_bind]
    exact e
   ·rcases List.mem_cons.mp hy with rfl|hy
    ·exact h2 _ hs
    ·exact h3 y hy hf
   ·rcases h4 y d hd with ⟨d',h⟩|h
    ·rw[List.lookup_cons] at h
     cases q:y == n with
     |true=>rw[beq_iff_eq.mp q];exact .inr List.mem_cons_self
     |false=>rw[q] at h;exact .inl ⟨d',h⟩
    ·exact .inr (List.mem_cons_of_mem _ h)
  ·obtain⟨cl,e,h1,h2,h3,h4⟩:=W2 r acc (fun y hy=>hn y (List.mem_cons_of_mem _ hy)) ha
   refine⟨cl,?_,h1,h2,fun y hy hf=>?_,fun y d hd=>?_⟩
   ·have hb:(k == NameKind.free)=false:=by simpa using hk
    simp only[hb,Bool.false_eq_true,if_false,pure_bind]
    exact e
   ·rcases List.mem_cons.mp hy with rfl|hy
    ·exact absurd hf hk
    ·exact h3 y hy hf
   ·rcases h4 y d hd with h|h
    ·exact .inl h
    ·exact .inr (List.mem_cons_of_mem _ h)
structure Zli (X:Cx)(scope:Scope)(cl:List (Str×Addr)):Prop where
 cells:∀y c,cl.lookup y=some c->X.env.cells.lookup y=some c
 all:∀y∈scope.names,y.2=.free->∃c,cl.lookup y.1=some c
 only:∀y c,cl.lookup y=some c->(y,NameKind.free)∈scope.names
theorem ZhS {X:Cx}{scope:Scope}(h:∀y∈scope.names,y.2=.free->∃c,X.env.cells.lookup y.1=some c):∃cl,closureFor scope X.env=pure cl/\Zli X scope cl:=by
 obtain⟨cl,e,h1,_,h3,h4⟩:=W2 (env:=X.env) scope.names [] h (fun y c e=>by simp at e)
 refine⟨cl,?_,h1,h3,fun y c hc=>?_⟩
 ·have q:closureFor scope X.env=((forIn scope.names ([]:List (Str×Addr)) (fun x r=>if (x.2 == NameKind.free)=true then (do let c <-cellOf X.env x.1;pure (ForInStep.yield ((x.1,c)::r))) else pure (ForInStep.yield r)):Sem (List (Str×Addr))) >>= fun cs=>pure cs):=rfl
  rw[q,e]
  rfl
 ·rcases h4 y c hc with ⟨d,h⟩|h
  ·cases h
  ·exact h
def Za5 (qual:Str)(params:Arguments)(body:Expr)(scope:Scope)(cl:List (Str×Addr))(pm:Value)(c:Addr)(ct:Value):Obj:=⟨.type "function",none,.func (PySem.W.kla_fn "<lambda>" qual params body scope cl pm (.ref c) ct),#[]⟩
section
variable {X:Cx}
def ZlE (X:Cx)(P:Addr)(pos:Pos)(qual:Str)(params:Arguments)(body:Expr)(scope:Scope):TE:=fun σ H Q=>J5 H P pos qual/\
 ∀f c ct cl pm H',Zli X scope cl->H f=none->Bt P H H'->J5 H' P pos qual->H' f=some (Js f (Za5 qual params body scope cl pm c ct))->H' c=some (W0 c qual)->Q (.ref f) H'
theorem Zc0 {P:Program}{w:World}{H:Hp}{h:Heap}{f:Addr}{o:Obj}(e:h.get? f=some o):ZN P w H h f (Js f o):=⟨e,⟨o,e⟩,fun _ _ h1 k=>k _ h1⟩
theorem ZfC {P:Program}{w:World}{H:Hp}{h:Heap}{c:Addr}{qual:Str}(e:h.CodeRec (.ref c) qual):ZN P w H h c (W0 c qual):=by
 refine⟨e,?_,fun h1 h2 r k=>?_⟩
 ·obtain⟨c',oc,vs,tq,hc,hoc,_⟩:=e
  cases hc
  exact⟨oc,hoc⟩
 ·obtain⟨c',oc,vs,tq,hc,hoc,r⟩:=r
  cases hc
  exact⟨c,oc,vs,tq,rfl,k _ hoc,r⟩
theorem Zi6 {c P:Addr}{params:Arguments}{body:Expr}{scope:Scope}{pos:Pos}(hcode:X.env.code=.ref c)(hc:PySem.W.codeHdIn X.K c P=true)(B:Xp X.base X.mg)(hdef:defaultsOf params X.env=([],[]))
  (hfr:∀y∈scope.names,y.2=.free->X.env.kindOf y.1=some .cell\/X.env.kindOf y.1=some .free) :
  PE X (.Lambda params body scope pos) (ZlE X P pos (X.env.qual ++ "<lambda>") params body scope):=by
 intro pins s σ H Q I h
 obtain⟨⟨ps,h1,h2,h3⟩,q⟩:=h
 obtain⟨cl,hcl,C⟩:=ZhS (X:=X) (scope:=scope) fun y hy hf=>I.ok.has y.1 (hfr y hy hf)
 have C0:=PySem.W.codeHd_of_K I.kIn hc
 have hP:s.heap.get? P=some (PySem.W.tabObj ps):=I.hok P _ h1
 have hg:s.heap.Ns mainGlobals X.mg:=I.mod.glob.keeps I.bk
 have B1:Xp s.heap X.mg:=by
  obtain⟨bm,o,b1,b2,b3,b4⟩:=B
  exact⟨bm,o,b1,b2,I.bk _ _ b3,b4⟩
 obtain⟨hb,hne⟩:=B1.at hg hP
 refine PySem.W.kla_eval hdef ?_
 rcases h3 with h3|⟨c',h3,hc'⟩
 ·refine PySem.W.kla_makeFunction hcl I.ok.glob hg hcode C0 hP h2 h3 hne hb fun c' ctv h' tk hx hge hlt hrec htb=>?_
  have hPl:P<s.heap.objs.size:=Zp hP
  have cn:H c'=none:=I.hok.fresh hge
  have hsz:s.heap.objs.size<=h'.objs.size:=Nat.le_of_lt (Nat.lt_of_le_of_lt hge hlt)
  have fn:H h'.objs.size=none:=I.hok.fresh hsz
  have cP:c'≠P:=fun z=>by rw[z,h1] at cn;cases cn
  have fP:h'.objs.size≠P:=fun z=>by rw[z,h1] at fn;cases fn
  have fc:h'.objs.size≠c':=Nat.ne_of_gt hlt
  generalize hO:Za5 (X.env.qual ++ "<lambda>") params body scope cl ((X.mg "__name__").getD .none) c' ctv=O
  generalize hps:ps ++ #[rawInt pos.line,rawInt pos.col,Value.ref c']=ps' at htb
  have lps:ps'.toList=ps.toList++[rawInt pos.line,rawInt pos.col,Value.ref c']:=by rw[<-hps];simp
  have kp:∀b o,b≠P->s.heap.get? b=some o->(h'.push O).get? b=some o:=fun b o hb e=>Zn _ (hx b o hb e)
  have hfO:(h'.push O).get? h'.objs.size=some O:=Zo _ (by rw[<-hO];rfl)
  have hPt:(h'.push O).get? P=some (PySem.W.tabObj ps'):=Zn _ htb
  have hcr:(h'.push O).CodeRec (.ref c') (X.env.qual ++ "<lambda>"):=by
   obtain⟨c2,oc,vs,tq,e1,e2,r⟩:=hrec
   exact⟨c2,oc,vs,tq,e1,Zn _ e2,r⟩
  have at1:∀b,b≠P->b≠c'->b≠h'.objs.size->upd (upd (upd H P (.tbl ps')) c' (W0 c' (X.env.qual ++ "<lambda>"))) h'.objs.size (Js h'.objs.size O) b=H b:=fun b b1 b2 b3=>by rw[Zw b3,Zw b2,Zw b1]
  have atP:upd (upd (upd H P (.tbl ps')) c' (W0 c' (X.env.qual ++ "<lambda>"))) h'.objs.size (Js h'.objs.size O) P=some (.tbl ps'):=by rw[Zw fP.symm,Zw cP.symm,Zt]
  have atC:upd (upd (upd H P (.tbl ps')) c' (W0 c' (X.env.qual ++ "<lambda>"))) h'.objs.size (Js h'.objs.size O) c'=some (W0 c' (X.env.qual ++ "<lambda>")):=by rw[Zw fc.symm,Zt]
  have atF:upd (upd (upd H P (.tbl ps')) c' (W0 c' (X.env.qual ++ "<lambda>"))) h'.objs.size (Js h'.objs.size O) h'.objs.size=some (Js h'.objs.size O):=Zt
  generalize upd (upd (upd H P (.tbl ps')) c' (W0 c' (X.env.qual ++ "<lambda>"))) h'.objs.size (Js h'.objs.size O)=H' at at1 atP atC atF
  have old:∀b u,H b=some u->b≠P->H' b=some u:=fun b u e hb=>by
   rw[at1 b hb (fun z=>by rw[z,cn] at e;cases e) (fun z=>by rw[z,fn] at e;cases e)]
   exact e
  have ltN:∀b o,s.heap.get? b=some o->b≠c'/\b≠h'.objs.size:=fun b o e=>⟨Nat.ne_of_lt (Nat.lt_of_lt_of_le (Zp e) hge),Nat.ne_of_lt (Nat.lt_of_lt_of_le (Zp e) hsz)⟩
  have nP:∀b,H b=none->b≠P:=fun b n z=>by rw[z,h1] at n;cases n
  have un:Un X.fs [] H H' s.heap (h'.push O):={
   keep:=fun b o e n _ _=>kp b o (nP b n) e
   slot:=fun b o e n _ _=>⟨o.slots,kp b o (nP b n) e⟩
   free:=fun b o e n _=>by rw[at1 b (nP b n) (ltN b o e).1 (ltN b o e).2];exact n
   there:=fun b o e _=>by
    by_cases hb:b=P
    ·rw[hb];exact⟨_,hPt⟩
    ·exact⟨o,kp b o hb e⟩
   tups:=fun b xs e=>old b _ e (fun z=>by rw[z,h1] at e;cases e)
   frzs:=fun b o u e=>old b _ e (fun z=>by rw[z,h1] at e;cases e)
   tbls:=fun b qs e=>by
    by_cases hb:b=P
    ·rw[hb,h1] at e
     cases e
     exact⟨#[rawInt pos.line,rawInt pos.col,Value.ref c'],by rw[hb,atP,hps]⟩
    ·exact⟨#[],by rw[old b _ e hb];simp⟩}
  have hok:W8 X.prog X.w H' (h'.push O):=fun b u e=>by
   by_cases b1:b=P
   ·subst b1
    rw[atP] at e
    cases e
    exact hPt
   by_cases b2:b=c'
   ·subst b2
    rw[atC] at e
    cases e
    exact ZfC hcr
   by_cases b3:b=h'.objs.size
   ·subst b3
    rw[atF] at e
    cases e
    exact Zc0 hfO
   rw[at1 b b1 b2 b3] at e
   refine (I.hok b u e).stay (fun c' v hc r=>kp c' v ?_ r) (fun c' r=>old c' _ r fun z=>by rw[z,h1] at r;cases r) fun c' xs r=>old c' _ r fun z=>by rw[z,h1] at r;cases r
   rcases hc with z|z
   ·rw[z];exact b1
   ·intro y;rw[y,h1] at z;cases z
  have I2:Inv X pins σ H' {s with heap:=h'.push O,toks:=tk}:=I.un un hok
  refine⟨.ref h'.objs.size,H',?_,rfl,?_⟩
  ·rw[<-hO] at I2
   exact I2
  ·refine q _ c' ctv cl _ H' C fn (fun b o e n=>old b o e n) ⟨ps',atP,?_,.inr ⟨c',?_,atC⟩⟩ (by rw[atF,<-hO]) atC
   ·rw[lps];exact TriplesOk_snoc _ _ _ _ h2
   ·rw[lps];exact codeAmong_snoc _ h2 h3
 ·refine PySem.W.kla_makeFunctionHit hcl I.ok.glob hg hcode C0 hP h2 h3 hb fun ctv h' tk hk hsz=>?_
  have hn:H h'.objs.size=none:=I.hok.fresh hsz
  have kp:∀b o,s.heap.get? b=some o->(h'.push (Za5 (X.env.qual ++ "<lambda>") params body scope cl ((X.mg "__name__").getD .none) c' ctv)).get? b=some o:=fun b o e=>Zn _ (hk b o e)
  have hf:(h'.push (Za5 (X.env.qual ++ "<lambda>") params body scope cl ((X.mg "__name__").getD .none) c' ctv)).get? h'.objs.size=some (Za5 (X.env.qual ++ "<lambda>") params body scope cl ((X.mg "__name__").getD .none) c' ctv):=Zo _ rfl
  refine⟨.ref h'.objs.size,upd H h'.objs.size (Js h'.objs.size (Za5 (X.env.qual ++ "<lambda>") params body scope cl ((X.mg "__name__").getD .none) c' ctv)),?_,rfl,?_⟩
  ·exact I.un (Un.laid kp hsz hn) (I.hok.laid kp hsz (Zc0 hf))
  ·have sm:=Same.upd (H:=H) (o:=Js h'.objs.size (Za5 (X.env.qual ++ "<lambda>") params body scope cl ((X.mg "__name__").getD .none) c' ctv)) hn
   exact q _ c' ctv cl _ _ C hn (.of sm) (J5.mono sm ⟨ps,h1,h2,.inr ⟨c',h3,hc'⟩⟩) Zt (sm _ _ hc')
end
structure ZgI (ts:List Addr)(H:Hp):Prop where
 only:∀b,H b=none\/(∃o xs,H b=some (.frz o (.lst xs)))\/(b∈ts/\H b=some (.tbl #[]))
 tabs:∀b∈ts,H b=some (.tbl #[])
structure TabAt (K:PySem.W.Frag)(h:Heap)(P:Addr):Prop where
 isT:isCodeTable h P
 at_:h.get? P=some (PySem.W.tabObj #[])
 noK:K.lookup P=none
theorem Zd8 {P:Program}{w:World}{K:PySem.W.Frag}{mg mb:Str->Option Value}{CX:XO}{k:Nat}{fa a:Addr}{fd:FuncData}{x:Str}{sp:Sp}{s₁:Shared}{vs:List Value}{ns:List Int}{ts:List Addr}(hts:∀b∈ts,TabAt K s₁.heap b)
  (KX:K.In s₁.heap) (hns:s₁.heap.Ns mainGlobals mg) (hb:s₁.heap.Ns builtinsNs mb) (hbb:∀x:Str,x ≠ "__name__"->mb x=bootBuiltins x) (hlim:s₁.heap.NoLimit) (hg:s₁.gens=#[])
  (ha:s₁.heap.get? a=some {cls:=.type "list",data:=.seq vs.toArray}) (hi:IntsAre vs ns) (hl:ns.length<=sizeLine) (hr:Y7 k callerA)
  (F:∀base:Heap,K.In base->base.Ns mainGlobals mg->Xp base mg->ZQ P w K mg base CX k fa fd [x] sp) (hbm:Xp s₁.heap mg) (hbind:∀(s:Shared) (u:Value),BindsTo s fd ⟨[u],[]⟩ [(x,u)])
  (hsp:∀H:Hp,ZgI ts H->Y0 K H a (ns.map V.int)->sp [.ref a] H (fun v _=>v=.bl true) fun _ _ _=>False)
  (hCX:∀H e s',CX [] H s₁ (fun _ _ _=>False) e s'->False) :
  codeAny (model P w) callerA (.call (.ref fa) ⟨[.ref a],[]⟩) (fun r s'=>r=.ok (.ret (.bool true))/\OldK s₁.heap s'.heap/\s'.os=s₁.os/\AllBare s'.gens) s₁:=by
 have rv:=VP hi
 have lenV:=hi.length
 have ant:a∉ts:=fun z=>by
  have:=(hts a z).at_
  rw[ha] at this
  cases this
 have core:∀H:Hp,ZgI ts H->Y0 K H a (ns.map V.int)->W8 P w H s₁.heap->(∀b,H b≠none->b=a\/b∈ts)->(H a≠none->K.lookup a=none)->
   codeAny (model P w) callerA (.call (.ref fa) ⟨[.ref a],[]⟩) (fun r s'=>r=.ok (.ret (.bool true))/\OldK s₁.heap s'.heap/\s'.os=s₁.os/\AllBare s'.gens) s₁:=by
  intro H hO hS hok hA hK
  have base_of:∀{b:Addr}{o:Obj},s₁.heap.get? b=some o->H b=none->(VI s₁.heap H).get? b=some o:=fun e n=>Zf2 e n
  have noA:∀{b:Addr}{o:Obj}{es:Array DictEntry}{ep:Nat},s₁.heap.get? b=some o->o.data=.dict es ep->H b=none:=fun {b o es ep} e d=>by
   cases q:H b with
   |none=>rfl
   |some u=>
    rcases hA b (by rw[q];simp) with e'|e'
    ·subst e'
     rw[ha] at e;cases e
     have d':Data.seq vs.toArray _=Data.dict es ep:=d
     cases d'
    ·rw[(hts b e').at_] at e;cases e
     cases d
  have nsK:∀{b:Addr}{m:Str->Option Value},s₁.heap.Ns b m->(VI s₁.heap H).Ns b m:=fun {b m} ⟨o,es,ep,e,d,r⟩=>⟨o,es,ep,base_of e (noA e d),d,r⟩
  have hKb:K.In (VI s₁.heap H):=fun b o e=>base_of (KX b o e) (by
   cases q:H b with
   |none=>rfl
   |some u=>
    rcases hA b (by rw[q];simp) with e'|e'
    ·subst e'
     rw[hK (by rw[q];simp)] at e;cases e
    ·rw[(hts b e').noK] at e;cases e)
  have hM:Mod K mg (VI s₁.heap H):=⟨hKb,nsK hns,⟨mb,nsK hb,hbb⟩,let ⟨mc,h1,h2⟩:=hlim;⟨mc,nsK h1,h2⟩⟩
  have e0:Zey P w K mg (VI s₁.heap H) callerA [] s₁ H:=⟨rfl,hM,fun b o e=>Zht e,Nat.le_of_eq (Zed _ _),trivial,fun b hb=>absurd (show b∈([]:List Addr) from hb) (by simp),hok,.of_eq hg⟩
  have bmK:Xp (VI s₁.heap H) mg:=by
   obtain⟨bm,o,b1,b2,b3,b4,b5,b6⟩:=hbm
   refine⟨bm,o,b1,b2,base_of b3 ?_,b4,b5,b6⟩
   cases q:H bm with
   |none=>rfl
   |some u=>
    rcases hA bm (by rw[q];simp) with e'|e'
    ·subst e'
     rw[ha] at b3;cases b3
     cases b6
    ·rw[(hts bm e').at_] at b3;cases b3
     cases b6
  refine codeAny_mono ((F _ hKb (nsK hns) bmK).run callerA [] s₁ H ⟨[.ref a],[]⟩ [.ref a] [.ref a] _ _ hr e0 (hbind s₁ (.ref a)) (.cons rfl .nil) (hsp H hO hS)) fun r s' h=>?_
  cases r with
  |error e=>exact (hCX H e s' h).elim
  |ok fl=>
   cases fl with
   |next=>exact False.elim h
   |brk=>exact False.elim h
   |cont=>exact False.elim h
   |ret u=>
    obtain⟨v,H',os,bare,un,hok',r',q⟩:=h
    have q':v=.bl true:=q
    subst q'
    obtain rfl:u=Value.bool true:=r'
    have key:∀b o,s₁.heap.get? b=some o->s'.heap.get? b=some o\/(isCodeTable s₁.heap b/\o=PySem.W.tabObj #[]/\∃ps,s'.heap.get? b=some (PySem.W.tabObj ps)):=fun b o e=>by
     cases q:H b with
     |none=>exact .inl (un.keep b o e q (by intro z;exact absurd (show b∈([]:List Addr) from z) (by simp)) (by simp))
     |some u=>
      rcases hO.only b with z|⟨ob,xs,z⟩|⟨hm,z⟩
      ·rw[q] at z;cases z
      ·have z2:=un.frzs b ob _ z
       obtain⟨e1,_⟩:=hok b _ z
       obtain⟨e2,_⟩:=hok' b _ z2
       rw[e] at e1;cases e1
       exact .inl e2
      ·obtain⟨more,z2⟩:=un.tbls b _ z
       have e1:=(hts b hm).at_
       rw[e] at e1;cases e1
       exact .inr ⟨(hts b hm).isT,rfl,_,hok' b _ z2⟩
    refine⟨rfl,⟨fun b o e=>?_,fun b o e=>?_⟩,os,bare⟩
    ·rcases key b o e with h|⟨t1,rfl,ps,hp⟩
     ·exact .inl h
     ·exact .inr (.inl ⟨t1,rfl,#[],ps,rfl,by rw[Array.empty_append];exact hp⟩)
    ·rcases key b o e with h|⟨t1,rfl,ps,hp⟩
     ·exact⟨o,h⟩
     ·exact⟨_,hp⟩
 have okT:∀{H:Hp}{b:Addr},b∈ts->ZN P w H s₁.heap b (.tbl #[]):=fun {H b} hm=>(hts b hm).at_
 cases hk:K.lookup a with
 |some o=>
  have e:=KX a o hk
  rw[ha] at e
  cases e
  refine core (fun b=>if b∈ts then some (.tbl #[]) else none) ⟨fun b=>?_,fun b hm=>if_pos hm⟩ (.inr ⟨_,vs.toArray,_,hk,rfl,rfl,rfl,by rw[Zh,lenV];exact hl,by simpa using rv⟩) (fun b u z=>?_) (fun b z=>?_) fun z=>absurd (if_neg ant) z
  ·by_cases hm:b∈ts
   ·exact .inr (.inr ⟨hm,if_pos hm⟩)
   ·exact .inl (if_neg hm)
  ·by_cases hm:b∈ts
   ·have z':=(if_pos hm).symm.trans z
    cases z'
    exact okT hm
   ·have z':=(if_neg hm).symm.trans z
    cases z'
  ·by_cases hm:b∈ts
   ·exact .inr hm
   ·exact absurd (if_neg hm) z
 |none=>
  refine core (fun b=>if b=a then some (.frz {cls:=.type "list",data:=.seq vs.toArray} (.lst (ns.map V.int))) else if b∈ts then some (.tbl #[]) else none) ⟨fun b=>?_,fun b hm=>?_⟩ (.inl (.inr ⟨{cls:=.type "list",data:=.seq vs.toArray},if_pos rfl⟩)) (fun b u z=>?_) (fun b z=>?_) fun _=>hk
  ·by_cases hb:b=a
   ·exact .inr (.inl ⟨_,_,if_pos hb⟩)
   ·by_cases hm:b∈ts
    ·exact .inr (.inr ⟨hm,by rw[if_neg hb,if_pos hm]⟩)
    ·exact .inl (by rw[if_neg hb,if_neg hm])
  ·show (if b=a then _ else if b∈ts then _ else _)=_
   rw[if_neg (fun z:b=a=>ant (z▸hm)),if_pos hm]
  ·by_cases hb:b=a
   ·have z':=(if_pos hb).symm.trans z
    cases z'
    subst hb
    exact⟨ha,by rw[Za];exact hl,vs,_,rv,ha⟩
   ·by_cases hm:b∈ts
    ·have z:(if b=a then _ else if b∈ts then some (HO.tbl #[]) else none)=some u:=z
     rw[if_neg hb,if_pos hm] at z
     cases z
     exact okT hm
    ·have z:(if b=a then _ else if b∈ts then some (HO.tbl #[]) else none)=some u:=z
     rw[if_neg hb,if_neg hm] at z
     cases z
  ·by_cases hb:b=a
   ·exact .inl hb
   ·by_cases hm:b∈ts
    ·exact .inr hm
    ·exact absurd (show (if b=a then _ else if b∈ts then _ else none)=none by rw[if_neg hb,if_neg hm]) z
def ZdE (K:PySem.W.Frag)(x:Str)(c P:Addr):Bool:=(PySem.W.tabIn K x == some (c,P)) && (K.lookup P).isNone
theorem ZeD {l:PySem.W.OpenLaw}{n k:Nat}{q:Program}{loose:List Str}{XP:(Str->Option Value)->Heap->Prop}{YP:World->Heap->Prop}{d:DefRec}{K:Params->PySem.W.Frag}{CX:World->XO}{sp:World->Sp}{x:Str}{xs:List (Str×Addr×Addr)}
  (hxs:∀w:World,∀y∈xs,ZdE (K w.params) y.1 y.2.1 y.2.2=true) (hq:∀y∈xs,((recsOf q).find? fun e=>e.name == y.1).isSome=true)
  (hn:l.most=some n) (hn2:n<=sizeLine) (hdf:d.params.defaults=[]) (hr:Y7 k callerA)
  (hY:∀(w:World) (h:Heap),YP w h->(K w.params).In h)
  (F:∀(w:World) (mg:Str->Option Value) (fa:Addr) (h:Heap),(K w.params).In h->h.Ns mainGlobals mg->mg d.name=some (.ref fa)->
   ∃fd:FuncData,(∀(s:Shared) (u:Value),BindsTo s fd ⟨[u],[]⟩ [(x,u)])/\
    ∀base:Heap,(K w.params).In base->base.Ns mainGlobals mg->Xp base mg->ZQ l.prog w (K w.params) mg base (CX w) k fa fd [x] (sp w))
  (hsp:∀(w:World) (H:Hp) (a:Addr) (ns:List Int),ns.length<=n->ZgI (xs.map (·.2.2)) H->Y0 (K w.params) H a (ns.map V.int)->sp w [.ref a] H (fun v _=>v=.bl true) fun _ _ _=>False)
  (hCX:∀(w:World) (H:Hp) (s:Shared) (e:Value) (s':Shared),CX w [] H s (fun _ _ _=>False) e s'->False) :
  PySem.W.WalkO q loose XP YP l.row.toRowW d [] (fun f vs=>PySem.call f vs):=by
 refine Att.Zbo hn hdf fun w s₀ s₁ mg mb fa o pm cd doc a vs ns G Y ho hd hcd hmg hobj hints hlen hg=>?_
 have KX:=hY w _ Y
 obtain⟨fd,hb,hF⟩:=F w mg fa _ KX G.T.g hmg
 refine Zd8 (ts:=xs.map (·.2.2)) (fun b hm=>?_) KX G.T.g G.T.b G.T.builtins G.T.nolimit hg hobj hints (Nat.le_trans hlen hn2) hr hF G.T.bmain hb (fun H hO hS=>hsp w H a ns hlen hO hS) fun H e s'=>hCX w H s₁ e s'
 obtain⟨y,hy,rfl⟩:=List.mem_map.mp hm
 have h1:=hxs w y hy
 unfold ZdE at h1
 rw[Bool.and_eq_true] at h1
 obtain⟨dd,hdd⟩:=Option.isSome_iff_exists.mp (hq y hy)
 obtain⟨C,hP⟩:=PySem.W.tab_of G.T KX hdd (by simpa using h1.1)
 exact⟨(C.tab hP).isCodeTable,hP,Option.isNone_iff_eq_none.mp h1.2⟩
theorem Zy.lawT {P:Program}{w:World}{K:PySem.W.Frag}{mg:Str->Option Value}{h:Heap}{CX:XO}{k:Nat}{x:Str}{p:Str}{sp:Sp}{st:Stmt}{fa:Addr}(D:Zy K x st)(X:K.In h)(G:h.Ns mainGlobals mg)(hfa:mg x=some (.ref fa))
  (hok:∀(base:Heap) f fd,base.Ns mainGlobals mg->K.In base->Xp base mg->Wf K x x st f fd->ZQ P w K mg base CX k f fd [p] sp)
  (hb:∀(kV doc pm:Value) (an:Option Addr) (cdv ct:Value) (s:Shared) (u:Value),BindsTo s (PySem.W.fnOf x x (Yq st) (ZX st) (ZH st) .none kV doc pm an cdv ct) ⟨[u],[]⟩ [(p,u)]) :
  ∃fd:FuncData,(∀(s:Shared) (u:Value),BindsTo s fd ⟨[u],[]⟩ [(p,u)])/\∀base:Heap,K.In base->base.Ns mainGlobals mg->Xp base mg->ZQ P w K mg base CX k fa fd [p] sp:=by
 obtain⟨f,oc,od,an,osl,kV,doc,pm,cdv,ct,a,l,c,kp⟩:=D
 have e:=hfa.symm.trans (PySem.W.mg_of X G a)
 cases e
 exact⟨_,fun s u=>hb kV doc pm an cdv ct s u,fun base kb nb bb=>hok base _ _ nb kb bb (Zcc l c kp)⟩
end L2
namespace C23
open PySem L2 PySem.Spec PyProof.Rows
open Tb Pm
structure KS (kvs:List (Z0×V))(ks:List Nat):Prop where
 keys:kvs.map (·.1)=ks.map fun a:Nat=>(Sum.inl (a:Int):Z0)
 nd:ks.Nodup
theorem KS.len {kvs:List (Z0×V)}{ks:List Nat}(h:KS kvs ks):kvs.length=ks.length:=by
 have:=congrArg List.length h.keys
 rwa [Za,Za] at this
theorem KS.some {kvs:List (Z0×V)}{ks:List Nat}(h:KS kvs ks)(a:Nat):(WF kvs (.inl (a:Int))).isSome=ks.contains a:=by
 rw[<-WI]
 have e:(kvs.any fun kv=>decide (kv.1=(.inl (a:Int):Z0)))=(kvs.map (·.1)).any fun k=>decide (k=(.inl (a:Int):Z0)):=by rw[List.any_map];rfl
 rw[e,h.keys,List.any_map]
 by_cases hm:a∈ks
 ·rw[List.contains_iff_mem.mpr hm,List.any_eq_true]
  exact⟨a,hm,by simp⟩
 ·have hc:ks.contains a=false:=by
   cases hc:ks.contains a with
   |false=>rfl
   |true=>exact absurd (List.contains_iff_mem.mp hc) hm
  rw[hc,List.any_eq_false]
  intro b hb z
  have z:=of_decide_eq_true z
  injection z with z
  have:b=a:=by omega
  exact hm (this▸hb)
theorem KS.put {kvs:List (Z0×V)}{ks:List Nat}(h:KS kvs ks)(a:Nat)(v:V):KS (Yf kvs (.inl (a:Int)) v) (if ks.contains a then ks else ks++[a]):=by
 have hs:=h.some a
 by_cases hm:ks.contains a=true
 ·rw[if_pos hm]
  rw[hm] at hs
  refine⟨?_,h.nd⟩
  unfold Yf
  rw[if_pos (by rw[WI];exact hs),List.map_map,<-h.keys]
  refine List.map_congr_left fun kv _=>?_
  show (if kv.1=_ then (kv.1,v) else kv).1=kv.1
  split <;> rfl
 ·rw[if_neg hm]
  have hn:WF kvs (.inl (a:Int))=none:=by
   cases hv:WF kvs (.inl (a:Int)) with
   |none=>rfl
   |some x=>rw[hv] at hs;exact absurd hs.symm hm
  rw[Zfe v hn]
  refine⟨by rw[List.map_append,List.map_append,h.keys];rfl,?_⟩
  rw[List.nodup_append]
  refine⟨h.nd,by simp,fun b hb c hc z=>hm ?_⟩
  rw[List.mem_singleton.mp hc] at z
  exact List.contains_iff_mem.mpr (z▸hb)
theorem Zhw:∀ns:List Nat,PyData.canLayAll0 (ns.map fun k:Nat=>PyData.int (k:Int))=true
 | []=>rfl
 |n::ns=>Zhw ns
theorem ZhA:∀ns:List Nat,PyData.depthAll (ns.map fun k:Nat=>PyData.int (k:Int))=0
 | []=>rfl
 |n::ns=>by
  show max 0 (PyData.depthAll (ns.map fun k:Nat=>PyData.int (k:Int)))=0
  rw[ZhA ns]
  rfl
theorem ZcI (ns:List Nat):SeqAt.shaped (.list (ns.map fun k:Nat=>PyData.int (k:Int)))=true:=by
 unfold SeqAt.shaped
 have h1:PyData.canLay0 (.list (ns.map fun k:Nat=>PyData.int (k:Int)))=true:=Zhw ns
 have h2:PyData.depth (.list (ns.map fun k:Nat=>PyData.int (k:Int)))<=64:=by
  show PyData.depthAll (ns.map fun k:Nat=>PyData.int (k:Int))+1<=64
  rw[ZhA ns]
  omega
 simp only[h1,Bool.true_and,Bool.and_true,decide_eq_true_eq]
 exact h2
structure WD (n:Nat)(On:Nat->List Nat)(fd ln:List Nat)(ex:Nat->Prop):Prop where
 z:0∈fd
 nd:fd.Nodup
 lt:∀x∈fd,x<n
 rch:∀x∈fd,Y5 On x
 sub:∀x∈ln,x∈fd
 cl:∀x∈fd,x∉ln->¬ex x->∀y∈On x,y∈fd
theorem WD.len {n:Nat}{On:Nat->List Nat}{fd ln:List Nat}{ex:Nat->Prop}(h:WD n On fd ln ex):fd.length<=n:=V4 n fd h.nd h.lt
theorem WD.add {n:Nat}{On:Nat->List Nat}{fd ln:List Nat}{ex:Nat->Prop}(h:WD n On fd ln ex){y:Nat}(hy:y∉fd)(hl:y<n)(hr:Y5 On y):WD n On (fd++[y]) (ln++[y]) ex where
 z:=List.mem_append_left _ h.z
 nd:=List.nodup_append.mpr ⟨h.nd,by simp,fun a ha b hb=>by rw[List.mem_singleton.mp hb];rintro rfl;exact hy ha⟩
 lt:=fun x hx=>(List.mem_append.mp hx).elim (h.lt x) fun hx=>by rw[List.mem_singleton.mp hx];exact hl
 rch:=fun x hx=>(List.mem_append.mp hx).elim (h.rch x) fun hx=>by rw[List.mem_singleton.mp hx];exact hr
 sub:=fun x hx=>(List.mem_append.mp hx).elim (fun hx=>List.mem_append_left _ (h.sub x hx)) fun hx=>List.mem_append_right _ hx
 cl:=fun x hx hn he z hz=>by
  rcases List.mem_append.mp hx with hx|hx
  ·exact List.mem_append_left _ (h.cl x hx (fun q=>hn (List.mem_append_left _ q)) he z hz)
  ·exact absurd (List.mem_append_right _ hx) hn
theorem WD.done {n:Nat}{On:Nat->List Nat}{fd:List Nat}(h:WD n On fd [] fun _=>False)(x:Nat):x∈fd↔x∈prtL n On:=by
 constructor
 ·intro hx
  exact Z7.mpr ⟨h.lt x hx,h.rch x hx⟩
 ·intro hx
  exact (Z7.mp hx).2.sub h.z fun x hx=>h.cl x hx (by simp) (fun z=>z)
theorem Zcz {n:Nat}{On:Nat->List Nat}{fd:List Nat}{ns:List Int}(h:WD n On fd [] fun _=>False)(hp:List.Perm ns (fd.map fun a:Nat=>(a:Int)))(hs:ns.Pairwise (· ≤ ·)):ns.map V.int=(prtL n On).map nV:=by
 refine XH hp hs ?_ (fun k=>?_) Wl
 ·exact List.Pairwise.map _ (fun a b (e:a≠b)=>by omega) h.nd
 ·rw[List.mem_map]
  constructor
  ·rintro⟨a,ha,rfl⟩;exact⟨a,(h.done a).mp ha,rfl⟩
  ·rintro⟨a,ha,rfl⟩;exact⟨a,(h.done a).mpr ha,rfl⟩
abbrev Ze1:Stmt:=top 45
def ZcD:Sp:=fun vs H Q _=>∃(g L:Addr) (t:List (List Nat)) (gs:List Nat),vs=[.ref g,.ref L]/\GT H g t/\PW t/\H L=some (.lst (gs.map nV))/\gs.length<=4000/\(∀x∈gs,x<t.length)/\∀r H',Same H H'->H' r=some (.tup ((prtL t.length (YQ t gs)).map nV))->Q (.ref r) H'
section
variable {P:Program}{w:World}{K:PySem.W.Frag}{mg:Str->Option Value}{base:Heap}
theorem Zhm {f:Addr}{fd:FuncData}(F:Wf K "_law_part" "_law_part" Ze1 f fd)(T:Bl mg)(T2:Zao mg):ZQ P w K mg base Z2 1 f fd ["_law_group_here", "_law_things_here"] ZcD:=by
 refine F.ok (FS (N:=["_law_group_here", "_law_things_here", "_law_found", "_law_line", "_law_here", "_law_one", "_law_later"])) (fun vs H Q E h=>?_) (fun cdv A outer s H vs Q E hr h=>?_)
 ·obtain⟨g,L,t,gs,rfl,_⟩:=h;rfl
 ·obtain⟨g,L,t,gs,rfl,G,Pt,hL,gl,glt,q⟩:=h
  have hu:(A.deeper (envOfC "_law_part" (ZH Ze1) s.heap.objs.size f cdv)).units+1<cLine:=by have:=hr.un;omega
  refine⟨_,Zu (ZR 2 rfl (UR (WN Zz Yo UL) rfl rfl (by simp) (by decide)))
   (Zu (ZR 3 rfl (Ya (pc Zz Zs)))
   (Zu (JL PassesOwn.never (ZF (neC K hr.units) (vn 3) (Ya Zs) (ZM _))
    (Zu (ZR 4 rfl (Zfo PySem.F.plainAttrs_list PySem.F.slot_list_pop PySem.F.type_list_pop ZfI (vn 3)))
    (Zv (Z5 PassesOwn.never rfl (itL K (vn 1)) (gn 5)
     (Zu (ZR 6 rfl (ZE (Wn K) (ZE (Wn K) (vn 0) (vn 4) (fun _ _=>rfl)) (vn 5) (fun _ _=>rfl)))
     (Zv (Z3 (Zfg (V3 hu (vn 6) (vn 2)))
      (Zu (JM hu (vn 2) (vn 6) Yo (by rfl))
      (Zv (Y9 (JO PySem.F.plainAttrs_list PySem.F.slot_list_append PySem.F.type_list_append Yk (vn 3) (pc (vn 6) Zs))))) ZJ)))))))
   (Zv (ZC (ct ZI T.tuple (pc (cb (Vx rfl) T2.sorted (pc (vn 2) Zs)) Zs)))))),?_⟩
  have sz:(16777216:Nat)=sizeLine:=by decide
  have n1:=Pt.n1
  have n60:=Pt.n60
  intro D nD
  refine⟨Zt,[(.inl 0,.bl true)],rfl,(by show 1<=15;decide),?_⟩
  have s1:Same H (upd (upd H D (.dK [])) D (.dK (Yz [] [(.inl 0,.bl true)]))):=Same.upd2 nD
  have hD1:=Zt (H:=upd H D (.dK [])) (a:=D) (o:=.dK (Yz [] [(.inl 0,.bl true)]))
  generalize upd (upd H D (.dK [])) D (.dK (Yz [] [(.inl 0,.bl true)]))=H1 at s1 hD1 ⊢
  have KS0:KS (Yz [] [(Sum.inl 0,V.bl true)]) [0]:=⟨rfl,by simp⟩
  refine⟨(by show 1<=sizeLine;decide),fun Ln nL1=>?_⟩
  have nLn:H Ln=none:=s1.free nL1
  have s2:=s1.trans (Same.upd (o:=.lst [.int 0]) nL1)
  have hD2:=Same.upd (o:=.lst [.int 0]) nL1 _ _ hD1
  have hL2:=Zt (H:=H1) (a:=Ln) (o:=.lst [.int 0])
  generalize upd H1 Ln (.lst [.int 0])=H2 at s2 hD2 hL2 ⊢
  generalize hOn:YQ t gs=On at q
  have onlt:∀a,a<t.length->∀b∈On a,b<t.length:=by rw[<-hOn];exact Vg Pt glt
  have I0:WD t.length On [0] [0] fun _=>False:=⟨by simp,by simp,fun x hx=>by rw[List.mem_singleton.mp hx];exact n1,fun x hx=>by rw[List.mem_singleton.mp hx];exact .zero,fun x hx=>hx,fun x hx hn=>absurd hx hn⟩
  refine Jy (fun m σ' H'=>∃(kvs:List (Z0×V)) (fd ln:List Nat) (v4 v5 v6:Option V),σ'=[some (.ref g),some (.ref L),some (.ref D),some (.ref Ln),v4,v5,v6]/\Same H H'/\H' D=some (.dK kvs)/\KS kvs fd/\H' Ln=some (.lst (ln.map nV))/\WD t.length On fd ln (fun _=>False)/\ln.length<=fd.length/\m=2*(t.length-fd.length)+ln.length)
   (fun σ' H'=>∃(kvs:List (Z0×V)) (fd:List Nat) (v4 v5 v6:Option V),σ'=[some (.ref g),some (.ref L),some (.ref D),some (.ref Ln),v4,v5,v6]/\Same H H'/\H' D=some (.dK kvs)/\KS kvs fd/\WD t.length On fd [] (fun _=>False)) ?hend ⟨_,_,[0],[0],_,_,_,rfl,s2,hD2,KS0,hL2,I0,Zq _,rfl⟩ ?turn
  case hend=>
   rintro σ' H' ⟨kvs,fd,v4,v5,v6,rfl,sm,hD,hK,I⟩
   have fl:=I.len
   refine⟨_,rfl,D,kvs,fd.map fun a:Nat=>(a:Int),rfl,hD,by rw[hK.keys,List.map_map];rfl,by rw[Za];omega,fun l ns nl hp hs=>?_⟩
   refine⟨l,_,rfl,.inl ⟨.of Zt,fun r nr=>?_⟩⟩
   refine q r _ ((sm.trans (Same.upd nl)).trans (Same.upd nr)) ?_
   rw[Zt,Zcz I hp hs]
  case turn=>
   rintro hend m σ' H' ⟨kvs,fd,ln,v4,v5,v6,rfl,sm,hD,hK,hLn,I,ll,hm⟩
   have fl:=I.len
   refine⟨_,rfl,(by show 0<=sizeLine;decide),fun e0 ne0=>?_⟩
   have sE:=Same.upd (H:=H') (o:=.lst []) ne0
   have hDE:=sE _ _ hD
   have hLE:=sE _ _ hLn
   have smE:=sm.trans sE
   refine⟨_,_,.lst (.of hLE) (WM ln),.lst (.of Zt) .nil,ZcI ln,rfl,_,rfl,?_⟩
   generalize upd H' e0 (.lst [])=HE at hDE hLE smE ⊢
   rw[U8]
   by_cases hz:ln=[]
   ·subst hz
    exact YI (by decide) (hend _ _ ⟨kvs,fd,v4,v5,v6,rfl,smE,hDE,hK,I⟩)
   ·have lpos:0<ln.length:=List.length_pos_iff.mpr hz
    refine Xe (by rw[List.isEmpty_map];cases ln with|nil=>exact absurd rfl hz|cons a r=>rfl) ?_
    obtain⟨ln0,cur,rfl⟩:∃ln0 cur,ln=ln0++[cur]:=⟨ln.dropLast,ln.getLast hz,(List.dropLast_concat_getLast hz).symm⟩
    have hcf:cur∈fd:=I.sub cur (List.mem_append_right _ List.mem_cons_self)
    have hcl:=I.lt cur hcf
    refine⟨_,fun _ _ z=>z,_,rfl,.inl ⟨rfl,_,.of hLE⟩,Ln,_,nV cur,rfl,rfl,hLE,by rw[List.map_append,Zd,Za];show (ln0.map nV++[nV cur])[ln0.length+1-1]?=_;rw[Nat.add_sub_cancel,List.getElem?_append_right (by rw[Za];exact Zq _),Za,Nat.sub_self];rfl,?_⟩
    have edl:((ln0++[cur]).map nV).dropLast=ln0.map nV:=by rw[List.map_append];exact List.dropLast_concat
    rw[edl]
    have hDL:D≠Ln:=fun z=>by rw[z,hLE] at hDE;cases hDE
    have smP:=smE.updr (o:=.lst (ln0.map nV)) nLn
    have hDP:upd HE Ln (.lst (ln0.map nV)) D=some (.dK kvs):=by rw[Zw hDL];exact hDE
    have hLP:=Zt (H:=HE) (a:=Ln) (o:=.lst (ln0.map nV))
    generalize upd HE Ln (.lst (ln0.map nV))=HP at smP hDP hLP ⊢
    have IP:WD t.length On fd ln0 fun x=>x=cur:=⟨I.z,I.nd,I.lt,I.rch,fun x hx=>I.sub x (List.mem_append_left _ hx),fun x hx hn he=>I.cl x hx (fun z=>(List.mem_append.mp z).elim hn fun z=>he (List.mem_singleton.mp z)) (fun z=>z)⟩
    rw[Zd,Zk] at ll hm
    refine⟨_,rfl,L,rfl,⟨_,.of (smP _ _ hL)⟩,?_⟩
    refine Je (H0:=H) (Y8 (K:=K) (.of hL)) (fun i τ HH=>∃(kvs':List (Z0×V)) (fd' ln':List Nat) (w5 w6:Option V),τ=[some (.ref g),some (.ref L),some (.ref D),some (.ref Ln),some (.int (cur:Nat)),w5,w6]/\Same H HH/\HH D=some (.dK kvs')/\KS kvs' fd'/\HH Ln=some (.lst (ln'.map nV))/\WD t.length On fd' ln' (fun x=>x=cur)/\cur∈fd'/\(∀x∈gs.take i,ZA t cur x∈fd')/\fd.length+ln'.length=fd'.length+ln0.length/\fd.length<=fd'.length)
     ⟨_,fd,ln0,_,_,rfl,smP,hDP,hK,hLP,IP,hcf,fun x hx=>(by cases hx),rfl,Zq _⟩ (fun i τ HH h=>by obtain⟨_,_,_,_,_,_,hs,_⟩:=h;exact hs) ?_ ?_
    ·rintro i y τ H8 hy ⟨kvs',fd',ln',w5,w6,rfl,s8,hD8,hK8,hL8,I8,hc8,hg8,e8,f8⟩
     obtain⟨x,hx,rfl⟩:=Yx hy
     have hxg:=List.mem_of_getElem? hx
     have hxl:=glt x hxg
     obtain⟨rs,r2,g1,_,g2,g3,g4⟩:=(G.mono s8).at Pt hcl
     refine⟨_,rfl,_,rfl,g,_,_,_,rfl,rfl,.of g1,g2,_,rfl,r2,_,_,_,rfl,rfl,g3.sq,g4 x hxl,?_⟩
     have hml:=Pt.lt _ _ hcl hxl
     have hon:ZA t cur x∈On cur:=by rw[<-hOn];exact List.mem_map.mpr ⟨x,hxg,rfl⟩
     have tk:∀z,z∈gs.take (i+1)->z∈gs.take i\/z=x:=fun z hz=>by
      rw[List.take_add_one,hx] at hz
      rcases List.mem_append.mp hz with h|h
      ·exact .inl h
      ·exact .inr (List.mem_singleton.mp h)
     refine⟨_,rfl,_,rfl,D,_,rfl,WH.k (k:=.inl ((ZA t cur x:Nat):Int)) hD8,_,rfl,?_⟩
     rw[hK8.some]
     have fl8:=I8.len
     refine JS (fun hn=>?_) (fun hn=>?_)
     ·have hn:ZA t cur x∉fd':=fun z=>by
       rw[List.contains_iff_mem.mpr z] at hn
       cases hn
      refine⟨_,rfl,_,rfl,D,_,rfl,Xo.k (k:=.inl ((ZA t cur x:Nat):Int)) hD8 (by rw[hK8.len];omega),?_⟩
      have hDL8:D≠Ln:=hDL
      have hL9:upd H8 D (.dK (Yf kvs' (.inl ((ZA t cur x:Nat):Int)) (.bl true))) Ln=some (.lst (ln'.map nV)):=by rw[Zw (Ne.symm hDL8)];exact hL8
      have s9:Same H (upd H8 D (.dK (Yf kvs' (.inl ((ZA t cur x:Nat):Int)) (.bl true)))):=s8.updr nD
      have hD9:=Zt (H:=H8) (a:=D) (o:=.dK (Yf kvs' (.inl ((ZA t cur x:Nat):Int)) (.bl true)))
      have hK9:=hK8.put (ZA t cur x) (.bl true)
      have ec:fd'.contains (ZA t cur x)=false:=by
       cases q:fd'.contains (ZA t cur x) with
       |false=>rfl
       |true=>exact absurd (List.contains_iff_mem.mp q) hn
      rw[ec,if_neg (by decide)] at hK9
      generalize upd H8 D (.dK (Yf kvs' (.inl ((ZA t cur x:Nat):Int)) (.bl true)))=H9 at hL9 s9 hD9 ⊢
      have I9:=I8.add hn hml (.step (I8.rch cur hc8) hon)
      have fl9:=I9.len
      rw[Zd,Zk] at fl9
      refine⟨_,rfl,.inl ⟨rfl,_,.of hL9⟩,_,rfl,Ln,_,_,rfl,rfl,hL9,by rw[Za];omega,?_⟩
      refine⟨_,fd'++[ZA t cur x],ln'++[ZA t cur x],_,_,rfl,s9.updr nLn,by rw[Zw hDL];exact hD9,hK9,by rw[Zt,List.map_append];rfl,I9,List.mem_append_left _ hc8,fun z hz=>?_,by rw[Zd,Zd];omega,by rw[Zd];omega⟩
      rcases tk z hz with h|h
      ·exact List.mem_append_left _ (hg8 z h)
      ·rw[h];exact List.mem_append_right _ List.mem_cons_self
     ·have hn:ZA t cur x∈fd':=by
       cases q:fd'.contains (ZA t cur x) with
       |true=>exact List.contains_iff_mem.mp q
       |false=>exact absurd (show (!fd'.contains (ZA t cur x))=true by rw[q];rfl) (by simpa using hn)
      refine⟨_,fd',ln',_,_,rfl,s8,hD8,hK8,hL8,I8,hc8,fun z hz=>?_,e8,f8⟩
      rcases tk z hz with h|h
      ·exact hg8 z h
      ·rw[h];exact hn
    ·rintro τ H8 ⟨kvs',fd',ln',w5,w6,rfl,s8,hD8,hK8,hL8,I8,hc8,hg8,e8,f8⟩
     rw[Za,List.take_length] at hg8
     have fl8:=I8.len
     refine⟨2*(t.length-fd'.length)+ln'.length,by omega,kvs',fd',ln',_,_,_,rfl,s8,hD8,hK8,hL8,⟨I8.z,I8.nd,I8.lt,I8.rch,I8.sub,fun x hx hn _=>?_⟩,by omega,rfl⟩
     by_cases hxc:x=cur
     ·rw[hxc,<-hOn]
      intro y hy
      obtain⟨z,hz,rfl⟩:=List.mem_map.mp hy
      exact hg8 z hz
     ·exact I8.cl x hx hn hxc
end
end C23
namespace HT
open PySem PyProof.Rows
open PySem.SeqAt
open PySem.AutoSeq1 (wpAny_loadPart' idx_int)
open PySem.MeetsSeq PySem.MeetsSeq2 PySem.MeetsSeq3
set_option maxRecDepth 8000 in
theorem Zd6 (l:Addr)(items:Array Value)(n:Nat)(b:Addr)(items2:Array Value)(n2:Nat)(dd:Option Addr)(sl:Array (Option Value))(hs0:¬(!items.isEmpty && Builtin.List.listTooLong (items.size+items2.size))=true)(hs1:items.size<=sizeLine)(hs2:items.size+items2.size<=sizeLine+1) :
  Meets (Builtin.«list.extend» ⟨[.ref l,.ref b],[]⟩) (fun _ R s=>s.heap.get? l=some {cls:=.type "list",dict:=none,data:=.seq items n,slots:=#[]}/\s.heap.get? b=some {cls:=.type "tuple",dict:=dd,data:=.seq items2 n2,slots:=sl}/\R (.ok (.ret Value.none)) {s with heap:=s.heap.update l (Obj.mapSeq fun x=>x++items2),toks:=s.toks}):=
 .of_wp fun prog w A R s h=>by
  obtain⟨hp,g,d,tk,os⟩:=s;obtain⟨hl,hb,h⟩:=h;have f1:=idx_int;have f2:=PySem.AutoSeq1.sub_tuple_tuple;have f3:=PySem.AutoSeq1.sub_list_list;have f4:=PySem.AutoSeq1.sub_tuple_list;have f5:=PySem.AutoSeq1.sub_list_tuple
  have hz':(items++items2).size<=sizeLine+1:=by rw[Array.size_append];exact hs2
  wp_walk using (wpAny_updateSeq hl rfl (hz:=hs1) (_hz':=hz')),wpAny_loadPart' hl,wpAny_loadPart' hb
  exact⟨_,rfl,h⟩
end HT
namespace L2
open PySem PySem.Spec PyProof.Rows
section
variable {X:Cx}
def ZkF:V->List V->Hp->VK->Prop:=fun x vs H Q=>∃l b xs zs,x=.ref l/\vs=[.ref b]/\H l=some (.lst xs)/\H b=some (.tup zs)/\xs.length+zs.length<=sizeLine/\Q .non (upd H l (.lst (xs++zs)))
theorem ZhB:MtM X "list.extend" ZkF:=by
 intro pins s σ H x vs v us Q I rx rv h
 obtain⟨l,b,xs,zs,rfl,rfl,hH,hB,hz,q⟩:=h
 cases rx
 obtain⟨u,rfl,ru⟩:=rv.one
 cases ru
 obtain⟨z,its,n,r,hl,e⟩:=I.lstM hH
 obtain⟨its2,r2,p2,z2⟩:=I.tuple (Wu.of hB)
 obtain⟨⟨cls2,dd2,data2,sl2⟩,ho2,hc2,n2,hd2⟩:=id p2
 simp only at hc2 hd2
 subst hc2 hd2
 have hl2:zs.length=its2.length:=r2.length
 have hsz:its.toArray.size+its2.toArray.size<=sizeLine:=by rw[Zh,Zh];omega
 have hlong:¬(!its.toArray.isEmpty && Builtin.List.listTooLong (its.toArray.size+its2.toArray.size))=true:=by
  rw[ZaS hsz,Bool.and_false]
  exact Bool.false_ne_true
 refine call_meets F.slot_list_extend ⟨_,e,rfl⟩ F.entry_list_extend (F.args_list_extend_2 _ _)
  (HT.Zd6 l its.toArray n b its2.toArray n2 dd2 sl2 hlong (by rw[Zh];omega) (by omega)) ⟨e,ho2,?_⟩
 refine⟨.non,_,I.lset (its':=its++its2) hH e (by simp) (r.append r2) ?_,rfl,q⟩
 rw[Zd]
 omega
end
end L2
namespace C23
open PySem L2 PySem.Spec PyProof.Rows
open Tb Pm
abbrev Zib:Stmt:=top 46
def ZbJ:Sp:=fun vs H Q _=>∃(p g:Addr) (b:Nat) (t:List (List Nat)),vs=[.ref p,.ref g]/\Yc H p b/\b+100<2 ^ 60/\GT H g t/\PW t/\∀L (gs:List Nat) H',Tk p H H'->Yc H' p (b+3)->H L=none->H' L=some (.lst (gs.map nV))->gs.length<=2->(∀x∈gs,x<t.length)->Q (.ref L) H'
theorem GT.tk {H H':Hp}{p g:Addr}{b:Nat}{t:List (List Nat)}(T:Yc H p b)(d:Tk p H H')(G:GT H g t):GT H' g t:=by
 obtain⟨rs,h1,h2,h3⟩:=G
 refine⟨rs,d.tup T h1,h2,fun i r hr=>?_⟩
 obtain⟨o,e1,e2⟩:=h3 i r hr
 exact⟨o,d _ _ e1 (T.ne e1 fun _ z=>by cases z),e2⟩
theorem GT.len {K:PySem.W.Frag}{H:Hp}{g:Addr}{t:List (List Nat)}(G:GT H g t):∃xs:List V,Wu K H g xs/\xs.length=t.length:=by
 obtain⟨rs,h1,h2,_⟩:=G
 exact⟨_,.of h1,by rw[Za];exact h2⟩
section
variable {P:Program}{w:World}{K:PySem.W.Frag}{mg:Str->Option Value}{base:Heap}
theorem Zhk {f:Addr}{fd:FuncData}(F:Wf K "_law_some" "_law_some" Zib f fd)(T:Bl mg)(GK:Fn P w K mg base Z2 1 "_law_pick" ["_law_tape_here", "_law_many"] Us):ZQ P w K mg base Z2 2 f fd ["_law_tape_here", "_law_group_here"] ZbJ:=by
 refine F.ok (FS (N:=["_law_tape_here", "_law_group_here"])) (fun vs H Q E h=>?_) (fun cdv A outer s H vs Q E hr h=>?_)
 ·obtain⟨p,g,b,t,rfl,_⟩:=h;rfl
 ·obtain⟨p,g,b,t,rfl,T0,hb,G,Pt,q⟩:=h
  refine⟨_,Zv (ZC (cmp ["_law_k"] [1,0] ["_law_k", "_law_group_here", "_law_tape_here"] rfl (JJ T.range (pc (We GK hr ZK (pc (vn 0) (pc Zz Zs))) Zs)) (fun _ _ _ _ _=>gn 0) (fun _ _ _ _ _=>ZW)
   (fun _ _ _ _ _=>We GK hr ZK (pc (vn 2) (pc (cb (YA K) (by exact T.len) (pc (vn 1) Zs)) Zs))))),?_⟩
  have n1:=Pt.n1
  have n60:=Pt.n60
  refine⟨_,rfl,p,3,b,rfl,T0,by omega,by decide,by decide,fun r H1 a0 a1 k1 T1=>?_⟩
  obtain⟨j,rfl⟩:=Int.eq_ofNat_of_zero_le a0
  have hj:j<3:=by omega
  have G1:=GT.tk T0 k1 G
  refine⟨_,rfl,by omega,by omega,?_⟩
  rw[Zj]
  have rl:((YG 0 j).map V.int).length=j:=by rw[Za,YF]
  refine Vt (xs:=(YG 0 j).map V.int) (fun D i ys H'=>Tk p H1 H'/\Yc H' p (b+1+i)/\∃gs:List Nat,ys=gs.map nV/\gs.length=i/\∀x∈gs,x<t.length) [some (.ref g),some (.ref p)] rfl (by rw[rl];omega) ?_ ?_ ?_ ?_
  ·intro D i ys H' hD hD' _
   have S:=JG (H:=H') 0 j
   exact⟨fun hi=>⟨S.go i H' (Same.refl _) hi,fun x H3' y=>S.yld i H' x H3' (Same.refl _) hi y⟩,fun e=>e▸S.stop H' (Same.refl _)⟩
  ·intro D hD
   exact⟨Tk.of (Same.upd hD),T1.mono (Same.upd hD),[],rfl,rfl,fun x hx=>by cases hx⟩
  ·rintro D i y ys H' hD hD' hy ⟨kD,TD,gs,rfl,gl,glt⟩ R k
   obtain⟨xs,h1,h2⟩:=GT.len (K:=K) (GT.tk T1 kD G1)
   refine⟨_,rfl,_,rfl,g,xs,rfl,.inr h1,p,_,_,rfl,TD,by have:=(List.getElem?_eq_some_iff.mp hy).1;omega,by omega,by omega,fun r5 H5 c0 c1 k5 T5=>?_⟩
   rw[h2] at c1
   obtain⟨x,rfl⟩:=Int.eq_ofNat_of_zero_le c0
   have nD:=T1.neN hD
   refine k _ H5 (k5 _ _ hD' nD) ⟨?_,?_,gs++[x],by rw[List.map_append];rfl,by rw[Zd,gl];rfl,fun z hz=>?_⟩
   ·intro b' o e ne
    rw[Zw fun z=>by rw[z,hD] at e;cases e]
    exact (kD.trans k5) b' o e ne
   ·obtain⟨c,l,m,h1,h2⟩:=T5
    exact⟨c,l,m,by rw[Zw (Ne.symm nD)];exact h1,h2⟩
   ·rcases List.mem_append.mp hz with h|h
    ·exact glt z h
    ·rw[List.mem_singleton.mp h];omega
  ·rintro D ys H5 hD hD' hyl ⟨kD,TD,gs,rfl,gl,glt⟩
   rw[rl] at *
   refine q D gs H5 (k1.trans kD) (TD.le (by omega)) ?_ hD' (by omega) glt
   cases e:H D with
   |none=>rfl
   |some o=>have:=k1 D o e (T1.neN hD);rw[hD] at this;cases this
end
end C23
namespace L2
open PySem PySem.Spec PyProof.Rows
section
variable {X:Cx}
theorem Zeu:ZP X (.builtin "len") (fun xs H Q=>∃a kvs,xs=[V.ref a]/\H a=some (.dK kvs)/\Q (.int kvs.length) H):=by
 intro pins s σ H xs us Q I r h
 obtain⟨a,kvs,rfl,ha,q⟩:=h
 obtain⟨u,rfl,ru⟩:=vals1 r
 cases ru
 exact Zk6 I (.inl ha) fun t s' I'=>⟨.int kvs.length,H,I',⟨t,rfl⟩,q⟩
end
theorem XZ {H:Hp}{a:Addr}{o:HO}(e:H a=some o):Same (upd (fun _=>none) a o) H:=by
 intro b o' h
 by_cases hb:b=a
 ·subst hb
  rw[Zt] at h
  cases h
  exact e
 ·rw[Zw hb] at h
  cases h
end L2
namespace C23
open PySem L2 PySem.Spec PyProof.Rows
open Tb Pm
abbrev X2:Stmt:=top 18
structure Zl8 (P:Program)(w:World)(K:PySem.W.Frag)(mg:Str->Option Value)(base:Heap)(n:Nat)(On:Nat->List Nat)(Ev:Hp->Prop)(f:Addr):Prop where
 mono:∀H H',Same H H'->Ev H->Ev H'
 fn:∃oc od fd sl sp,(∀H,Ev H->H f=some (Js f ⟨oc,od,.func fd,sl⟩))/\ZQ P w K mg base Z2 1 f fd ["a"] sp/\Binds K fd ["a"] []/\∀H (a:Nat) Q,Ev H->a<n->(∀L H',Same H H'->H L=none->H' L=some (.lst ((On a).map nV))->Q (.ref L) H')->sp [.int (a:Nat)] H Q E0
def J8 (P:Program)(w:World)(K:PySem.W.Frag)(mg:Str->Option Value)(base:Heap):Sp:=fun vs H Q _=>∃(f:Addr) (n:Nat) (On:Nat->List Nat) (Ev:Hp->Prop),vs=[.int 0,.ref f,.int (n:Nat)]/\Ev H/\Zl8 P w K mg base n On Ev f/\1<=n/\n<=60/\(∀a,a<n->∀b∈On a,b<n)/\∀L H',Same H H'->H L=none->H' L=some (.lst ((prtL n On).map nV))->Q (.ref L) H'
theorem Zgj {fr:List Nat}{i x y:Nat}(h:fr[i]?=some x)(hy:y∈fr.drop i):y=x\/y∈fr.drop (i+1):=by
 have hi:=(List.getElem?_eq_some_iff.mp h)
 obtain⟨hl,e⟩:=hi
 rw[List.drop_eq_getElem_cons hl] at hy
 rcases List.mem_cons.mp hy with z|z
 ·exact .inl (z.trans e)
 ·exact .inr z
section
variable {P:Program}{w:World}{K:PySem.W.Frag}{mg:Str->Option Value}{base:Heap}
theorem ZbX {f:Addr}{fd:FuncData}(F:Wf K "reached" "reached" X2 f fd)(T:Bl mg)(T2:Zao mg):ZQ P w K mg base Z2 2 f fd ["start", "onward", "most"] (J8 P w K mg base):=by
 refine F.ok (FS (N:=["start", "onward", "most", "seen", "fresh", "came", "one", "other"])) (fun vs H Q E h=>?_) (fun cdv A outer s H vs Q E hr h=>?_)
 ·obtain⟨g,n,On,Ev,rfl,_⟩:=h;rfl
 ·obtain⟨g,n,On,Ev,rfl,hEv,O,n1,n60,onlt,q⟩:=h
  have hu:(A.deeper (envOfC "reached" (ZH X2) s.heap.objs.size f cdv)).units+1<cLine:=by have:=hr.un;omega
  refine⟨_,Zu (ZR 3 rfl (UR (WN (vn 0) Yo UL) rfl rfl (by simp) (by decide)))
   (Zu (ZR 4 rfl (Ya (pc (vn 0) Zs)))
   (Zu (JL PassesOwn.never (Zff (vn 4) (fun _=>rfl))
    (Zu (ZR 5 rfl (Ya Zs))
    (Zu (Z5 PassesOwn.never rfl (itL K (vn 4)) (gn 6)
     (Zu (Z5 PassesOwn.never rfl (itL K (Zfl (CX:=Z2) (k:=1) (i:=1) (E:=E0) hr ZK (vn 1) (pc (vn 6) Zs))) (gn 7)
      (Zv (Z3 (Zfg (V3 hu (vn 7) (vn 3)))
       (Zu (JM hu (vn 3) (vn 7) Yo (by rfl))
       (Zv (Y9 (JO PySem.F.plainAttrs_list PySem.F.slot_list_append PySem.F.type_list_append Yk (vn 5) (pc (vn 7) Zs))))) ZJ)))
     (Zv (Z3 (ZF ZcY (cb Zeu T.len (pc (vn 3) Zs)) (vn 2) (ZM _)) (Zv (ZC UQ)) ZJ))))
    (Zv (ZR 4 rfl (vn 5))))))
   (Zv (ZC (cb (Vx rfl) T2.sorted (pc (vn 3) Zs)))))),?_⟩
  have sz:(16777216:Nat)=sizeLine:=by decide
  obtain⟨oc,od,fdO,sl,sp,hF,OkF,Bd,hsp⟩:=O.fn
  intro D nD
  refine⟨_,rfl,Zt,[(.inl 0,.bl true)],rfl,(by show 1<=15;decide),?_⟩
  have s1:Same H (upd (upd H D (.dK [])) D (.dK (Yz [] [(.inl 0,.bl true)]))):=Same.upd2 nD
  have hD1:=Zt (H:=upd H D (.dK [])) (a:=D) (o:=.dK (Yz [] [(.inl 0,.bl true)]))
  generalize upd (upd H D (.dK [])) D (.dK (Yz [] [(.inl 0,.bl true)]))=H1 at s1 hD1 ⊢
  have KS0:KS (Yz [] [(Sum.inl 0,V.bl true)]) [0]:=⟨rfl,by simp⟩
  refine⟨_,rfl,(by show 1<=sizeLine;decide),fun Ln nL1=>?_⟩
  have s2:=s1.trans (Same.upd (o:=.lst [.int 0]) nL1)
  have hD2:=Same.upd (o:=.lst [.int 0]) nL1 _ _ hD1
  have hL2:=Zt (H:=H1) (a:=Ln) (o:=.lst [.int 0])
  generalize upd H1 Ln (.lst [.int 0])=H2 at s2 hD2 hL2 ⊢
  have I0:WD n On [0] [0] fun _=>False:=⟨by simp,by simp,fun x hx=>by rw[List.mem_singleton.mp hx];exact n1,fun x hx=>by rw[List.mem_singleton.mp hx];exact .zero,fun x hx=>hx,fun x hx hn=>absurd hx hn⟩
  dsimp only[Yl,ZgS]
  refine Jy (fun m σ' H'=>∃(kvs:List (Z0×V)) (fd ln:List Nat) (Fr:Addr) (v5 v6 v7:Option V),σ'=[some (.int 0),some (.ref g),some (.int (n:Nat)),some (.ref D),some (.ref Fr),v5,v6,v7]/\Same H H'/\H' D=some (.dK kvs)/\KS kvs fd/\H' Fr=some (.lst (ln.map nV))/\WD n On fd ln (fun _=>False)/\m=2*(n-fd.length)+ln.length)
   (fun σ' H'=>∃(kvs:List (Z0×V)) (fd:List Nat) (v4 v5 v6 v7:Option V),σ'=[some (.int 0),some (.ref g),some (.int (n:Nat)),some (.ref D),v4,v5,v6,v7]/\Same H H'/\H' D=some (.dK kvs)/\KS kvs fd/\WD n On fd [] (fun _=>False)) ?hend ⟨_,_,[0],[0],Ln,_,_,_,rfl,s2,hD2,KS0,hL2,I0,rfl⟩ ?turn
  case hend=>
   rintro σ' H' ⟨kvs,fd,v4,v5,v6,v7,rfl,sm,hD,hK,I⟩
   have fl:=I.len
   refine⟨_,rfl,D,kvs,fd.map fun a:Nat=>(a:Int),rfl,hD,by rw[hK.keys,List.map_map];rfl,by rw[Za];omega,fun l ns nl hp hs=>?_⟩
   refine q l _ (sm.trans (Same.upd nl)) (sm.free nl) ?_
   rw[Zt,Zcz I hp hs]
  case turn=>
   rintro hend m σ' H' ⟨kvs,fd,ln,Fr,v5,v6,v7,rfl,sm,hD,hK,hLn,I,hm⟩
   have fl:=I.len
   refine⟨_,rfl,_,.inl ⟨_,.of hLn,rfl⟩,?_⟩
   by_cases hz:ln=[]
   ·subst hz
    exact YI (by decide) (hend _ _ ⟨kvs,fd,_,v5,v6,v7,rfl,sm,hD,hK,I⟩)
   ·have lpos:0<ln.length:=List.length_pos_iff.mpr hz
    refine Xe (by rw[List.isEmpty_map];cases ln with|nil=>exact absurd rfl hz|cons a r=>rfl) ?_
    refine⟨_,fun _ _ z=>z,(by show 0<=sizeLine;decide),fun C nC=>?_⟩
    have sC:=Same.upd (H:=H') (o:=.lst []) nC
    have nCH:H C=none:=sm.free nC
    have hDC:=sC _ _ hD
    have hFC:=sC _ _ hLn
    have smC:=sm.trans sC
    have hCC:=Zt (H:=H') (a:=C) (o:=.lst [])
    have CD:D≠C:=fun z=>by rw[z,nC] at hD;cases hD
    have CF:Fr≠C:=fun z=>by rw[z,nC] at hLn;cases hLn
    have DF:Fr≠D:=fun z=>by rw[z,hD] at hLn;cases hLn
    generalize upd H' C (.lst [])=HE at hDC hFC smC hCC ⊢
    have IP:WD n On fd [] fun x=>x∈ln.drop 0:=⟨I.z,I.nd,I.lt,I.rch,fun x hx=>(by cases hx),fun x hx hn he=>I.cl x hx he (fun z=>z)⟩
    refine⟨_,rfl,Fr,rfl,⟨_,.of hFC⟩,?_⟩
    refine Je (H0:=upd (fun _=>none) Fr (.lst (ln.map nV))) (Y8 (K:=K) (.of Zt)) (fun i τ HH=>∃(kvs':List (Z0×V)) (fd' cm:List Nat) (w6 w7:Option V),τ=[some (.int 0),some (.ref g),some (.int (n:Nat)),some (.ref D),some (.ref Fr),some (.ref C),w6,w7]/\Same H HH/\HH D=some (.dK kvs')/\KS kvs' fd'/\HH Fr=some (.lst (ln.map nV))/\HH C=some (.lst (cm.map nV))/\WD n On fd' cm (fun x=>x∈ln.drop i)/\(∀x∈fd,x∈fd')/\fd'.length=fd.length+cm.length)
     ⟨_,fd,[],_,_,rfl,smC,hDC,hK,hFC,hCC,IP,fun x hx=>hx,rfl⟩ (fun i τ HH h=>by obtain⟨_,_,_,_,_,_,_,_,_,hs,_⟩:=h;exact XZ hs) ?_ ?_
    ·rintro i y τ H8 hy ⟨kvs',fd',cm,w6,w7,rfl,s8,hD8,hK8,hF8,hC8,I8,sub8,e8⟩
     obtain⟨x,hx,rfl⟩:=Yx hy
     have hxl:=I.sub x (List.mem_of_getElem? hx)
     have hxn:=I.lt x hxl
     have hE8:=O.mono _ _ s8 hEv
     refine⟨g,oc,od,fdO,sl,rfl,hF _ hE8,_,rfl,hF _ hE8,["a"],sp,OkF,Bd,hsp _ x _ hE8 hxn fun L H9 s9 nL hL9=>?_⟩
     refine⟨L,rfl,⟨_,.of hL9⟩,?_⟩
     have CL:C≠L:=fun z=>by rw[z,nL] at hC8;cases hC8
     have DL:D≠L:=fun z=>by rw[z,nL] at hD8;cases hD8
     have fl8:=I8.len
     refine Je (H0:=upd (fun _=>none) L (.lst ((On x).map nV))) (Y8 (K:=K) (.of Zt)) (fun j τ HH=>∃(kvs':List (Z0×V)) (fd' cm:List Nat) (w7:Option V),τ=[some (.int 0),some (.ref g),some (.int (n:Nat)),some (.ref D),some (.ref Fr),some (.ref C),some (nV x),w7]/\Same H HH/\HH D=some (.dK kvs')/\KS kvs' fd'/\HH Fr=some (.lst (ln.map nV))/\HH C=some (.lst (cm.map nV))/\HH L=some (.lst ((On x).map nV))/\WD n On fd' cm (fun x=>x∈ln.drop i)/\(∀x∈fd,x∈fd')/\fd'.length=fd.length+cm.length/\∀y∈(On x).take j,y∈fd')
      ⟨_,fd',cm,_,rfl,s8.trans s9,s9 _ _ hD8,hK8,s9 _ _ hF8,s9 _ _ hC8,hL9,I8,sub8,e8,fun y hy=>(by cases hy)⟩ (fun j τ HH h=>by obtain⟨_,_,_,_,_,_,_,_,_,_,hs,_⟩:=h;exact XZ hs) ?_ ?_
     ·rintro j y0 τ H5 hy0 ⟨kvs5,fd5,cm5,w7,rfl,s5,hD5,hK5,hF5,hC5,hL5,I5,sub5,e5,g5⟩
      obtain⟨y,hy,rfl⟩:=Yx hy0
      have hyo:=List.mem_of_getElem? hy
      have hyn:=onlt x hxn y hyo
      have tk:∀z,z∈(On x).take (j+1)->z∈(On x).take j\/z=y:=fun z hz=>by
       rw[List.take_add_one,hy] at hz
       rcases List.mem_append.mp hz with h|h
       ·exact .inl h
       ·exact .inr (List.mem_singleton.mp h)
      refine⟨_,rfl,_,rfl,D,_,rfl,WH.k (k:=.inl ((y:Nat):Int)) hD5,_,rfl,?_⟩
      rw[hK5.some]
      have fl5:=I5.len
      refine JS (fun hn=>?_) (fun hn=>?_)
      ·have hn:y∉fd5:=fun z=>by
        rw[List.contains_iff_mem.mpr z] at hn
        cases hn
       refine⟨_,rfl,_,rfl,D,_,rfl,Xo.k (k:=.inl ((y:Nat):Int)) hD5 (by rw[hK5.len];omega),?_⟩
       have s6:Same H (upd H5 D (.dK (Yf kvs5 (.inl ((y:Nat):Int)) (.bl true)))):=s5.updr nD
       have hD6:=Zt (H:=H5) (a:=D) (o:=.dK (Yf kvs5 (.inl ((y:Nat):Int)) (.bl true)))
       have hK6:=hK5.put y (.bl true)
       have ec:fd5.contains y=false:=by
        cases q:fd5.contains y with
        |false=>rfl
        |true=>exact absurd (List.contains_iff_mem.mp q) hn
       rw[ec,if_neg (by decide)] at hK6
       have hC6:upd H5 D (.dK (Yf kvs5 (.inl ((y:Nat):Int)) (.bl true))) C=some (.lst (cm5.map nV)):=by rw[Zw (Ne.symm CD)];exact hC5
       have hF6:upd H5 D (.dK (Yf kvs5 (.inl ((y:Nat):Int)) (.bl true))) Fr=some (.lst (ln.map nV)):=by rw[Zw DF];exact hF5
       have hL6:upd H5 D (.dK (Yf kvs5 (.inl ((y:Nat):Int)) (.bl true))) L=some (.lst ((On x).map nV)):=by rw[Zw (Ne.symm DL)];exact hL5
       generalize upd H5 D (.dK (Yf kvs5 (.inl ((y:Nat):Int)) (.bl true)))=H6 at s6 hD6 hC6 hF6 hL6 ⊢
       have I6:=I5.add hn hyn (.step (I5.rch x (sub5 x hxl)) hyo)
       have fl6:=I6.len
       rw[Zd,Zk] at fl6
       refine⟨_,rfl,.inl ⟨rfl,_,.of hC6⟩,_,rfl,C,_,_,rfl,rfl,hC6,by rw[Za];omega,?_⟩
       refine⟨_,fd5++[y],cm5++[y],_,rfl,s6.updr nCH,by rw[Zw CD];exact hD6,hK6,by rw[Zw CF];exact hF6,by rw[Zt,List.map_append];rfl,by rw[Zw (Ne.symm CL)];exact hL6,I6,fun z hz=>List.mem_append_left _ (sub5 z hz),by rw[Zd,Zd];omega,fun z hz=>?_⟩
       rcases tk z hz with h|h
       ·exact List.mem_append_left _ (g5 z h)
       ·rw[h];exact List.mem_append_right _ List.mem_cons_self
      ·have hn:y∈fd5:=by
        cases q:fd5.contains y with
        |true=>exact List.contains_iff_mem.mp q
        |false=>exact absurd (show (!fd5.contains y)=true by rw[q];rfl) (by simpa using hn)
       refine⟨_,fd5,cm5,_,rfl,s5,hD5,hK5,hF5,hC5,hL5,I5,sub5,e5,fun z hz=>?_⟩
       rcases tk z hz with h|h
       ·exact g5 z h
       ·rw[h];exact hn
     ·rintro τ H5 ⟨kvs5,fd5,cm5,w7,rfl,s5,hD5,hK5,hF5,hC5,hL5,I5,sub5,e5,g5⟩
      rw[Za,List.take_length] at g5
      have fl5:=I5.len
      refine⟨_,rfl,D,kvs5,rfl,hD5,_,rfl,_,_,rfl,rfl,_,rfl,?_⟩
      refine YI (by rw[hK5.len];simp;omega) ?_
      refine⟨kvs5,fd5,cm5,_,_,rfl,s5,hD5,hK5,hF5,hC5,⟨I5.z,I5.nd,I5.lt,I5.rch,I5.sub,fun z hz hn he=>?_⟩,sub5,e5⟩
      by_cases hzx:z=x
      ·rw[hzx];exact g5
      ·exact I5.cl z hz hn fun hd=>(Zgj hx hd).elim hzx he
    ·rintro τ H8 ⟨kvs',fd',cm,w6,w7,rfl,s8,hD8,hK8,hF8,hC8,I8,sub8,e8⟩
     rw[Za,List.drop_length] at I8
     have fl8:=I8.len
     refine⟨_,rfl,?_⟩
     refine⟨2*(n-fd'.length)+cm.length,by omega,kvs',fd',cm,C,_,_,_,rfl,s8,hD8,hK8,hC8,⟨I8.z,I8.nd,I8.lt,I8.rch,I8.sub,fun x hx hn _=>I8.cl x hx hn (by simp)⟩,rfl⟩
end
end C23
namespace L2
open PySem PySem.Spec PyProof.Rows
section
variable {X:Cx}
theorem Uk (hc:X.calm=true):ZP X (.type "set") (fun xs H Q=>∃(a:Addr) (ns:List Int),xs=[.ref a]/\(Y0 X.K H a (ns.map V.int)\/Wu X.K H a (ns.map V.int))/\ns.length<4000/\∀p,H p=none->Q (.ref p) (upd H p (XC X.prog X.w p (Yt ns ns.length)))):=by
 intro pins s σ H xs us Q I r h
 obtain⟨a,ns,rfl,hq,hn,q⟩:=h
 obtain⟨u,rfl,ru⟩:=vals1 r
 cases ru
 rcases hq with hq|hq
 ·obtain⟨its,rv,p,hz⟩:=I.list hq
  have hl:its.toArray.size=ns.length:=by rw[Zh,<-rv.length,Za]
  refine PyS.Xr (I.ok.hd hc) p.isList (ns:=ns) (by simpa using JT rv) (by rw[hl];unfold scanBound;omega) fun h' tk ⟨e1,e2⟩=>?_
  rw[hl] at e1
  refine⟨.ref _,_,I.laid (a:=s.heap.objs.size) (o:=XC X.prog X.w s.heap.objs.size (Yt ns ns.length)) (t':=tk) (fun b o e=>e2 b o (Zp e) e) (Zq _) ⟨e1,?_,fun h1 h2 x k=>x.keep k⟩,rfl,q _ (I.hok.fresh (Zq _))⟩
  obtain⟨es,ep,t,⟨o,e,_⟩,_⟩:=e1
  exact⟨o,e⟩
 ·obtain⟨its,rv,p,hz⟩:=I.tuple hq
  have hl:its.toArray.size=ns.length:=by rw[Zh,<-rv.length,Za]
  refine PyS.ZbN (I.ok.hd hc) p (ns:=ns) (by simpa using JT rv) (by rw[hl];unfold scanBound;omega) fun h' tk ⟨e1,e2⟩=>?_
  rw[hl] at e1
  refine⟨.ref _,_,I.laid (a:=s.heap.objs.size) (o:=XC X.prog X.w s.heap.objs.size (Yt ns ns.length)) (t':=tk) (fun b o e=>e2 b o (Zp e) e) (Zq _) ⟨e1,?_,fun h1 h2 x k=>x.keep k⟩,rfl,q _ (I.hok.fresh (Zq _))⟩
  obtain⟨es,ep,t,⟨o,e,_⟩,_⟩:=e1
  exact⟨o,e⟩
end
theorem Wf.okC {P:Program}{w:World}{K:PySem.W.Frag}{mg:Str->Option Value}{base:Heap}{x qual:Str}{st:Stmt}{f c:Addr}{fd:FuncData}{N ps:List Str}{k:Nat}{sp:Sp}(F:Wf K x qual st f fd)(hcv:fd.code=.ref c)(S:J1 N ps (ZH st))(len:∀vs H Q E,sp vs H Q E->vs.length=ps.length)
  (hbody:∀(A:Around) (outer:List Env) (s:Shared) (H:Hp) (vs:List V) (Q:VK) (E:XK),Y7 k (A.deeper (envOfC qual (ZH st) s.heap.objs.size f (.ref c)))->sp vs H Q E->
   ∃t,VM (Zac Z2 P w K mg base N qual (ZH st) f (.ref c) A outer s H E).nox (ZX st) t/\t {nx:=fun _ H'=>Q .non H',rt:=Q} (start N vs) H):ZQ P w K mg base Z2 (k+1) f fd ps sp:=by
 obtain⟨oc,od,kV,doc,pm,an,cdv,ct,osl,rfl,lk,hcd⟩:=F.ex
 have e:cdv=.ref c:=hcv
 subst e
 refine Zf8 lk hcd S len fun A outer s H vs Q E hr hsp=>?_
 obtain⟨t,h,q⟩:=hbody A outer s H vs Q E hr hsp
 exact⟨t,h.nox,q⟩
theorem Zy.fnC {P:Program}{w:World}{K:PySem.W.Frag}{mg:Str->Option Value}{base h:Heap}{CX:XO}{k:Nat}{x:Str}{ps:List Str}{sp:Sp}{st:Stmt}{c Pt:Addr}(D:Zy K x st)(hT:ZdE K x c Pt=true)(X:K.In h)(G:h.Ns mainGlobals mg)
  (hok:∀f fd,Wf K x x st f fd->fd.code=.ref c->ZQ P w K mg base CX k f fd ps sp)
  (hb:∀(kV doc pm:Value) (an:Option Addr) (cdv ct:Value) (us:List Value),us.length=ps.length->bindArgs (PySem.W.fnOf x x (Yq st) (ZX st) (ZH st) .none kV doc pm an cdv ct) ⟨us,[]⟩=pure (ps.zip us)) :
  Fn P w K mg base CX k x ps sp:=by
 obtain⟨f,oc,od,an,osl,kV,doc,pm,cdv,ct,a,l,cc,kp⟩:=D
 have hc:cdv=.ref c:=by
  unfold ZdE at hT
  rw[Bool.and_eq_true] at hT
  have h1:=hT.1
  unfold PySem.W.tabIn at h1
  rw[a] at h1
  simp only[l] at h1
  have h1:=beq_iff_eq.mp h1
  split at h1
  ·split at h1
   ·split at h1
    ·cases h1;rfl
    ·cases h1
   ·cases h1
  ·cases h1
 exact Fn.mk X G a l cc kp (fun fd F=>hok f fd F (by
  obtain⟨oc',od',kV',doc',pm',an',cdv',ct',osl',e,l',_⟩:=F.ex
  rw[l] at l'
  injection l' with l'
  injection l' with _ _ l' _
  injection l' with l'
  rw[<-l']
  exact hc)) hb
theorem Zjt {sc esc:Scope}(h:(sc.names.all fun y=>y.2 != .free || (match esc.names.lookup y.1 with|some .cell=>true|some .free=>true|_=>false))=true):∀y∈sc.names,y.2=.free->esc.names.lookup y.1=some .cell\/esc.names.lookup y.1=some .free:=by
 intro y hy hf
 have h1:=List.all_eq_true.mp h y hy
 rw[hf] at h1
 have h1:(match esc.names.lookup y.1 with|some .cell=>true|some .free=>true|_=>false)=true:=h1
 split at h1
 ·rename_i q;exact .inl q
 ·rename_i q;exact .inr q
 ·cases h1
theorem Bt.free {P:Addr}{H H':Hp}{b:Addr}(d:Bt P H H')(h:H' b=none)(hP:H' P≠none):H b=none:=by
 cases e:H b with
 |none=>rfl
 |some o=>
  by_cases hb:b=P
  ·subst hb;exact absurd h hP
  ·rw[d b o e hb] at h;cases h
theorem J5.some {H:Hp}{P:Addr}{pos:Pos}{qual:Str}(t:J5 H P pos qual):H P≠none:=by
 obtain⟨ps,h1,_⟩:=t
 rw[h1]
 exact fun z=>by cases z
theorem J5.ne {H:Hp}{P:Addr}{pos:Pos}{qual:Str}(t:J5 H P pos qual){b:Addr}{o:HO}(h:H b=Option.some o)(ho:∀ps,o≠.tbl ps):b≠P:=fun z=>by
 obtain⟨ps,h1,_⟩:=t
 rw[z,h1] at h
 cases h
 exact ho ps rfl
end L2
namespace C23
open PySem L2 PySem.Spec PyProof.Rows
open Tb Pm
theorem GT.bt {H H':Hp}{g Pt:Addr}{t:List (List Nat)}{pos:Pos}{qual:Str}(T:J5 H Pt pos qual)(d:Bt Pt H H')(G:GT H g t):GT H' g t:=by
 obtain⟨rs,h1,h2,h3⟩:=G
 refine⟨rs,d _ _ h1 (T.ne h1 fun _ z=>by cases z),h2,fun i r hr=>?_⟩
 obtain⟨o,e1,e2⟩:=h3 i r hr
 exact⟨o,d _ _ e1 (T.ne e1 fun _ z=>by cases z),e2⟩
def Jo (n:Nat)(gs:List Nat):List Nat:=(List.range n).filter fun x=>gs.contains x
theorem YR {n:Nat}{gs:List Nat}(h:∀x∈gs,x<n){x:Nat}:x∈Jo n gs↔x∈gs:=by
 unfold Jo
 rw[List.mem_filter,List.mem_range,List.contains_iff_mem]
 exact⟨fun z=>z.2,fun z=>⟨h x z,z⟩⟩
theorem ZaD {n:Nat}{gs:List Nat}:(Jo n gs).Pairwise (· < ·):=List.Pairwise.sublist List.filter_sublist List.pairwise_lt_range
theorem UB {n:Nat}{gs:List Nat}:(Jo n gs).length<=n:=by
 unfold Jo
 have:=List.length_filter_le (fun x=>gs.contains x) (List.range n)
 rw[Zg] at this
 exact this
def Z1 (gs:List Nat):List Int:=gs.map fun a:Nat=>(a:Int)
theorem Wp {gs:List Nat}:(Z1 gs).length=gs.length:=List.length_map ..
theorem Zds {gs:List Nat}:(Z1 gs).map V.int=gs.map nV:=by unfold Z1;rw[List.map_map];rfl
theorem ZaX {gs:List Nat}{k:Int}:k∈Yt (Z1 gs) (Z1 gs).length↔∃a∈gs,k=(a:Int):=by
 rw[Zc6]
 constructor
 ·rintro⟨j,hj,e⟩
  have hj':j<gs.length:=by rw[Wp] at hj;exact hj
  refine⟨gs[j],List.getElem_mem hj',?_⟩
  rw[<-e,Zb]
  unfold Z1
  rw[Zc,Zf hj']
  rfl
 ·rintro⟨a,ha,rfl⟩
  obtain⟨j,hj⟩:=List.getElem?_of_mem ha
  have hj':j<gs.length:=(List.getElem?_eq_some_iff.mp hj).1
  refine⟨j,by rw[Wp];exact hj',?_⟩
  rw[Zb]
  unfold Z1
  rw[Zc,hj]
  rfl
theorem ZfL {n:Nat}{gs:List Nat}(h:∀x∈gs,x<n):List.Perm (Yt (Z1 gs) (Z1 gs).length) (Z1 (Jo n gs)):=by
 refine (List.perm_ext_iff_of_nodup (Yy _ _) ?_).mpr fun k=>?_
 ·unfold Z1
  exact List.Pairwise.map _ (fun a b (e:a<b)=>by omega) ZaD
 ·rw[ZaX]
  unfold Z1
  rw[List.mem_map]
  constructor
  ·rintro⟨a,ha,rfl⟩;exact⟨a,(YR h).mpr ha,rfl⟩
  ·rintro⟨a,ha,rfl⟩;exact⟨a,(YR h).mp ha,rfl⟩
theorem Zc7 {n:Nat}{gs:List Nat}(h:∀x∈gs,x<n):(Yt (Z1 gs) (Z1 gs).length).length<=n:=by
 rw[(ZfL h).length_eq,Wp]
 exact UB
theorem Zcy {n:Nat}{gs:List Nat}{ns:List Int}(h:∀x∈gs,x<n)(hp:List.Perm ns (Yt (Z1 gs) (Z1 gs).length))(hs:ns.Pairwise (· ≤ ·)):ns.map V.int=(Jo n gs).map nV:=by
 refine XH hp hs (Yy _ _) (fun k=>?_) ZaD
 rw[ZaX]
 constructor
 ·rintro⟨a,ha,rfl⟩;exact⟨a,(YR h).mpr ha,rfl⟩
 ·rintro⟨a,ha,rfl⟩;exact⟨a,(YR h).mp ha,rfl⟩
abbrev JH:Stmt:=top 30
def WO:Pos:=⟨108,28,108,67⟩
def Wj:Str:=("part_by" ++ ".<locals>.") ++ "<lambda>"
def XW (K:PySem.W.Frag)(Pt:Addr):Sp:=fun vs H Q _=>∃(g L:Addr) (t:List (List Nat)) (gs:List Nat),vs=[.ref g,.ref L]/\GT H g t/\PW t/\(Y0 K H L (gs.map nV)\/Wu K H L (gs.map nV))/\gs.length<4000/\(∀x∈gs,x<t.length)/\J5 H Pt WO Wj/\∀r H',Bt Pt H H'->J5 H' Pt WO Wj->H r=none->H' r=some (.tup ((prtL t.length (YQ t gs)).map nV))->Q (.ref r) H'
def fMu (t:List (List Nat))(a:Nat):V->V
 | .int z=>nV (ZA t a z.toNat)
 |y=>y
section
variable {P:Program}{w:World}{K:PySem.W.Frag}{mg:Str->Option Value}{base:Heap}
def Zh7 (Ev:Hp->Prop)(n:Nat)(On:Nat->List Nat):Sp:=fun vs H Q _=>∃a:Nat,vs=[.int (a:Nat)]/\Ev H/\a<n/\∀L H',Same H H'->H L=none->H' L=some (.lst ((On a).map nV))->Q (.ref L) H'
def ZfR:List Stmt->Arguments×Expr×Scope
 | [_,.Return (some (.Call _ [.Call _ [_,.Lambda a b sc _,_] _ _] _ _)) _]=>(a,b,sc)
 |_=>(default,.Constant .none 0 ⟨0,0,0,0⟩,default)
abbrev ZkW:Arguments:=(ZfR (ZX JH)).1
abbrev ZkV:Expr:=(ZfR (ZX JH)).2.1
abbrev ZfQ:Scope:=(ZfR (ZX JH)).2.2
def EvL (f1 c1:Addr)(cl:List (Str×Addr))(pm ct:Value)(g l:Addr)(t:List (List Nat))(ms:List Nat):Hp->Prop:=fun H=>H f1=some (Js f1 (Za5 Wj ZkW ZkV ZfQ cl pm c1 ct))/\H c1=some (W0 c1 Wj)/\GT H g t/\H l=some (.lst (ms.map nV))
theorem Zkv:VB ["a", "group", "makers"] ["a"] ["group", "makers"] ZfQ:=⟨rfl,rfl,rfl,by decide +kernel,by decide +kernel,rfl,by decide +kernel,by decide +kernel,by decide +kernel⟩
theorem Zjl {f1 c1 g l:Addr}{cl:List (Str×Addr)}{pm ct:Value}{t:List (List Nat)}{ms:List Nat}(C:Zan base cl ["group", "makers"] [.ref g,.ref l])(Pt:PW t)(mlt:∀x∈ms,x<t.length)(ml:ms.length<=1000000) :
  ZQ P w K mg base Z2 1 f1 (PySem.W.kla_fn "<lambda>" Wj ZkW ZkV ZfQ cl pm (.ref c1) ct) ["a"] (Zh7 (EvL f1 c1 cl pm ct g l t ms) t.length (YQ t ms)):=by
 refine ZjL Zkv C (fun vs H Q E h=>?_) (fun vs s H Q E hok h=>?_) (fun A outer s H vs Q E hr h=>?_)
 ·obtain⟨a,rfl,_⟩:=h;rfl
 ·obtain⟨a,rfl,e,_⟩:=h
  exact⟨⟨_,_,_,Zcd hok e.1⟩,ZhR hok e.2.1⟩
 ·obtain⟨a,rfl,e,ha,q⟩:=h
  obtain⟨_,_,G,hl⟩:=e
  refine⟨_,cmp ["b"] [0,1] ["b", "a", "group"] rfl (itL K (vn 2)) (fun _ _ _ _ _=>gn 0) (fun _ _ _ _ _=>ZW) (fun _ _ _ _ _=>ZE (Wn K) (ZE (Wn K) (vn 2) (vn 1) (fun _ _=>rfl)) (vn 0) (fun _ _=>rfl)),?_⟩
  refine⟨_,rfl,l,rfl,⟨_,.of hl⟩,?_⟩
  refine Yr (Y8 (K:=K) (.of hl)) [some (.int (a:Nat)),some (.ref g)] rfl (fMu t a) (by rw[Za];exact ml) (fun i x H' hx sm R gg=>?_) (fun D H' hD sm hD'=>?_)
  ·obtain⟨b,hb,rfl⟩:=Yx hx
   have hbl:=mlt b (List.mem_of_getElem? hb)
   obtain⟨rs,r2,g1,_,g2,g3,g4⟩:=(G.mono sm).at Pt ha
   refine⟨_,rfl,_,rfl,g,_,_,_,rfl,rfl,.of g1,g2,_,rfl,r2,_,_,_,rfl,rfl,g3.sq,g4 b hbl,?_⟩
   have:=gg H' (Same.refl _)
   exact this
  ·refine q D H' sm hD ?_
   rw[hD',List.map_map]
   unfold YQ
   rw[List.map_map]
   rfl
theorem ZdV {f c Pt:Addr}{fd:FuncData}(F:Wf K "part_by" "part_by" JH f fd)(hcv:fd.code=.ref c)(hc:PySem.W.codeHdIn K c Pt=true)(B:Xp base mg)(T:Bl mg)(T2:Zao mg)(GR:∀base',Fn P w K mg base' Z2 2 "reached" ["start", "onward", "most"] (J8 P w K mg base')):ZQ P w K mg base Z2 3 f fd ["group", "things"] (XW K Pt):=by
 refine F.okC hcv (FS (N:=["group", "things", "makers"])) (fun vs H Q E h=>?_) (fun A outer s H vs Q E hr h=>?_)
 ·obtain⟨g,L,t,gs,rfl,_⟩:=h;rfl
 ·obtain⟨g,L,t,gs,rfl,G,Pt1,hL,gl,glt,Tb1,q⟩:=h
  refine⟨_,Zu (ZR 2 rfl (cb (Jx rfl) T2.sorted (pc (ct (Uk rfl) T.set (pc (vn 1) Zs)) Zs)))
   (Zv (ZC (ct ZI T.tuple (pc (Zfk GR hr ZK (pc Zz (pc (Zi6 rfl hc B rfl (Zjt (by kernel_rfl))) (pc (cb (YA K) T.len (pc (vn 0) Zs)) Zs)))) Zs)))),?_⟩
  have sz:(16777216:Nat)=sizeLine:=by decide
  have n1:=Pt1.n1
  have n60:=Pt1.n60
  refine⟨_,rfl,L,Z1 gs,rfl,by rw[Zds];exact hL,by rw[Wp];exact gl,fun p1 h1=>?_⟩
  have s1:=Same.upd (o:=XC P w p1 (Yt (Z1 gs) (Z1 gs).length)) h1
  refine⟨p1,_,rfl,Zt,Yy _ _,by have:=Zc7 glt;omega,fun l ns h2 hp hs=>?_⟩
  have nl:H l=none:=s1.free h2
  have s2:=s1.trans (Same.upd (o:=.lst (ns.map V.int)) h2)
  have hl2:=Zt (H:=upd H p1 (XC P w p1 (Yt (Z1 gs) (Z1 gs).length))) (a:=l) (o:=.lst (ns.map V.int))
  rw[Zcy glt hp hs] at s2 hl2 ⊢
  have mlt:∀x∈Jo t.length gs,x<t.length:=fun x hx=>glt x ((YR glt).mp hx)
  have hset:prtL t.length (YQ t (Jo t.length gs))=prtL t.length (YQ t gs):=ZcS fun x=>YR glt
  have ml:(Jo t.length gs).length<=1000000:=by have:=UB (n:=t.length) (gs:=gs);omega
  generalize Jo t.length gs=ms at s2 hl2 mlt hset ml ⊢
  have T2':J5 _ Pt WO Wj:=Tb1.mono s2
  refine⟨T2',fun f1 c1 ct cl pm H3 C nf bt tb hf hc1=>?_⟩
  have G3:=GT.bt T2' bt (G.mono s2)
  have hl3:H3 l=some (.lst (ms.map nV)):=bt _ _ hl2 (T2'.ne hl2 fun _ z=>by cases z)
  obtain⟨gxs,u1,u2⟩:=GT.len (K:=K) G3
  refine⟨_,rfl,g,gxs,rfl,.inr u1,fun base' Wd=>?_⟩
  rw[u2]
  have bH:Bt Pt H H3:=fun b o e n=>bt b o (s2 b o e) n
  have ca:Zan base' cl ["group", "makers"] [.ref g,.ref l]:=by
   have cG:∀x,cl.lookup ("group":Str)=some x->x=s.heap.objs.size+1:=fun x h=>(Option.some.inj (show some (s.heap.objs.size+1)=some x from C.cells ("group":Str) x h)).symm
   have cM:∀x,cl.lookup ("makers":Str)=some x->x=s.heap.objs.size+1+1:=fun x h=>(Option.some.inj (show some (s.heap.objs.size+1+1)=some x from C.cells ("makers":Str) x h)).symm
   have on:∀x c,cl.lookup x=some c->x = "group"\/x = "makers":=fun x c h=>by
    have h:=C.only x c h
    rcases List.mem_cons.mp h with h|h
    ·cases h
    rcases List.mem_cons.mp h with h|h
    ·cases h;exact .inl rfl
    rcases List.mem_cons.mp h with h|h
    ·cases h;exact .inr rfl
    ·cases h
   refine⟨rfl,fun i x v hx hv=>?_,fun x c h=>?_,fun x y c h1 h2=>?_⟩
   ·match i,hx,hv with
    |0,hx,hv=>
     cases hx
     cases hv
     obtain⟨c2,h⟩:=C.all ("group",.free) (by decide) rfl
     obtain⟨u,a1,a2⟩:=Wd.cells 0 "group" (.ref g) c2 rfl rfl (.inr (.inl rfl)) (C.cells _ _ h) (.inl rfl) rfl
     exact⟨c2,u,h,a1,a2⟩
    |1,hx,hv=>
     cases hx
     cases hv
     obtain⟨c2,h⟩:=C.all ("makers",.free) (by decide) rfl
     obtain⟨u,a1,a2⟩:=Wd.cells 2 "makers" (.ref l) c2 rfl rfl (.inr (.inl rfl)) (C.cells _ _ h) (.inl rfl) rfl
     exact⟨c2,u,h,a1,a2⟩
    |i+2,hx,hv=>cases hx
   ·rcases on x c h with rfl|rfl <;> simp
   ·rcases on x c h1 with rfl|rfl <;> rcases on y c h2 with rfl|rfl
    ·rfl
    ·exact absurd ((cG _ h1).symm.trans (cM _ h2)) (Nat.ne_of_lt (Nat.lt_succ_self _))
    ·exact absurd ((cG _ h2).symm.trans (cM _ h1)) (Nat.ne_of_lt (Nat.lt_succ_self _))
    ·rfl
  have hEv:EvL f1 c1 cl pm ct g l t ms H3:=⟨hf,hc1,G3,hl3⟩
  refine⟨f1,t.length,YQ t ms,EvL f1 c1 cl pm ct g l t ms,rfl,hEv,⟨fun H H' s h=>⟨s _ _ h.1,s _ _ h.2.1,h.2.2.1.mono s,s _ _ h.2.2.2⟩,_,_,_,_,Zh7 (EvL f1 c1 cl pm ct g l t ms) t.length (YQ t ms),fun H h=>h.1,Zjl ca Pt1 mlt ml,.all fun us hl=>?_,fun H a Q h ha k=>⟨a,rfl,h,ha,k⟩⟩,n1,n60,Vg Pt1 mlt,fun L' H5 s5 nL hL5=>?_⟩
  ·match us,hl with | [_],_=>rfl
  ·refine⟨L',_,rfl,.inl ⟨.of hL5,fun r nr=>?_⟩⟩
   have s6:=s5.trans (Same.upd (o:=.tup ((prtL t.length (YQ t ms)).map nV)) nr)
   refine q r _ (bH.trans (.of s6)) (tb.mono s6) (bH.free (s5.free nr) tb.some) ?_
   rw[Zt,hset]
end
abbrev ZcM:Stmt:=top 31
abbrev ZcO:Stmt:=top 32
theorem ZcH (ns:List Nat):SeqAt.shaped (YM ns)=true:=by
 unfold SeqAt.shaped YM
 have h1:PyData.canLay0 (.tuple (ns.map fun k:Nat=>PyData.int (k:Int)))=true:=Zhw ns
 have h2:PyData.depth (.tuple (ns.map fun k:Nat=>PyData.int (k:Int)))<=64:=by
  show PyData.depthAll (ns.map fun k:Nat=>PyData.int (k:Int))+1<=64
  rw[ZhA ns]
  omega
 simp only[h1,Bool.true_and,Bool.and_true,decide_eq_true_eq]
 exact h2
theorem Zl2 (a b:List Nat):PyData.eqv (YM a) (YM b)=decide (a=b):=by
 have h:=Zdi a b
 unfold nI at h
 rw[List.map_map,List.map_map] at h
 exact h
theorem eqK {X:Cx}(K:PySem.W.Frag)(hu:X.A.units+64<cLine)(hK:X.K=K:=by rfl):Jj X (compareOp .Eq) (fun x y H Q=>∃dx dy,Xm K H x dx/\Xm K H y dy/\SeqAt.shaped dx=true/\SeqAt.shaped dy=true/\Q (.bl (PyData.eqv dx dy)) H):=hK▸Zjg hu
def mkL (t:List (List Nat))(ms:List Nat):List Nat:=ms.flatMap (Zbj t)
theorem UX {t:List (List Nat)}:∀ms:List Nat,(mkL t ms).length<=ms.length*t.length
 | []=>by unfold mkL;rw[List.flatMap_nil];exact Nat.zero_le _
 |b::ms=>by
  have ih:=UX (t:=t) ms
  unfold mkL at ih ⊢
  have:=Zdr (t:=t) b
  rw[List.flatMap_cons,Zd,Zi,Nat.succ_mul]
  omega
theorem ZfK {t:List (List Nat)}{ms:List Nat}{i b:Nat}(h:ms[i]?=some b):mkL t (ms.take (i+1))=mkL t (ms.take i)++Zbj t b:=by
 unfold mkL
 rw[List.take_add_one,h,List.flatMap_append]
 congr 1
 show ([b].flatMap _)=_
 rw[List.flatMap_cons,List.flatMap_nil,List.append_nil]
theorem ZhC {t:List (List Nat)}(P:PW t){gs:List Nat}(h:∀x∈gs,x<t.length){y:Nat}:y∈mkL t (Jo t.length gs)↔y∈Wg t gs:=by
 unfold mkL
 rw[List.mem_flatMap,YY]
 constructor
 ·rintro⟨b,hb,hy⟩
  have hb:=(YR h).mp hb
  exact⟨b,hb,(JX P (h b hb)).mp hy⟩
 ·rintro⟨b,hb,hy⟩
  exact⟨b,(YR h).mpr hb,(JX P (h b hb)).mpr hy⟩
def XX (K:PySem.W.Frag)(Pt:Addr):Sp:=fun vs H Q _=>∃(g L:Addr) (t:List (List Nat)) (gs:List Nat),vs=[.ref g,.ref L]/\GT H g t/\PW t/\(Y0 K H L (gs.map nV)\/Wu K H L (gs.map nV))/\gs.length<4000/\(∀x∈gs,x<t.length)/\J5 H Pt WO Wj/\∀r H',Bt Pt H H'->J5 H' Pt WO Wj->H r=none->H' r=some (.tup ((prtL t.length (YQ t (Wg t gs))).map nV))->Q (.ref r) H'
def Zay (K:PySem.W.Frag)(Pt:Addr):Sp:=fun vs H Q _=>∃(g L:Addr) (t:List (List Nat)) (gs:List Nat),vs=[.ref g,.ref L]/\GT H g t/\PW t/\H L=some (.tup (gs.map nV))/\gs.length<4000/\(∀x∈gs,x<t.length)/\J5 H Pt WO Wj/\∀H',Bt Pt H H'->J5 H' Pt WO Wj->Q (.bl (decide (prtL t.length (YQ t (Wg t gs))=gs))) H'
section
variable {P:Program}{w:World}{K:PySem.W.Frag}{mg:Str->Option Value}{base:Heap}
theorem ZdW {f Pt:Addr}{fd:FuncData}(F:Wf K "kept_by" "kept_by" ZcM f fd)(T:Bl mg)(T2:Zao mg)(GTn:Fn P w K mg base Z2 3 "turnings" ["group", "b"] XV)(GP:Fn P w K mg base Z2 3 "part_by" ["group", "things"] (XW K Pt)):ZQ P w K mg base Z2 4 f fd ["group", "things"] (XX K Pt):=by
 refine F.ok (FS (N:=["group", "things", "makers", "a"])) (fun vs H Q E h=>?_) (fun cdv A outer s H vs Q E hr h=>?_)
 ·obtain⟨g,L,t,gs,rfl,_⟩:=h;rfl
 ·obtain⟨g,L,t,gs,rfl,G,Pt1,hL,gl,glt,Tb1,q⟩:=h
  refine⟨_,Zu (ZR 2 rfl (Ya Zs))
   (Zu (Z5 PassesOwn.never rfl (itL K (cb (Jx rfl) T2.sorted (pc (ct (Uk rfl) T.set (pc (vn 1) Zs)) Zs))) (gn 3)
    (Zv (Y9 (JO PySem.F.plainAttrs_list PySem.F.slot_list_extend PySem.F.type_list_extend ZhB (vn 2) (pc (We GTn hr ZK (pc (vn 0) (pc (vn 3) Zs))) Zs)))))
   (Zv (ZC (We GP hr ZK (pc (vn 0) (pc (vn 2) Zs)))))),?_⟩
  have sz:(16777216:Nat)=sizeLine:=by decide
  have n1:=Pt1.n1
  have n60:=Pt1.n60
  refine⟨(by show 0<=sizeLine;decide),fun D nD=>?_⟩
  have s0:=Same.upd (H:=H) (o:=.lst []) nD
  have hD0:=Zt (H:=H) (a:=D) (o:=.lst [])
  generalize upd H D (.lst [])=H0 at s0 hD0 ⊢
  have hL0:Y0 K H0 L (gs.map nV)\/Wu K H0 L (gs.map nV):=hL.imp s0.seq s0.tup
  refine⟨_,rfl,L,Z1 gs,rfl,by rw[Zds];exact hL0,by rw[Wp];exact gl,fun p1 h1=>?_⟩
  have s1:=Same.upd (o:=XC P w p1 (Yt (Z1 gs) (Z1 gs).length)) h1
  refine⟨p1,_,rfl,Zt,Yy _ _,by have:=Zc7 glt;omega,fun l ns h2 hp hs=>?_⟩
  have s2:=s1.trans (Same.upd (o:=.lst (ns.map V.int)) h2)
  have hl2:=Zt (H:=upd H0 p1 (XC P w p1 (Yt (Z1 gs) (Z1 gs).length))) (a:=l) (o:=.lst (ns.map V.int))
  rw[Zcy glt hp hs] at s2 hl2 ⊢
  have hD2:=s2 _ _ hD0
  have lD:l≠D:=fun z=>by
   have:=s1.free h2
   rw[z,hD0] at this
   cases this
  have mlt:∀x∈Jo t.length gs,x<t.length:=fun x hx=>glt x ((YR glt).mp hx)
  have hset:prtL t.length (YQ t (mkL t (Jo t.length gs)))=prtL t.length (YQ t (Wg t gs)):=ZcS fun x=>ZhC Pt1 glt
  have ml:=UB (n:=t.length) (gs:=gs)
  have s2H:=s0.trans s2
  refine⟨l,rfl,⟨_,.of hl2⟩,?_⟩
  generalize Jo t.length gs=ms at s2 s2H hl2 hD2 mlt hset ml ⊢
  refine Je (H0:=upd (fun _=>none) l (.lst (ms.map nV))) (Y8 (K:=K) (.of Zt)) (fun i σ' H'=>∃v3:Option V,σ'=[some (.ref g),some (.ref L),some (.ref D),v3]/\Same H H'/\H' l=some (.lst (ms.map nV))/\H' D=some (.lst ((mkL t (ms.take i)).map nV))) ⟨_,rfl,s2H,hl2,hD2⟩ (fun i σ' H' h=>by obtain⟨_,_,_,hs,_⟩:=h;exact XZ hs) ?_ ?_
  ·rintro i y σ' H5 hy ⟨v3,rfl,s5,hl5,hD5⟩
   obtain⟨b,hb,rfl⟩:=Yx hy
   have hbl:=mlt b (List.mem_of_getElem? hb)
   refine⟨_,rfl,.inl ⟨rfl,_,.of hD5⟩,_,rfl,_,rfl,g,t,b,rfl,G.mono s5,Pt1,hbl,fun r H6 s6 hr6=>?_⟩
   have tl:=UX (t:=t) (ms.take i)
   have tk:(ms.take i).length<=60:=by rw[List.length_take];omega
   have tm:(ms.take i).length*t.length<=60*60:=Nat.mul_le_mul tk n60
   have cl:=Zdr (t:=t) b
   refine⟨D,r,_,_,rfl,rfl,s6 _ _ hD5,hr6,by rw[Za,Za];omega,?_⟩
   refine⟨_,rfl,(s5.trans s6).updr nD,by rw[Zw lD];exact s6 _ _ hl5,?_⟩
   rw[Zt,ZfK hb,List.map_append]
  ·rintro σ' H5 ⟨v3,rfl,s5,hl5,hD5⟩
   rw[Za,List.take_length] at hD5
   have tl:=UX (t:=t) ms
   have tm:ms.length*t.length<=60*60:=Nat.mul_le_mul (by omega) n60
   have glt2:∀x∈mkL t ms,x<t.length:=fun x hx=>by
    unfold mkL at hx
    obtain⟨b,hb,hx⟩:=List.mem_flatMap.mp hx
    obtain⟨z,hz,rfl⟩:=(JX Pt1 (mlt b hb)).mp hx
    exact ZeI Pt1 (mlt b hb) hz
   refine⟨_,rfl,_,rfl,g,D,t,mkL t ms,rfl,G.mono s5,Pt1,.inl (.of hD5),by omega,glt2,Tb1.mono s5,fun r H6 b6 t6 nr hr6=>?_⟩
   exact q r H6 ((Bt.of s5).trans b6) t6 (s5.free nr) (by rw[<-hset];exact hr6)
theorem ZdX {f Pt:Addr}{fd:FuncData}(F:Wf K "is_kept" "is_kept" ZcO f fd)(GK:Fn P w K mg base Z2 4 "kept_by" ["group", "things"] (XX K Pt)):ZQ P w K mg base Z2 5 f fd ["group", "part"] (Zay K Pt):=by
 refine F.ok (FS (N:=["group", "part"])) (fun vs H Q E h=>?_) (fun cdv A outer s H vs Q E hr h=>?_)
 ·obtain⟨g,L,t,gs,rfl,_⟩:=h;rfl
 ·obtain⟨g,L,t,gs,rfl,G,Pt1,hL,gl,glt,Tb1,q⟩:=h
  refine⟨_,Zv (ZC (JN (eqK K hr.units) (We GK hr ZK (pc (vn 0) (pc (vn 1) Zs))) (vn 1) (ZM _))),?_⟩
  refine⟨_,rfl,_,rfl,g,L,t,gs,rfl,G,Pt1,.inr (.of hL),gl,glt,Tb1,fun r H6 b6 t6 nr hr6=>?_⟩
  have hL6:=b6 _ _ hL (Tb1.ne hL fun _ z=>by cases z)
  refine⟨_,rfl,YM (prtL t.length (YQ t (Wg t gs))),YM gs,ZbS hr6,ZbS hL6,ZcH _,ZcH _,?_⟩
  rw[Zl2]
  exact q H6 b6 t6
end
structure LS (H:Hp)(p Pt:Addr)(b:Nat):Prop where
 tp:Yc H p b
 tb:J5 H Pt WO Wj
def Mv (p Pt:Addr)(H H':Hp):Prop:=∀b o,H b=some o->b≠p->b≠Pt->H' b=some o
section
variable {H H':Hp}{p Pt x:Addr}{b b':Nat}
theorem Mv.tk (s:Tk p H H'):Mv p Pt H H':=fun b o e n _=>s b o e n
theorem Mv.bt (s:Bt Pt H H'):Mv p Pt H H':=fun b o e _ n=>s b o e n
theorem LS.same (L:LS H p Pt b)(s:Same H H'):LS H' p Pt b:=⟨L.tp.mono s,L.tb.mono s⟩
theorem LS.bt (L:LS H p Pt b)(s:Bt Pt H H')(t:J5 H' Pt WO Wj):LS H' p Pt b:=by
 refine⟨?_,t⟩
 obtain⟨c,l,n,h1,h2⟩:=L.tp
 exact⟨c,l,n,s _ _ h1 (L.tb.ne h1 fun _ z=>by cases z),h2⟩
theorem LS.tk (L:LS H p Pt b)(s:Tk p H H')(t:Yc H' p b'):LS H' p Pt b':=by
 refine⟨t,?_⟩
 obtain⟨ps,h1,h2,h3⟩:=L.tb
 refine⟨ps,s _ _ h1 (L.tp.ne h1 fun _ z=>by cases z),h2,?_⟩
 rcases h3 with h|⟨c,h,h'⟩
 ·exact .inl h
 ·exact .inr ⟨c,h,s _ _ h' (L.tp.ne h' fun _ z=>by cases z)⟩
theorem LS.lst (L:LS H p Pt b)(m:Mv p Pt H H'){xs:List V}(h:H x=some (.lst xs)):H' x=some (.lst xs):=m _ _ h (L.tp.ne h fun _ z=>by cases z) (L.tb.ne h fun _ z=>by cases z)
theorem LS.tup (L:LS H p Pt b)(m:Mv p Pt H H'){xs:List V}(h:H x=some (.tup xs)):H' x=some (.tup xs):=m _ _ h (L.tp.ne h fun _ z=>by cases z) (L.tb.ne h fun _ z=>by cases z)
theorem LS.frz (L:LS H p Pt b)(m:Mv p Pt H H'){o:Obj}{u:HO}(h:H x=some (.frz o u)):H' x=some (.frz o u):=m _ _ h (L.tp.ne h fun _ z=>by cases z) (L.tb.ne h fun _ z=>by cases z)
theorem LS.gt (L:LS H p Pt b)(m:Mv p Pt H H'){t:List (List Nat)}(G:GT H x t):GT H' x t:=by
 obtain⟨rs,h1,h2,h3⟩:=G
 refine⟨rs,L.tup m h1,h2,fun i r hr=>?_⟩
 obtain⟨o,e1,e2⟩:=h3 i r hr
 exact⟨o,L.frz m e1,e2⟩
theorem LS.sql (L:LS H p Pt b)(m:Mv p Pt H H'){K:PySem.W.Frag}{xs:List V}(h:Y0 K H x xs):Y0 K H' x xs:=by
 rcases h with (h|⟨o,h⟩)|h
 ·exact .inl (.inl (L.lst m h))
 ·exact .inl (.inr ⟨o,L.frz m h⟩)
 ·exact .inr h
end
theorem Zg7 {t:List (List Nat)}(P:PW t):prtL t.length (YQ t [])=[0]:=by
 have h1:∀x,Y5 (YQ t []) x->x=0:=fun x r=>by
  induction r with
  |zero=>rfl
  |step _ hb _=>cases hb
 have n1:=P.n1
 have hm:∀x,x∈prtL t.length (YQ t [])↔x∈[0]:=fun x=>by
  rw[Z7,List.mem_singleton]
  constructor
  ·rintro⟨_,r⟩;exact h1 x r
  ·rintro rfl;exact⟨n1,.zero⟩
 have hp:List.Perm (prtL t.length (YQ t [])) [0]:=(List.perm_ext_iff_of_nodup (List.Pairwise.imp (fun h=>Nat.ne_of_lt h) Wl) (by simp)).mpr hm
 exact List.perm_singleton.mp hp
theorem Zdc {y:Nat}{ps:List Nat}:inV (.int (y:Nat)) (ps.map nV)=ps.contains y:=by
 unfold inV
 rw[List.any_map,List.contains_eq_any_beq]
 congr 1
 funext z
 show (((z:Nat):Int) == ((y:Nat):Int))=(y == z)
 by_cases h:y=z
 ·subst h;simp
 ·have h2:¬((z:Nat):Int)=((y:Nat):Int):=by omega
  rw[beq_eq_false_iff_ne.mpr h,beq_eq_false_iff_ne.mpr h2]
abbrev Zid:Stmt:=top 19
def J4 (css:List (List Nat)):Nat->Nat->Nat
 |0,_=>0
 |k+1,a=>if (css.getD k []).contains a then k else J4 css k a
def ZeQ:Sp:=fun vs H Q _=>∃(c:Addr) (css:List (List Nat)) (n:Nat),vs=[.ref c,.int n]/\CT H c css/\(∀row∈css,∀a∈row,a<n)/\n<=60/\css.length<=60/\∀r H',Same H H'->H' r=some (.tup ((YS n (J4 css css.length)).map nV))->Q (.ref r) H'
section
variable {P:Program}{w:World}{K:PySem.W.Frag}{mg:Str->Option Value}{base:Heap}
theorem Zho {f:Addr}{fd:FuncData}(F:Wf K "holders" "holders" Zid f fd)(T:Bl mg)(T2:Zao mg):ZQ P w K mg base Z2 1 f fd ["bundles", "count"] ZeQ:=by
 refine F.ok (FS (N:=["bundles", "count", "numbers", "k", "members", "a"])) (fun vs H Q E h=>?_) (fun cdv A outer s H vs Q E hr h=>?_)
 ·obtain⟨c,css,n,rfl,_⟩:=h;rfl
 ·obtain⟨c,css,n,rfl,C,hlt,n60,c60,q⟩:=h
  refine⟨_,Zu (ZR 2 rfl (ZS Zjd (Ya (pc Zz Zs)) (vn 1)))
   (Zu (Z5 PassesOwn.never rfl (Ziz K T2.enumerate (pc (vn 0) Zs)) (g2 K 3 4 rfl (gn 3) (gn 4))
    (Zv (Z5 PassesOwn.never rfl (itT K (vn 4)) (gn 5) (Zv (Zi0 (vn 3) (Zi3 (vn 2) (vn 5) ZeT))))))
   (Zv (ZC (ct ZI T.tuple (pc (vn 2) Zs))))),?_⟩
  have sz:(16777216:Nat)=sizeLine:=by decide
  obtain⟨rs,c1,c2,c3⟩:=C.row
  refine⟨(by show 1<=sizeLine;decide),fun l0 nl0=>⟨_,rfl,l0,_,_,rfl,rfl,Zt,by omega,by omega,by show 1*((n:Int)).toNat<=sizeLine;omega,fun L nL=>?_⟩⟩
  rw[Zj]
  have s1:=Same.upd (H:=H) (o:=.lst [.int 0]) nl0
  have nLH:H L=none:=s1.free nL
  have e0:(List.replicate n [V.int 0]).flatten=(YS n (J4 css 0)).map nV:=by
   unfold YS
   rw[List.map_map]
   have:∀m k,(List.replicate m [V.int 0]).flatten=(List.range' k m).map fun _=>nV 0:=fun m=>by
    induction m with
    |zero=>intro k;rfl
    |succ m ih=>intro k;rw[List.replicate_succ,List.flatten_cons,ih (k+1),List.range'_succ,List.map_cons];rfl
   rw[this n 0,<-List.range_eq_range']
   rfl
  rw[e0]
  have s2:=s1.trans (Same.upd (o:=.lst ((YS n (J4 css 0)).map nV)) nL)
  refine⟨_,rfl,c,rfl,.inr ⟨⟨_,.of (s2 _ _ c1)⟩,?_⟩⟩
  refine Zbb (Zgh (K:=K) (xs:=rs.map V.ref)) (fun i σ' H'=>∃v3 v4 v5:Option V,σ'=[some (.ref c),some (.int (n:Nat)),some (.ref L),v3,v4,v5]/\Same H H'/\H' L=some (.lst ((YS n (J4 css i)).map nV)))
   ⟨_,_,_,rfl,s2,Zt⟩ (fun i σ' H' h=>by
    obtain⟨_,_,_,_,sm,_⟩:=h
    exact sm.tup (.of c1)) ?_ ?_
  ·rintro i y σ' H3 T' hy ⟨v3,v4,v5,rfl,s3,hL3⟩ nT
   obtain⟨r,rfl,hi,hr'⟩:=c3 i y hy
   have s4:=Same.upd (H:=H3) (o:=.tup [.int (i:Nat),.ref r]) nT
   refine⟨T',_,rfl,.of Zt,rfl,_,_,rfl,_,_,rfl,rfl,?_⟩
   generalize upd H3 T' (.tup [.int (i:Nat),.ref r])=H4 at s4 ⊢
   have hr4:=(s3.trans s4) _ _ hr'
   have hm:css.getD i []∈css:=by
    rw[Zb,Zf hi]
    exact List.getElem_mem hi
   have hrow:=hlt _ hm
   generalize hrw:css.getD i []=row at hr' hr4 hrow
   refine⟨_,rfl,r,rfl,⟨_,.of hr4⟩,?_⟩
   refine ZhO (K:=K) (a:=r) (xs:=row.map nV) (fun j σ' H'=>∃v5:Option V,σ'=[some (.ref c),some (.int (n:Nat)),some (.ref L),some (.int (i:Nat)),some (.ref r),v5]/\Same H H'/\H' L=some (.lst ((YS n fun a=>if (row.take j).contains a then i else J4 css i a).map nV)))
    ⟨_,rfl,s3.trans s4,by
     have e:(YS n fun a=>if ((row.take 0).contains a)=true then i else J4 css i a)=YS n (J4 css i):=Jp fun a _=>by rw[List.take_zero];rfl
     rw[e]
     exact s4 _ _ hL3⟩ (fun j σ' H' _ h=>by
     obtain⟨_,_,sm,_⟩:=h
     exact .of (sm _ _ (by rw[<-hrw] at hr' ⊢;exact hr'))) ?_ ?_
   ·rintro j y σ' H5 hy ⟨v5',rfl,s5,hL5⟩
    obtain⟨k,hk,rfl⟩:=Yx hy
    have hkn:k<n:=hrow k (List.mem_of_getElem? hk)
    refine⟨_,rfl,_,rfl,_,rfl,L,_,_,k,rfl,rfl,hL5,Za8 (by rw[Za,Ze9];exact hkn),?_⟩
    refine⟨_,rfl,s5.updr nLH,?_⟩
    rw[Zt]
    have e:=Ze8 (k:=i) (fun a=>if ((row.take j).contains a)=true then i else J4 css i a) hkn
    have e2:(YS n fun b=>if b=k then i else if ((row.take j).contains b)=true then i else J4 css i b)=YS n fun a=>if ((row.take (j+1)).contains a)=true then i else J4 css i a:=Jp fun a _=>by
     rw[List.take_add_one,hk]
     by_cases h1:a=k
     ·subst h1
      rw[if_pos rfl,if_pos (List.contains_iff_mem.mpr (List.mem_append_right _ (by simp)))]
     ·rw[if_neg h1]
      by_cases h2:a∈row.take j
      ·rw[if_pos (List.contains_iff_mem.mpr h2),if_pos (List.contains_iff_mem.mpr (List.mem_append_left _ h2))]
      ·rw[if_neg (fun z=>h2 (List.contains_iff_mem.mp z)),if_neg (fun z=>?_)]
       rcases List.mem_append.mp (List.contains_iff_mem.mp z) with z|z
       ·exact h2 z
       ·exact h1 (by simpa using z)
    rw[e2] at e
    exact congrArg (fun xs=>some (HO.lst xs)) e
   ·rintro σ' H5 ⟨v5',rfl,s5,hL5⟩
    refine⟨_,_,_,rfl,s5,?_⟩
    rw[Za] at hL5
    rw[hL5]
    have e:(YS n fun a=>if ((row.take row.length).contains a)=true then i else J4 css i a)=YS n (J4 css (i+1)):=Jp fun a _=>by
     rw[List.take_length,J4,hrw]
    rw[e]
  ·rintro σ' H3 ⟨v3,v4,v5,rfl,s3,hL3⟩
   rw[Za,c2] at hL3
   exact⟨_,rfl,L,_,rfl,.inl ⟨.of hL3,fun r nr=>q r _ (s3.trans (Same.upd nr)) Zt⟩⟩
end
end C23
namespace PyS
open PySem PySem.SetTable
def adv (m:Nat)(p:Probe):Probe:=
 if p.more > 0 then {p with j:=p.j+1,more:=p.more-1} else
 let (i,perturb):=leap m p.i p.perturb
 {p with j:=i,more:=runEnd m i-i,i,perturb}
theorem ZjX (t:SetTable)(p:Probe):t.advance p=adv t.mask p:=rfl
theorem Uo (m:Nat)(p:Probe):(adv m p).dummy=p.dummy:=by
 unfold adv
 split <;> rfl
def wk (m:Nat):Nat->Probe->Probe
 |0,p=>p
 |k+1,p=>wk m k (adv m p)
theorem Yv (m:Nat):∀(a b:Nat) (p:Probe),wk m (a+b) p=wk m b (wk m a p)
 |0,b,p=>by rw[Nat.zero_add];rfl
 |a+1,b,p=>by rw[show a+1+b=(a+b)+1 by omega];exact Yv m a b _
theorem Zct (m k:Nat)(p:Probe):wk m (k+1) p=adv m (wk m k p):=Yv m k 1 p
theorem Zaq (m:Nat):∀(k:Nat) (p:Probe),(wk m k p).dummy=p.dummy
 |0,p=>rfl
 |k+1,p=>(Zaq m k _).trans (Uo m p)
def st0 (m i pt:Nat):Probe:=⟨i,runEnd m i-i,i,pt,none⟩
theorem Wi {m i:Nat}(h:i<=m):i<=runEnd m i/\runEnd m i<=m/\runEnd m i<=i+9:=by
 unfold runEnd
 split <;> omega
theorem run (m i pt:Nat):∀c,c<=runEnd m i-i->wk m c (st0 m i pt)=⟨i+c,runEnd m i-i-c,i,pt,none⟩
 |0,_=>rfl
 |c+1,h=>by
  rw[Zct,run m i pt c (by omega)]
  unfold adv
  dsimp only
  rw[if_pos (by omega)]
  congr 1
theorem X4 (m i pt:Nat):wk m (runEnd m i-i+1) (st0 m i pt)=st0 m (leap m i pt).1 (leap m i pt).2:=by
 rw[Zct,run m i pt _ (Zq _)]
 unfold adv
 dsimp only
 rw[if_neg (by omega)]
 rfl
def lp (m:Nat):Nat->Nat×Nat->Nat×Nat
 |0,x=>x
 |l+1,x=>lp m l (leap m x.1 x.2)
theorem ZfN (m:Nat):∀(a b:Nat) (x:Nat×Nat),lp m (a+b) x=lp m b (lp m a x)
 |0,b,x=>by rw[Nat.zero_add];rfl
 |a+1,b,x=>by rw[show a+1+b=(a+b)+1 by omega];exact ZfN m a b _
theorem Jd (m i pt:Nat):(leap m i pt).1<=m:=by
 unfold leap
 have:=Nat.mod_lt (i*5+1+pt / 32) (show 0<m+1 by omega)
 dsimp only
 omega
theorem Zir (m:Nat):∀(l:Nat) (x:Nat×Nat),x.1<=m->(lp m l x).1<=m
 |0,x,h=>h
 |l+1,x,h=>Zir m l _ (Jd m x.1 x.2)
theorem ZiP (m:Nat):∀(l i pt:Nat),i<=m->∃k,k<=10*l/\wk m k (st0 m i pt)=st0 m (lp m l (i,pt)).1 (lp m l (i,pt)).2
 |0,i,pt,_=>⟨0,by omega,rfl⟩
 |l+1,i,pt,hi=>by
  obtain⟨k,hk,e⟩:=ZiP m l (leap m i pt).1 (leap m i pt).2 (Jd m i pt)
  have:=Wi hi
  refine⟨runEnd m i-i+1+k,by omega,?_⟩
  rw[Yv,X4,e]
  rfl
theorem Ziq (m:Nat):∀(l i pt:Nat),(lp m l (i,pt)).2=pt / 32 ^ l
 |0,i,pt=>by rw[Nat.pow_zero,Nat.div_one];rfl
 |l+1,i,pt=>by
  show (lp m l ((leap m i pt).1,pt / 32)).2=_
  rw[Ziq m l,Nat.div_div_eq_div_mul,Nat.pow_succ,Nat.mul_comm]
def f5 (m:Nat):Nat->Nat->Nat
 |0,i=>i
 |c+1,i=>f5 m c ((i*5+1) % (m+1))
theorem U7 (m:Nat):∀(a b i:Nat),f5 m (a+b) i=f5 m b (f5 m a i)
 |0,b,i=>by rw[Nat.zero_add];rfl
 |a+1,b,i=>by rw[show a+1+b=(a+b)+1 by omega];exact U7 m a b _
theorem Zc9 (m:Nat):∀(c i:Nat),lp m c (i,0)=(f5 m c i,0)
 |0,i=>rfl
 |c+1,i=>by
  show lp m c ((i*5+1+0 / 32) % (m+1),0 / 32)=_
  rw[Nat.zero_div,Nat.add_zero,Zc9 m c]
  rfl
def ring (m:Nat):Nat->Nat->List Nat
 |0,_=>[]
 |c+1,i=>i::ring m c ((i*5+1) % (m+1))
theorem ZaI (m:Nat):∀(c i j:Nat),j∈ring m c i->∃k,k<c/\f5 m k i=j
 |0,i,j,h=>by cases h
 |c+1,i,j,h=>by
  rcases List.mem_cons.mp h with h|h
  ·exact⟨0,by omega,h.symm⟩
  ·obtain⟨k,hk,e⟩:=ZaI m c _ j h
   exact⟨k+1,by omega,e⟩
def ZbR (m:Nat):Bool:=(List.range (m+1)).all (fun j=>(ring m (m+1) 0).contains j) && f5 m (m+1) 0 == 0
theorem ZbQ {m:Nat}(h:ZbR m=true){i j:Nat}(hi:i<=m)(hj:j<=m):∃c,c<=m/\f5 m c i=j:=by
 unfold ZbR at h
 rw[Bool.and_eq_true,List.all_eq_true] at h
 have all:∀j,j<=m->∃k,k<m+1/\f5 m k 0=j:=fun j hj=>ZaI m _ _ _ (List.contains_iff_mem.mp (h.1 j (List.mem_range.mpr (by omega))))
 have e0:f5 m (m+1) 0=0:=eq_of_beq h.2
 obtain⟨a,ha,ea⟩:=all i hi
 obtain⟨b,hb,eb⟩:=all j hj
 by_cases hab:a<=b
 ·refine⟨b-a,by omega,?_⟩
  rw[<-ea,<-U7,show a+(b-a)=b by omega,eb]
 ·refine⟨m+1-a+b,by omega,?_⟩
  rw[<-ea,<-U7,show a+(m+1-a+b)=(m+1)+b by omega,U7,e0,eb]
def Msk (m:Nat):Prop:=m=7\/m=31\/m=127
theorem Msk.ring {m:Nat}(h:Msk m):ZbR m=true:=by
 rcases h with rfl|rfl|rfl <;> decide +kernel
theorem ZhU (h:Int):bits h<2 ^ 64:=by
 unfold bits
 have:=Int.emod_lt_of_pos h (show (0:Int)<2 ^ 64 by decide)
 have:=Int.emod_nonneg h (show (2 ^ 64:Int)≠0 by decide)
 omega
def JB (m:Nat)(h:Int):Probe:=st0 m (bits h % (m+1)) (bits h)
theorem WJ (m:Nat)(h:Int):bits h % (m+1)<=m:=by
 have:=Nat.mod_lt (bits h) (show 0<m+1 by omega)
 omega
theorem Zdq {m:Nat}(M:Msk m)(h:Int){j:Nat}(hj:j<=m):∃l,l<turns m/\(lp m l (bits h % (m+1),bits h)).1=j:=by
 have h0:(lp m 13 (bits h % (m+1),bits h)).2=0:=by
  rw[Ziq]
  refine Nat.div_eq_of_lt (Nat.lt_of_lt_of_le (ZhU h) (by decide))
 have hi:=Zir m 13 (bits h % (m+1),bits h) (WJ m h)
 obtain⟨c,hc,e⟩:=ZbQ M.ring hi hj
 refine⟨13+c,by unfold turns;omega,?_⟩
 rw[ZfN]
 have:lp m 13 (bits h % (m+1),bits h)=((lp m 13 (bits h % (m+1),bits h)).1,0):=by rw[<-h0]
 rw[this,Zc9]
 exact e
theorem Zk7 {m:Nat}(M:Msk m)(h:Int){j:Nat}(hj:j<=m):∃k,k<10*turns m/\(wk m k (JB m h)).j=j:=by
 obtain⟨l,hl,e⟩:=Zdq M h hj
 obtain⟨k,hk,e'⟩:=ZiP m l (bits h % (m+1)) (bits h) (WJ m h)
 refine⟨k,by omega,?_⟩
 unfold JB
 rw[e']
 exact e
theorem Zh3 (m:Nat):∀(k:Nat) (p:Probe),p.j+p.more<=m->(wk m k p).j+(wk m k p).more<=m
 |0,p,h=>h
 |k+1,p,h=>by
  refine Zh3 m k _ ?_
  unfold adv
  split
  ·dsimp only;omega
  ·dsimp only
   have:=Jd m p.i p.perturb
   have:=Wi (Jd m p.i p.perturb)
   show (leap m p.i p.perturb).1+(runEnd m (leap m p.i p.perturb).1-(leap m p.i p.perturb).1)<=m
   omega
theorem UN (m:Nat)(h:Int)(k:Nat):(wk m k (JB m h)).j<=m:=by
 have:=Zh3 m k (JB m h) (by
  unfold JB st0
  dsimp only
  have:=Wi (WJ m h)
  omega)
 omega
def OnP (m:Nat)(L:Nat->Prop)(h:Int)(j:Nat):Prop:=∃k,(wk m k (JB m h)).j=j/\∀k',k'<k->L (wk m k' (JB m h)).j
theorem OnP.mono {m:Nat}{L L':Nat->Prop}{h:Int}{j:Nat}(H:∀x,x<=m->L x->L' x)(o:OnP m L h j):OnP m L' h j:=by
 obtain⟨k,e,a⟩:=o
 exact⟨k,e,fun k' hk=>H _ (UN m h k') (a k' hk)⟩
def Lv (t:SetTable)(j:Nat):Prop:=j∈t.place.toList
section
variable {t:SetTable}
theorem J9 (R:WG t.place){i j:Nat}(h:t.place[i]?=some j):t.slot j=.live i:=by
 have hi:i<=t.place.size:=by
  have:=Array.getElem?_eq_some_iff.mp h
  have:=this.1
  omega
 have hb:below t.place j=i:=(Jg R j).uniq ⟨hi,fun k x hk e=>R.lt hk e h,fun k x hk e=>by
  by_cases z:i=k
  ·subst z;rw[h] at e;cases e;exact Zq _
  ·have:=R.lt (by omega) h e;omega⟩
 unfold slot
 rw[hb]
 dsimp only
 rw[h]
 simp
theorem XY (hd:t.dummies=#[])(j:Nat):(∃i,t.slot j=.live i/\t.place[i]?=some j)\/(t.slot j=.empty/\t.place[below t.place j]?≠some j):=by
 unfold slot
 dsimp only
 split
 ·rename_i hh
  exact .inl ⟨_,rfl,by simpa using hh⟩
 ·rename_i hh
  right
  rw[if_neg (by unfold has;rw[hd];simp)]
  exact⟨rfl,by simpa using hh⟩
theorem Jc {j:Nat}{i:Nat}(h:t.place[i]?=some j):Lv t j:=by
 unfold Lv
 rw[<-Array.getElem?_toList] at h
 exact List.mem_of_getElem? h
theorem Zek (R:WG t.place)(hd:t.dummies=#[]){j:Nat}(h:t.slot j=.empty):¬Lv t j:=fun z=>by
 obtain⟨i,e⟩:=List.getElem?_of_mem z
 rw[Array.getElem?_toList] at e
 rw[J9 R e] at h
 cases h
inductive Zdx (t:SetTable) (hashAt:Nat->Int) (h:Int) (fuel:Nat) (p:Probe):Option Met->Prop
 |none:(∀k,k<fuel->Lv t (wk t.mask k p).j)->Zdx t hashAt h fuel p none
 |empty {j:Nat} (k:Nat):k<fuel->(wk t.mask k p).j=j->t.slot j=.empty->(∀k',k'<k->∃i,t.slot (wk t.mask k' p).j=.live i/\hashAt i≠h)->Zdx t hashAt h fuel p (some (.empty j none))
 |cand {j i:Nat} (k:Nat):k<fuel->(wk t.mask k p).j=j->t.slot j=.live i->t.place[i]?=some j->hashAt i=h->(∀k',k'<k->∃i,t.slot (wk t.mask k' p).j=.live i/\hashAt i≠h)->Zdx t hashAt h fuel p (some (.candidate j i (wk t.mask (k+1) p)))
theorem Zf4 (hd:t.dummies=#[]){hashAt:Nat->Int}{h:Int}:∀(fuel:Nat) (p:Probe),p.dummy=none->Zdx t hashAt h fuel p (probe.go t hashAt h fuel p)
 |0,p,_=>.none fun k hk=>absurd hk (Nat.not_lt_zero _)
 |fuel+1,p,hp=>by
  unfold probe.go
  rcases XY hd p.j with ⟨i,hs,hpl⟩|⟨hs,_⟩
  ·rw[hs]
   dsimp only
   by_cases e:hashAt i=h
   ·rw[if_pos (by simpa using e)]
    exact .cand 0 (by omega) rfl hs hpl e fun k' hk=>absurd hk (Nat.not_lt_zero _)
   ·rw[if_neg (by simpa using e)]
    have ih:=Zf4 hd (hashAt:=hashAt) (h:=h) fuel (t.advance p) ((Uo _ _).trans hp)
    generalize probe.go t hashAt h fuel (t.advance p)=r at ih
    rw[ZjX] at ih
    have pre:∀{k:Nat},(∀k',k'<k->∃i,t.slot (wk t.mask k' (adv t.mask p)).j=.live i/\hashAt i≠h)->∀k',k'<k+1->∃i,t.slot (wk t.mask k' p).j=.live i/\hashAt i≠h:=fun {k} a k' hk=>by
     cases k' with
     |zero=>exact⟨i,hs,e⟩
     |succ k'=>exact a k' (by omega)
    cases ih with
    |none a=>
     refine .none fun k hk=>?_
     cases k with
     |zero=>exact Jc hpl
     |succ k=>exact a k (by omega)
    |empty k hk e1 e2 a=>exact .empty (k+1) (by omega) e1 e2 (pre a)
    |cand k hk e1 e2 e3 e4 a=>exact .cand (k+1) (by omega) e1 e2 e3 e4 (pre a)
  ·rw[hs]
   dsimp only
   rw[hp]
   exact .empty 0 (by omega) rfl hs fun k' hk=>absurd hk (Nat.not_lt_zero _)
end
theorem WA:∀(l l':List Nat),l.Nodup->(∀a∈l,a∈l')->l.length<=l'.length
 | [],l',_,_=>Nat.zero_le _
 |a::l,l',hn,hs=>by
  rw[List.nodup_cons] at hn
  have ha:=hs a List.mem_cons_self
  have h1:=WA l (l'.erase a) hn.2 fun b hb=>(List.mem_erase_of_ne (show b≠a from fun z=>hn.1 (z▸hb))).mpr (hs b (List.mem_cons_of_mem _ hb))
  have h2:=List.length_erase_of_mem ha
  have h3:=List.length_pos_of_mem ha
  rw[Zi]
  omega
structure T3 (t:SetTable)(es:Array (Int×Value)):Prop where
 rise:WG t.place
 dum:t.dummies=#[]
 msk:Msk t.mask
 le:∀j,Lv t j->j<=t.mask
 sz:t.place.size=es.size
 room:es.size<=t.mask
 path:∀(i j:Nat) (e:Int×Value),t.place[i]?=some j->es[i]?=some e->OnP t.mask (Lv t) e.1 j
section
variable {t:SetTable}{es:Array (Int×Value)}
theorem ZbM (T:T3 t es):∃j,j<=t.mask/\¬Lv t j:=by
 refine Classical.byContradiction fun h=>?_
 have h:∀j,j<=t.mask->Lv t j:=fun j hj=>Classical.byContradiction fun z=>h ⟨j,hj,z⟩
 have:=WA (List.range (t.mask+1)) t.place.toList List.nodup_range fun a ha=>h a (by have:=List.mem_range.mp ha;omega)
 rw[Zg,Zr,T.sz] at this
 have:=T.room
 omega
theorem Za1 {P:Nat->Prop}:∀n,(∀k,k<n->P k)\/∃K,K<n/\¬P K/\∀k,k<K->P k
 |0=>.inl fun k hk=>absurd hk (Nat.not_lt_zero _)
 |n+1=>by
  rcases Za1 (P:=P) n with h|⟨K,hK,h⟩
  ·by_cases hn:P n
   ·refine .inl fun k hk=>?_
    by_cases e:k=n
    ·exact e▸hn
    ·exact h k (by omega)
   ·exact .inr ⟨n,by omega,hn,h⟩
  ·exact .inr ⟨K,by omega,h⟩
theorem Zbc (T:T3 t es)(h:Int):∃K,K<10*turns t.mask/\¬Lv t (wk t.mask K (JB t.mask h)).j/\∀k,k<K->Lv t (wk t.mask k (JB t.mask h)).j:=by
 obtain⟨j,hj,hn⟩:=ZbM T
 obtain⟨k,hk,e⟩:=Zk7 T.msk h hj
 rcases Za1 (P:=fun k=>Lv t (wk t.mask k (JB t.mask h)).j) (10*turns t.mask) with a|b
 ·exact absurd (e▸a k hk) hn
 ·exact b
theorem XI {α:Type}(xs:Array α){p:Nat}(hp:p<=xs.size)(x:α)(i:Nat):(insertAt xs p x)[i]?=if i<p then xs[i]? else if i=p then some x else xs[i-1]?:=by
 rw[<-Array.getElem?_toList,toList_insertAt]
 have hl:(xs.toList.take p).length=p:=by rw[List.length_take,Zr];omega
 by_cases h1:i<p
 ·rw[if_pos h1,List.getElem?_append_left (by omega),List.getElem?_take_of_lt h1,Array.getElem?_toList]
 ·rw[if_neg h1,List.getElem?_append_right (by omega),hl]
  by_cases h2:i=p
  ·rw[if_pos h2,h2,Nat.sub_self];rfl
  ·rw[if_neg h2,show i-p=(i-p-1)+1 by omega,List.getElem?_cons_succ,List.getElem?_drop,Array.getElem?_toList,show p+(i-p-1)=i-1 by omega]
theorem ZiX (hd:t.dummies=#[])(j:Nat):t.put j=({t with place:=insertAt t.place (below t.place j) j},below t.place j):=by
 unfold put
 dsimp only
 rw[if_neg (by unfold has;rw[hd];simp)]
theorem ZfM {p j x:Nat}:x∈(insertAt t.place p j).toList↔Lv t x\/x=j:=by
 rw[(insertAt_perm t.place p j).mem_iff,Array.toList_push,List.mem_append,List.mem_singleton]
 rfl
theorem T3.put (T:T3 t es){h:Int}{K:Nat}{x:Value}(hn:¬Lv t (wk t.mask K (JB t.mask h)).j)(ha:∀k,k<K->Lv t (wk t.mask k (JB t.mask h)).j)(hroom:es.size+1<=t.mask) :
  T3 {t with place:=insertAt t.place (below t.place (wk t.mask K (JB t.mask h)).j) (wk t.mask K (JB t.mask h)).j} (insertAt es (below t.place (wk t.mask K (JB t.mask h)).j) (h,x)):=by
 have hj:=UN t.mask h K
 have hO:OnP t.mask (Lv t) h (wk t.mask K (JB t.mask h)).j:=⟨K,rfl,ha⟩
 generalize (wk t.mask K (JB t.mask h)).j=j at hn hj hO
 have hb:=(Jg T.rise j).le
 have hb':below t.place j<=es.size:=by rw[<-T.sz];exact hb
 have hne:t.place[below t.place j]?≠some j:=fun z=>hn (Jc z)
 have up:∀{h':Int}{j':Nat},OnP t.mask (Lv t) h' j'->OnP t.mask (fun x=>x∈(insertAt t.place (below t.place j) j).toList) h' j':=fun o=>o.mono fun x _ l=>ZfM.mpr (.inl l)
 have szI:∀{α:Type} (a:Array α) (p:Nat) (y:α),(insertAt a p y).size=a.size+1:=fun a p y=>by
  rw[<-Zr,(insertAt_perm a p y).length_eq,Array.toList_push,Zd,Zr];rfl
 refine⟨T.rise.insert hne,T.dum,T.msk,fun x hx=>?_,?_,?_,fun i j' e h1 h2=>?_⟩
 ·rcases ZfM.mp hx with l|rfl
  ·exact T.le x l
  ·exact hj
 ·show (insertAt _ _ _).size=_
  rw[szI,szI,T.sz]
 ·show _<=t.mask
  rw[szI]
  exact hroom
 ·have h1:(insertAt t.place (below t.place j) j)[i]?=some j':=h1
  rw[XI t.place hb] at h1
  rw[XI es hb'] at h2
  show OnP t.mask (fun x=>x∈(insertAt t.place (below t.place j) j).toList) e.1 j'
  by_cases c1:i<below t.place j
  ·rw[if_pos c1] at h1 h2
   exact up (T.path i j' e h1 h2)
  ·rw[if_neg c1] at h1 h2
   by_cases c2:i=below t.place j
   ·rw[if_pos c2] at h1 h2
    cases h1
    cases h2
    exact up hO
   ·rw[if_neg c2] at h1 h2
    exact up (T.path _ j' e h1 h2)
end
def Ow (o:Array (Option Nat))(j:Nat):Prop:=(o.getD j (some 0)).isSome=true
theorem Vf {o:Array (Option Nat)}{j:Nat}(h:j<o.size):Ow o j↔∃q,o[j]?=some (some q):=by
 unfold Ow
 rw[Array.getD_eq_getD_getElem?,Array.getElem?_eq_getElem h]
 simp only[Option.getD_some,Option.some.injEq]
 exact Option.isSome_iff_exists
theorem Zin {o:Array (Option Nat)}{j:Nat}(h:¬(o.getD j (some 0)).isNone=true):Ow o j:=by
 unfold Ow
 cases e:o.getD j (some 0) with
 |none=>rw[e] at h;exact absurd rfl h
 |some q=>rfl
theorem ZbT {P:Nat->Bool}{n k:Nat}(h:(List.range n).find? P=some k):k<n/\P k=true/\∀k',k'<k->P k'=false:=by
 rw[List.find?_range_eq_some] at h
 obtain⟨h1,h2,h3⟩:=h
 exact⟨List.mem_range.mp h2,h1,fun k' hk=>by simpa using h3 k' hk⟩
theorem Ud {m:Nat}{o:Array (Option Nat)}:∀(fuel i pt:Nat) {j:Nat},i<=m->layClean.free m o fuel i pt=some j->∃k,(wk m k (st0 m i pt)).j=j/\¬Ow o j/\∀k',k'<k->Ow o (wk m k' (st0 m i pt)).j
 |0,i,pt,j,_,e=>by
  unfold layClean.free at e
  cases e
 |fuel+1,i,pt,j,hi,e=>by
  unfold layClean.free at e
  have hre:=Wi hi
  have hpos:∀c,c<=runEnd m i-i->(wk m c (st0 m i pt)).j=i+c:=fun c hc=>by rw[run m i pt c hc]
  split at e
  ·rename_i k hk
   obtain⟨h1,h2,h3⟩:=ZbT hk
   cases e
   refine⟨k,hpos k (by omega),fun z=>?_,fun k' hk'=>?_⟩
   ·unfold Ow at z
    rw[Option.isNone_iff_eq_none] at h2
    rw[h2] at z
    cases z
   ·rw[hpos k' (by omega)]
    have:=h3 k' hk'
    unfold Ow
    simpa using this
  ·rename_i hk
   dsimp only at e
   obtain⟨k,e1,e2,e3⟩:=Ud fuel _ _ (Jd m i pt) e
   rw[List.find?_eq_none] at hk
   refine⟨runEnd m i-i+1+k,?_,e2,fun k' hk'=>?_⟩
   ·rw[Yv,X4]
    exact e1
   ·by_cases c:k'<=runEnd m i-i
    ·rw[hpos k' c]
     have:=hk k' (List.mem_range.mpr (by omega))
     exact Zin this
    ·rw[show k'=runEnd m i-i+1+(k'-(runEnd m i-i+1)) by omega,Yv,X4]
     exact e3 _ (by omega)
theorem Ue {m:Nat}{o:Array (Option Nat)}:∀(fuel i pt:Nat),i<=m->layClean.free m o fuel i pt=none->∀l,l<fuel->Ow o (lp m l (i,pt)).1
 |0,i,pt,_,_,l,hl=>absurd hl (Nat.not_lt_zero _)
 |fuel+1,i,pt,hi,e,l,hl=>by
  unfold layClean.free at e
  have hre:=Wi hi
  split at e
  ·cases e
  ·rename_i hk
   dsimp only at e
   rw[List.find?_eq_none] at hk
   cases l with
   |zero=>
    have:=hk 0 (List.mem_range.mpr (by omega))
    exact Zin this
   |succ l=>exact Ue fuel _ _ (Jd m i pt) e l (by omega)
structure Own (m:Nat)(hs:List Int)(o:Array (Option Nat))(n:Nat):Prop where
 sz:o.size=m+1
 put:∀k:Nat,k<n->∃(j:Nat) (h:Int),hs[k]?=some h/\o[j]?=some (some k)/\OnP m (Ow o) h j
 lt:∀(j q:Nat),o[j]?=some (some q)->q<n
 inj:∀(j j' q:Nat),o[j]?=some (some q)->o[j']?=some (some q)->j=j'
theorem Zfr {m:Nat}{hs:List Int}{o:Array (Option Nat)}{n:Nat}(O:Own m hs o n)(hn:n<=m):∃j,j<=m/\¬Ow o j:=by
 refine Classical.byContradiction fun h=>?_
 have h:∀j,j<=m->∃q,o[j]?=some (some q):=fun j hj=>(Vf (by rw[O.sz];omega)).mp (Classical.byContradiction fun z=>h ⟨j,hj,z⟩)
 have e1:((List.range (m+1)).map fun j=>((o[j]?.getD none).getD 0)).Nodup:=by
  refine List.Pairwise.map _ (R:=fun a b=>a<b/\b<m+1) (fun a b ⟨hab,hb⟩ e=>?_) ?_
  ·obtain⟨q,hq⟩:=h a (by omega)
   obtain⟨q',hq'⟩:=h b (by omega)
   rw[hq,hq'] at e
   have e:q=q':=e
   subst e
   have:=O.inj a b q hq hq'
   omega
  ·exact (List.Pairwise.and_mem.mp List.pairwise_lt_range).imp fun ⟨_,hb,hab⟩=>⟨hab,List.mem_range.mp hb⟩
 have:=WA _ (List.range n) e1 fun x hx=>by
  obtain⟨j,hj,rfl⟩:=List.mem_map.mp hx
  obtain⟨q,hq⟩:=h j (by have:=List.mem_range.mp hj;omega)
  rw[hq]
  exact List.mem_range.mpr (O.lt j q hq)
 rw[Za,Zg,Zg] at this
 omega
theorem Zfq {m:Nat}(M:Msk m){hs:List Int}{o:Array (Option Nat)}{n:Nat}{h:Int}(O:Own m hs o n)(hn:n<=m)(hh:hs[n]?=some h) :
  ∃j,layClean.free m o (turns m) (bits h % (m+1)) (bits h)=some j/\Own m hs (o.setIfInBounds j (some n)) (n+1):=by
 cases e:layClean.free m o (turns m) (bits h % (m+1)) (bits h) with
 |none=>
  obtain⟨j,hj,hno⟩:=Zfr O hn
  obtain⟨l,hl,el⟩:=Zdq M h hj
  exact absurd (el▸Ue _ _ _ (WJ m h) e l hl) hno
 |some j=>
  obtain⟨k,e1,e2,e3⟩:=Ud _ _ _ (WJ m h) e
  have hj:j<=m:=e1▸UN m h k
  have hjs:j<o.size:=by rw[O.sz];omega
  have get:∀i,(o.setIfInBounds j (some n))[i]?=if j=i then some (some n) else o[i]?:=fun i=>by
   rw[Array.getElem?_setIfInBounds]
   by_cases c:j=i
   ·subst c
    rw[if_pos rfl,if_pos rfl,if_pos hjs]
   ·rw[if_neg c,if_neg c]
  have hjn:∀q,o[j]?≠some (some q):=fun q z=>e2 ((Vf hjs).mpr ⟨q,z⟩)
  have up:∀x,x<=m->Ow o x->Ow (o.setIfInBounds j (some n)) x:=fun x hx ho=>by
   rw[Vf (by rw[O.sz];omega)] at ho
   rw[Vf (by rw[Array.size_setIfInBounds,O.sz];omega)]
   obtain⟨q,hq⟩:=ho
   rw[get]
   by_cases c:j=x
   ·exact⟨n,by rw[if_pos c]⟩
   ·exact⟨q,by rw[if_neg c];exact hq⟩
  refine⟨j,rfl,by rw[Array.size_setIfInBounds];exact O.sz,fun k' hk'=>?_,fun i q hq=>?_,fun i i' q hi hi'=>?_⟩
  ·by_cases c:k'=n
   ·subst c
    exact⟨j,h,hh,by rw[get,if_pos rfl],k,e1,fun k' hk'=>up _ (UN m h k') (e3 k' hk')⟩
   ·obtain⟨i,h',a1,a2,a3⟩:=O.put k' (by omega)
    exact⟨i,h',a1,by rw[get,if_neg fun z=>hjn _ (z▸a2)];exact a2,a3.mono up⟩
  ·rw[get] at hq
   by_cases c:j=i
   ·rw[if_pos c] at hq
    cases hq
    omega
   ·rw[if_neg c] at hq
    have:=O.lt i q hq
    omega
  ·rw[get] at hi hi'
   by_cases c:j=i
   ·rw[if_pos c] at hi
    cases hi
    by_cases c':j=i'
    ·omega
    ·rw[if_neg c'] at hi'
     have:=O.lt _ _ hi'
     omega
   ·rw[if_neg c] at hi
    by_cases c':j=i'
    ·rw[if_pos c'] at hi'
     cases hi'
     have:=O.lt _ _ hi
     omega
    ·rw[if_neg c'] at hi'
     exact O.inj i i' q hi hi'
theorem Za3 {m:Nat}(M:Msk m):∀(rest done:List Int) (o:Array (Option Nat)),Own m (done++rest) o done.length->(done++rest).length<=m->
  ∃o',rest.foldl (fun acc h=>do
   let (owner,k) <-acc
   let j <-layClean.free m owner (turns m) (bits h % (m+1)) (bits h)
   pure (owner.setIfInBounds j (some k),k+1)) (some (o,done.length))=some (o',(done++rest).length)/\Own m (done++rest) o' (done++rest).length
 | [],done,o,O,_=>⟨o,by rw[List.append_nil];rfl,by rw[List.append_nil] at O ⊢;exact O⟩
 |h::rest,done,o,O,hl=>by
  rw[Zd,Zi] at hl
  obtain⟨j,e,O'⟩:=Zfq M (h:=h) O (by omega) (by rw[List.getElem?_append_right (Zq _),Nat.sub_self];rfl)
  have ea:done++h::rest=(done++[h])++rest:=by simp
  have el:(done++[h]).length=done.length+1:=by simp
  rw[ea,<-el] at O'
  obtain⟨o',e1,e2⟩:=Za3 M rest (done++[h]) _ O' (by rw[<-ea,Zd,Zi];omega)
  refine⟨o',?_,ea▸e2⟩
  rw[List.foldl_cons]
  show List.foldl _ (do let j <-layClean.free m o (turns m) (bits h % (m+1)) (bits h);pure (o.setIfInBounds j (some done.length),done.length+1)) rest=_
  rw[e,ea,<-e1,el]
  rfl
theorem Zd7 {m:Nat}(M:Msk m)(hs:Array Int)(hl:hs.size<=m):∃o,layClean m hs=some o/\Own m hs.toList o hs.size:=by
 have O0:Own m ([]++hs.toList) (Array.replicate (m+1) none) ([]:List Int).length:=by
  have hnn:∀(j q:Nat),(Array.replicate (m+1) (none:Option Nat))[j]?≠some (some q):=fun j q z=>by
   rw[Array.getElem?_replicate] at z
   split at z <;> cases z
  exact⟨Array.size_replicate,fun k hk=>absurd hk (Nat.not_lt_zero _),fun j q z=>absurd z (hnn j q),fun j j' q z=>absurd z (hnn j q)⟩
 obtain⟨o,e1,e2⟩:=Za3 M hs.toList [] _ O0 (by rw[List.nil_append,Zr];exact hl)
 rw[List.nil_append,Zr] at e1 e2
 refine⟨o,?_,e2⟩
 unfold layClean
 rw[<-Array.foldl_toList]
 have e1':(List.foldl (fun acc h=>do
   let (owner,k) <-acc
   let j <-layClean.free m owner (turns m) (bits h % (m+1)) (bits h)
   pure (owner.setIfInBounds j (some k),k+1)) (some (Array.replicate (m+1) (none:Option Nat),0)) hs.toList)=some (o,hs.size):=e1
 rw[e1']
 rfl
theorem Zce {α β:Type}{f:α->Option β}:∀{l:List α},(∀x∈l,(f x).isSome=true)->∀i:Nat,(l.filterMap f)[i]?=l[i]?.bind f
 | [],_,i=>by simp
 |x::l,h,i=>by
  obtain⟨y,hy⟩:=Option.isSome_iff_exists.mp (h x List.mem_cons_self)
  rw[List.filterMap_cons,hy]
  dsimp only
  cases i with
  |zero=>rw[List.getElem?_cons_zero,List.getElem?_cons_zero];exact hy.symm
  |succ i=>rw[List.getElem?_cons_succ,List.getElem?_cons_succ];exact Zce (fun z hz=>h z (List.mem_cons_of_mem _ hz)) i
theorem Zf9 {α:Type}(l:List α):(List.range l.length).filterMap (fun i=>l[i]?)=l:=by
 refine List.ext_getElem? fun i=>?_
 rw[Zce (fun x hx=>by rw[Zf (List.mem_range.mp hx)];rfl)]
 by_cases h:i<l.length
 ·rw[List.getElem?_range h];rfl
 ·rw[List.getElem?_eq_none (by rw[Zg];omega),List.getElem?_eq_none (by omega)];rfl
section
variable {t:SetTable}{es:Array (Int×Value)}
def Yu (m:Nat)(o:Array (Option Nat)):List (Nat×Nat):=(List.range (m+1)).filterMap fun j=>(o.getD j none).map (j,·)
theorem ZfO {m:Nat}{o:Array (Option Nat)}(hs:o.size=m+1){j q:Nat}:(j,q)∈Yu m o↔o[j]?=some (some q):=by
 unfold Yu
 rw[List.mem_filterMap]
 constructor
 ·rintro⟨a,ha,e⟩
  obtain⟨q',e1,e2⟩:=Option.map_eq_some_iff.mp e
  injection e2 with e2 e3
  subst e2
  subst e3
  rw[Array.getD_eq_getD_getElem?] at e1
  cases h:o[a]? with
  |none=>rw[h] at e1;cases e1
  |some z=>rw[h] at e1;rw[show z=some q' from e1]
 ·intro e
  have hl:=(Array.getElem?_eq_some_iff.mp e).1
  refine⟨j,List.mem_range.mpr (by omega),?_⟩
  rw[Array.getD_eq_getD_getElem?,e]
  rfl
theorem ZdI {m wanted:Nat}(hm:sizeAbove wanted-1=m)(M:Msk m)(hl:es.size<=m):∃t' order,t.relaid (es.map (·.1)) wanted=some (t',order)/\List.Perm (order.filterMap (es[·]?)).toList es.toList/\T3 t' (order.filterMap (es[·]?))/\t'.mask=m/\t'.led=t.led/\t'.plain=t.plain:=by
 obtain⟨o,e,O⟩:=Zd7 M (es.map (·.1)) (by rw[Array.size_map];exact hl)
 rw[Array.size_map] at O
 have hmem:∀{j q:Nat},(j,q)∈Yu m o↔o[j]?=some (some q):=ZfO O.sz
 refine⟨{mask:=m,place:=((Yu m o).map (·.1)).toArray,dummies:=#[],finger:=t.finger,led:=t.led,moves:=t.movedTo m,plain:=t.plain},((Yu m o).map (·.2)).toArray,by unfold relaid laid;rw[hm,e];rfl,?_⟩
 have hL:∀q∈(Yu m o).map (·.2),(es[q]?).isSome=true:=fun q hq=>by
  obtain⟨⟨j,q'⟩,hjq,rfl⟩:=List.mem_map.mp hq
  rw[Array.getElem?_eq_getElem (O.lt j q' (hmem.mp hjq))]
  rfl
 have eL:(((Yu m o).map (·.2)).toArray.filterMap (es[·]?)).toList=((Yu m o).map (·.2)).filterMap (es[·]?):=by simp
 have hfst:(Yu m o).Pairwise fun a b=>a.1<b.1:=List.pairwise_map.mp (US fun j=>o.getD j none)
 have hnd:((Yu m o).map (·.2)).Nodup:=by
  refine List.pairwise_map.mpr ((List.Pairwise.and_mem.mp hfst).imp fun {a b} ⟨ha,hb,hab⟩ z=>?_)
  have h1:=hmem.mp (show (a.1,a.2)∈_ from ha)
  have h2:=hmem.mp (show (b.1,b.2)∈_ from hb)
  rw[z] at h1
  have:=O.inj _ _ _ h1 h2
  omega
 have hp:List.Perm ((Yu m o).map (·.2)) (List.range es.size):=(List.perm_ext_iff_of_nodup hnd List.nodup_range).mpr fun q=>by
  rw[List.mem_range]
  constructor
  ·intro hq
   obtain⟨⟨j,q'⟩,hjq,rfl⟩:=List.mem_map.mp hq
   exact O.lt j q' (hmem.mp hjq)
  ·intro hq
   obtain⟨j,_,_,e2,_⟩:=O.put q hq
   exact List.mem_map.mpr ⟨(j,q),hmem.mpr e2,rfl⟩
 have hperm:List.Perm (((Yu m o).map (·.2)).filterMap (es[·]?)) es.toList:=by
  refine (hp.filterMap _).trans ?_
  have:=Zf9 es.toList
  rw[Zr] at this
  simp only[Array.getElem?_toList] at this
  rw[this]
 rw[eL]
 refine⟨hperm,?_,rfl,rfl,rfl⟩
 have lvw:∀x q,o[x]?=some (some q)->x∈(Yu m o).map (·.1):=fun x q hq=>List.mem_map.mpr ⟨(x,q),hmem.mpr hq,rfl⟩
 have szp:(Yu m o).length=es.size:=by
  have:=hp.length_eq
  rwa [Za,Zg] at this
 refine⟨?_,rfl,M,fun x hx=>?_,?_,?_,fun i j e' h1 h2=>?_⟩
 ·unfold WG
  exact US fun j=>o.getD j none
 ·have hx:x∈((Yu m o).map (·.1)).toArray.toList:=hx
  rw[List.toList_toArray] at hx
  obtain⟨⟨j,q⟩,hjq,rfl⟩:=List.mem_map.mp hx
  have h:=(Array.getElem?_eq_some_iff.mp (hmem.mp hjq)).1
  rw[O.sz] at h
  show j<=m
  omega
 ·show ((Yu m o).map (·.1)).toArray.size=_
  rw[<-Zr (xs:=Array.filterMap _ _),eL,hperm.length_eq,Zr,Zh,Za,szp]
 ·rw[<-Zr,eL,hperm.length_eq,Zr]
  exact hl
 ·have h1:((Yu m o).map (·.1)).toArray[i]?=some j:=h1
  rw[List.getElem?_toArray,Zc] at h1
  rw[<-Array.getElem?_toList,eL,Zce hL,Zc] at h2
  obtain⟨⟨j',q⟩,hi,ej⟩:=Option.map_eq_some_iff.mp h1
  have ej:j'=j:=ej
  subst ej
  rw[hi] at h2
  have h2:es[q]?=some e':=h2
  have hq:=hmem.mp (List.mem_of_getElem? hi)
  obtain⟨j2,h,a1,a2,a3⟩:=O.put q (O.lt _ _ hq)
  have:=O.inj _ _ _ hq a2
  subst this
  rw[Array.getElem?_toList,Array.getElem?_map,h2] at a1
  have a1:e'.1=h:=Option.some.inj a1
  rw[a1]
  refine a3.mono fun x hx ho=>?_
  have hx:x<=m:=hx
  rw[Vf (by rw[O.sz];omega)] at ho
  obtain⟨q',hq'⟩:=ho
  show x∈((Yu m o).map (·.1)).toArray.toList
  rw[List.toList_toArray]
  exact lvw x q' hq'
end
end PyS
namespace PyS
open PySem PySem.SetTable PySem.W PyProof.Rows PySem.Calls PyProof.V PySem.Spec
abbrev TK (prog:Program)(w:World)(h:Heap)(ks:List Int)(a:Addr):Prop:=IsTupleKey (intKind prog w) h ks a
abbrev hT (prog:Program)(w:World)(ks:List Int):Int:=tupleKeyHash (intKind prog w) ks
section
variable {prog:Program}{w:World}{A:Around}{E:Value->Shared->Prop}{s:Shared}
theorem items_int {ks:List Int}{vs:List Value}(h:ItemsAre (intKind prog w) ks vs):∀v∈vs,∃k t,v=.int k t:=by
 induction h with
 |nil=>intro v hv;cases hv
 |cons h1 _ ih=>
  intro v hv
  rcases List.mem_cons.mp hv with rfl|hv
  ·obtain⟨t,e⟩:=Value.isInt_shape h1
   exact⟨_,t,e⟩
  ·exact ih v hv
theorem Zc2 {ks:List Int}{b:Addr}{Q:Bool->Shared->Prop}(hk:TK prog w s.heap ks b)(q:Q false s):wpAny (model prog w) A (ofAClassStatement 8 (.ref b)) Q E s:=by
 have hTy:=hk.typeIs
 obtain⟨o,items,n,ho,_,hd,hi⟩:=hk
 have hint:=items_int hi
 unfold ofAClassStatement
 refine Zl (wpAny_typeOf hTy ?_)
 dsimp only
 rw[if_pos (by decide)]
 refine Zl (Zm ?_)
 simp only[Bool.not_true,Bool.false_eq_true,if_false]
 refine Zl (wpAny_seqItems ho hd ?_)
 dsimp only
 refine Zl ?_
 rw[<-Array.forIn_toList]
 refine wpAny_forIn_list _ (fun rest r s'=>r.1=none/\s'=s/\∀v∈rest,∃k t,v=.int k t) _ ?_ ?_ _ _ ⟨rfl,rfl,hint⟩
 ·rintro v rest r s' ⟨hr,rfl,hall⟩
  obtain⟨k,t,rfl⟩:=hall v List.mem_cons_self
  unfold ofAClassStatement
  refine Zl (Zm ?_)
  simp only[Bool.false_eq_true,if_false]
  exact Zm ⟨rfl,rfl,fun u hu=>hall u (List.mem_cons_of_mem _ hu)⟩
 ·rintro⟨r1,r2⟩ s' ⟨hr,rfl,_⟩
  simp only at hr
  subst hr
  exact Zm q
theorem ZgD {ks:List Int}{b:Addr}{Q:Bool->Shared->Prop}(hk:TK prog w s.heap ks b)(q:Q true s):wpAny (model prog w) A (hashByValue 8 (.ref b)) Q E s:=by
 have hTy:=hk.typeIs
 obtain⟨o,items,n,ho,_,hd,hi⟩:=hk
 have hint:=items_int hi
 unfold hashByValue
 refine Zl (wpAny_specialOf hTy F.slot_tuple_hash.lookup ?_)
 show wpAny _ _ (seqItems? (.ref b) >>= _) _ _ s
 refine Zl (wpAny_seqItems ho hd ?_)
 refine Zl ?_
 show wpAny _ _ (forIn items _ _) _ _ s
 rw[<-Array.forIn_toList]
 refine wpAny_forIn_list _ (fun rest r s'=>r.1=none/\s'=s/\∀v∈rest,∃k t,v=.int k t) _ ?_ ?_ _ _ ⟨rfl,rfl,hint⟩
 ·rintro v rest r s' ⟨hr,rfl,hall⟩
  obtain⟨k,t,rfl⟩:=hall v List.mem_cons_self
  unfold hashByValue
  refine Zl (Zm ?_)
  simp only[Bool.not_true,Bool.false_eq_true,if_false]
  exact Zm ⟨rfl,rfl,fun u hu=>hall u (List.mem_cons_of_mem _ hu)⟩
 ·rintro⟨r1,r2⟩ s' ⟨hr,rfl,_⟩
  simp only at hr
  subst hr
  exact Zm q
theorem ZfF {kb:List Int}{b:Addr}{stored:List Value}{Q:Bool->Shared->Prop}(hb:TK prog w s.heap kb b)(hs:∀y∈stored,∃c ks,y=.ref c/\TK prog w s.heap ks c)(q:Q false s):wpAny (model prog w) A (searchCouldBeSeen (.ref b) stored) Q E s:=by
 unfold searchCouldBeSeen
 refine Zl ?_
 refine wpAny_forIn_list _ (fun rest r s'=>r.1=none/\s'=s/\∀y∈rest,∃c ks,y=.ref c/\TK prog w s.heap ks c) _ ?_ ?_ _ _ ⟨rfl,rfl,hs⟩
 ·rintro v rest r s' ⟨hr,rfl,hall⟩
  obtain⟨c,ks,rfl,hc⟩:=hall v List.mem_cons_self
  have go:∀u∈rest,∃c ks,u=Value.ref c/\TK prog w s'.heap ks c:=fun u hu=>hall u (List.mem_cons_of_mem _ hu)
  dsimp only
  by_cases e:(b == c)=true
  ·rw[e]
   simp only[Bool.true_or,if_true]
   exact Zm ⟨rfl,rfl,go⟩
  ·have e:(b == c)=false:=by simpa using e
   rw[e]
   simp only[carriedByValue,Bool.false_or,Bool.and_self,Bool.false_eq_true,if_false]
   refine Zl (wpAny_eqIsQuiet_tuple hb ?_)
   simp only[Bool.not_true,Bool.false_eq_true,if_false]
   refine Zl (wpAny_eqIsQuiet_tuple hc ?_)
   simp only[Bool.not_true,Bool.false_eq_true,if_false]
   refine Zl (Zc2 hb ?_)
   simp only[Bool.false_eq_true,if_false]
   refine Zl (Zc2 hc ?_)
   simp only[Bool.false_eq_true,if_false]
   exact Zm ⟨rfl,rfl,go⟩
 ·rintro⟨r1,r2⟩ s' ⟨hr,rfl,_⟩
  simp only at hr
  subst hr
  exact Zm q
end
structure SXT (prog:Program)(w:World)(key:Addr->List Int)(h:Heap)(a:Addr)(es:Array (Int×Value))(ep:Nat)(t:SetTable):Prop where
 at_:Wr h a es ep t
 t3:T3 t es
 full:es.size*5<t.mask*3
 led:t.led = !w.params.followText "set-order"
 pl:t.plain=true
 el:∀e∈es.toList,∃b,e.2=.ref b/\e.1=hT prog w (key b)/\TK prog w h (key b) b
section
variable {prog:Program}{w:World}{A:Around}{E:Value->Shared->Prop}{s:Shared}{a b:Addr}{es:Array (Int×Value)}{ep:Nat}{t:SetTable}{key:Addr->List Int}
theorem Zge (X:SXT prog w key s.heap a es ep t){i j:Nat}(h:t.place[i]?=some j):∃c,es[i]?=some (hT prog w (key c),.ref c)/\TK prog w s.heap (key c) c:=by
 have hi:=(Array.getElem?_eq_some_iff.mp h).1
 rw[X.t3.sz] at hi
 have e:es[i]?=some es[i]:=Array.getElem?_eq_getElem hi
 obtain⟨c,e1,e2,e3⟩:=X.el es[i] (by simp)
 exact⟨c,by rw[e,<-e2,<-e1],e3⟩
theorem ZdN (R:WG t.place){i i' j:Nat}(h:t.place[i]?=some j)(h':t.place[i']?=some j):i=i':=by
 rcases Nat.lt_trichotomy i i' with c|c|c
 ·have:=R.lt c h h';omega
 ·exact c
 ·have:=R.lt c h' h;omega
theorem ZdG {Q:SetFound->Shared->Prop}(hu:A.units<cLine)(X:SXT prog w key s.heap a es ep t)(hb:TK prog w s.heap (key b) b){K:Nat}(hK:K<10*turns t.mask)(hn:¬Lv t (wk t.mask K (JB t.mask (hT prog w (key b)))).j)(hl:∀k,k<K->Lv t (wk t.mask k (JB t.mask (hT prog w (key b)))).j)
  (q1:∀c,Value.ref c∈Yw es->key c=key b->Q (.there none) s) (q2:(∀c,Value.ref c∈Yw es->key c≠key b)->Q (.free (wk t.mask K (JB t.mask (hT prog w (key b)))).j false) s) :
  ∀(n m:Nat) (stand:Option Probe),K-m=n->m<=K->stand.getD (t.probeStart (hT prog w (key b)))=wk t.mask m (JB t.mask (hT prog w (key b)))->
   (∀(k i:Nat) (c:Addr),k<m->t.place[i]?=some (wk t.mask k (JB t.mask (hT prog w (key b)))).j->es[i]?=some (hT prog w (key c),.ref c)->key c≠key b)->∀fuel,n<fuel->wpAny (model prog w) A (setSearchFrom a (.ref b) (hT prog w (key b)) true fuel stand) Q E s:=by
 intro n
 induction n using Nat.strongRecOn with
 |_ n ih=>
 intro m stand hnm hmK hst hkn fuel hf
 obtain⟨fuel,rfl⟩:∃f,fuel=f+1:=⟨fuel-1,by omega⟩
 unfold setSearchFrom
 refine Zl (X.at_.state ?_)
 dsimp only
 have hgw:t.gaveWay=false:=by
  unfold SetTable.gaveWay
  rcases X.t3.msk with h|h|h <;> rw[h] <;> decide
 rw[hgw]
 simp only[Bool.false_eq_true,if_false]
 rw[hst]
 have hg:=Zf4 X.t3.dum (hashAt:=fun i=>(es[i]?.map (·.1)).getD 0) (h:=hT prog w (key b)) (10*turns t.mask) (wk t.mask m (JB t.mask (hT prog w (key b)))) (Zaq _ _ _)
 have hashAt:∀{i j:Nat},t.place[i]?=some j->∃c,es[i]?=some (hT prog w (key c),.ref c)/\((es[i]?.map (·.1)).getD 0)=hT prog w (key c):=fun {i j} h=>by
  obtain⟨c,e,_⟩:=Zge X h
  exact⟨c,e,by rw[e];rfl⟩
 show wpAny _ A (match probe.go t (fun i=>(es[i]?.map (·.1)).getD 0) (hT prog w (key b)) (10*turns t.mask) (wk t.mask m (JB t.mask (hT prog w (key b)))) with|some met=>_|_=>_) Q E s
 generalize probe.go t (fun i=>(es[i]?.map (·.1)).getD 0) (hT prog w (key b)) (10*turns t.mask) (wk t.mask m (JB t.mask (hT prog w (key b))))=r at hg
 cases hg with
 |none al=>
  exfalso
  have:=al (K-m) (by omega)
  rw[<-Yv,show m+(K-m)=K by omega] at this
  exact hn this
 | @empty j k hk e1 e2 al=>
  dsimp only
  rw[<-Yv] at e1
  have hne:¬Lv t j:=Zek X.t3.rise X.t3.dum e2
  have h1:¬m+k<K:=fun z=>hne (e1▸hl _ z)
  have h2:¬K<m+k:=fun z=>by
   obtain⟨i,hi,_⟩:=al (K-m) (by omega)
   rw[<-Yv,show m+(K-m)=K by omega] at hi
   rcases XY X.t3.dum (wk t.mask K (JB t.mask (hT prog w (key b)))).j with ⟨i',_,e⟩|⟨e,_⟩
   ·exact hn (Jc e)
   ·rw[e] at hi;cases hi
  have h3:m+k=K:=by omega
  rw[h3] at e1
  subst e1
  refine Zm (q2 fun c hc hkey=>?_)
  obtain⟨e,he,hec⟩:=List.mem_map.mp hc
  obtain⟨i,hi⟩:=List.getElem?_of_mem he
  rw[Array.getElem?_toList] at hi
  have his:i<es.size:=(Array.getElem?_eq_some_iff.mp hi).1
  have hp:t.place[i]?=some (t.place[i]'(by rw[X.t3.sz];exact his)):=Array.getElem?_eq_getElem _
  generalize t.place[i]'(by rw[X.t3.sz];exact his)=j' at hp
  obtain⟨c',ec',_⟩:=Zge X hp
  rw[hi] at ec'
  have ee:=Option.some.inj ec'
  subst ee
  have hcc:c'=c:=by injection hec
  subst hcc
  obtain⟨k0,p1,p2⟩:=X.t3.path i j' _ hp hi
  rw[hkey] at p1 p2
  have hk0:k0<K:=by
   rcases Nat.lt_trichotomy k0 K with z|z|z
   ·exact z
   ·rw[z] at p1
    exact absurd (p1▸Jc hp) hn
   ·exact absurd (p2 K z) hn
  by_cases z:k0<m
  ·exact hkn k0 i c' z (by rw[p1];exact hp) hi hkey
  ·obtain⟨i',q3,q4⟩:=al (k0-m) (by omega)
   rw[<-Yv,show m+(k0-m)=k0 by omega,p1,J9 X.t3.rise hp] at q3
   injection q3 with q3
   subst q3
   obtain⟨c2,ec2,hh⟩:=hashAt hp
   rw[hi] at ec2
   have:=Option.some.inj ec2
   injection this with z1 z2
   exact q4 (by rw[hh,<-z1,hkey])
 | @cand j i k hk e1 e2 e3 e4 al=>
  dsimp only
  rw[<-Yv] at e1
  obtain⟨c,ec,hh⟩:=hashAt e3
  obtain⟨c',ec',hc⟩:=Zge X e3
  have:c'=c:=by
   rw[ec] at ec'
   have:=Option.some.inj ec'
   injection this with _ z
   injection z with z
   exact z.symm
  subst this
  have hlt:m+k<K:=by
   rcases Nat.lt_trichotomy (m+k) K with z|z|z
   ·exact z
   ·rw[z] at e1
    exact absurd (e1▸Jc e3) hn
   ·obtain⟨i',q3,_⟩:=al (K-m) (by omega)
    rw[<-Yv,show m+(K-m)=K by omega] at q3
    rcases XY X.t3.dum (wk t.mask K (JB t.mask (hT prog w (key b)))).j with ⟨i',_,e⟩|⟨e,_⟩
    ·exact absurd (Jc e) hn
    ·rw[e] at q3;cases q3
  have fin:∀{s':Shared},s'=s->wpAny (model prog w) A (match es[i]? with
    |some (_,y)=>do
     let equal <-holding [y] (eqBool y (.ref b))
     let (es',_,t') <-setState a
     if (true && equal)=true then pure (SetFound.there none) else do
     match t'.sameMemory t.moves t.mask with
     |some same0=>do
      let still <-match (if same0 then t'.slot j else .empty) with
       | .live i'=>match es'[i']? with
        |some (_,y')=>do pure (if <-isSame y' y then some i' else none)
        |none=>pure none
       |_=>pure none
      match still with
      |none=>do rule "set.search.anew";setSearchFrom a (.ref b) (hT prog w (key b)) true fuel none
      |some i'=>if equal=true then pure (SetFound.there (some i')) else setSearchFrom a (.ref b) (hT prog w (key b)) true fuel (some (wk t.mask (k+1) (wk t.mask m (JB t.mask (hT prog w (key b))))))
     |_=>unsupported "set.changed-during-lookup:is-the-new-block-at-the-old-address"
    |_=>unsupported "internal:set-entry") Q E s':=by
   intro s' hs'
   subst hs'
   rw[ec]
   dsimp only
   refine Zl (wpAny_holding (wpAny_eqBool_tuple hu hc hb ?_))
   refine Zl (X.at_.state ?_)
   dsimp only
   by_cases hkey:key c'=key b
   ·rw[decide_eq_true hkey]
    simp only[Bool.and_self,if_true]
    refine Zm (q1 c' (List.mem_map.mpr ⟨(hT prog w (key c'),.ref c'),?_,rfl⟩) hkey)
    rw[<-Array.getElem?_toList] at ec
    exact List.mem_of_getElem? ec
   ·rw[decide_eq_false hkey]
    simp only[Bool.and_false,Bool.false_eq_true,if_false]
    have hsm:t.sameMemory t.moves t.mask=some true:=by
     unfold SetTable.sameMemory
     rw[if_pos (by simp)]
    rw[hsm]
    simp only[if_true]
    rw[e2]
    dsimp only
    rw[ec]
    dsimp only
    refine Zl (wpAny_isSame_ref_self ?_)
    refine Zl (Zm ?_)
    simp only[if_true]
    refine ih (K-(m+(k+1))) (by omega) (m+(k+1)) _ rfl (by omega) ?_ (fun k' i' c2 hk' hp' he'=>?_) fuel (by omega)
    ·rw[Option.getD_some]
     exact (Yv _ _ _ _).symm
    ·by_cases z:k'<m
     ·exact hkn k' i' c2 z hp' he'
     ·by_cases z2:k'=m+k
      ·subst z2
       rw[e1] at hp'
       have:=ZdN X.t3.rise e3 hp'
       subst this
       rw[ec] at he'
       have:=Option.some.inj he'
       injection this with _ z3
       injection z3 with z3
       exact z3▸hkey
      ·obtain⟨i2,q3,q4⟩:=al (k'-m) (by omega)
       rw[<-Yv,show m+(k'-m)=k' by omega,J9 X.t3.rise hp'] at q3
       injection q3 with q3
       subst q3
       intro zk
       refine q4 ?_
       show (es[i']?.map (·.1)).getD 0=_
       rw[he',<-zk]
       rfl
  by_cases hled:t.led=true
  ·rw[hled]
   simp only[Bool.not_true,Bool.false_eq_true,if_false]
   exact fin rfl
  ·have hled:t.led=false:=by simpa using hled
   rw[hled]
   simp only[Bool.not_false,if_true]
   refine Zl (ZfF hb (fun y hy=>?_) ?_)
   ·obtain⟨e,he,rfl⟩:=List.mem_map.mp hy
    have he:e∈es.toList:=by
     rw[Array.toList_filter] at he
     exact (List.mem_filter.mp he).1
    obtain⟨c,e1,_,e3⟩:=X.el e he
    exact⟨c,_,e1,e3⟩
   ·simp only[Bool.false_eq_true,if_false]
    exact fin rfl
end
def Vy (prog:Program)(w:World)(key:Addr->List Int)(h:Heap)(a:Addr)(M:List Addr):Prop:=∃es ep t,SXT prog w key h a es ep t/\List.Perm (Yw es) (M.map Value.ref)
section
variable {prog:Program}{w:World}{A:Around}{E:Value->Shared->Prop}{s:Shared}{a b:Addr}{es:Array (Int×Value)}{ep:Nat}{t:SetTable}{key:Addr->List Int}{M:List Addr}
theorem ZgO {h h':Heap}{ks:List Int}{c:Addr}(x:TK prog w h ks c)(S:Wr h a es ep t)(sb:Heap.SameBut a h h'):TK prog w h' ks c:=by
 obtain⟨o,items,n,ho,hc,hd,hi⟩:=x
 obtain⟨o',e1,e2,e3,e4⟩:=S
 have hne:c≠a:=fun z=>by
  subst z
  obtain rfl:o=o':=Option.some.inj (ho.symm.trans e1)
  rw[hd] at e3
  cases e3
 exact⟨o,items,n,(sb.2 c hne).trans ho,hc,hd,hi⟩
theorem SXT.size (X:SXT prog w key s.heap a es ep t)(p:List.Perm (Yw es) (M.map Value.ref)):es.size=M.length:=by
 have:=p.length_eq
 unfold Yw at this
 rwa [Za,Za,Zr] at this
theorem Zfb {m wanted:Nat}{Q:Unit->Shared->Prop}(S:Wr s.heap a es ep t)(hsz:es.size<=sizeLine)(hm:sizeAbove wanted-1=m)(hbig:¬sizeAbove wanted > sizeLine)(Mk:Msk m)(hl:es.size<=m)
  (q:∀(es':Array (Int×Value)) (t':SetTable),List.Perm es'.toList es.toList->T3 t' es'->t'.mask=m->t'.led=t.led->t'.plain=t.plain->t'.fits es'.size=true->Q () {s with heap:=s.heap.update a (Obj.putSet es' t')}):wpAny (model prog w) A (setRelay a wanted) Q E s:=by
 unfold setRelay
 refine Zl (S.state ?_)
 dsimp only
 rw[if_neg hbig]
 obtain⟨t',order,e,hp,h3,h4,h5,h6⟩:=ZdI (t:=t) (es:=es) hm Mk hl
 rw[e]
 have hz:(order.filterMap (es[·]?)).size=es.size:=by rw[<-Zr,hp.length_eq,Zr]
 refine Zl (m:=_) ?_
 show wpAny _ A (if ((order.filterMap (es[·]?)).size != es.size)=true then _ else _) _ E s
 rw[if_neg (by rw[hz];simp)]
 refine Zm ?_
 dsimp only
 refine YE S (by rw[hz];exact hsz) (q _ t' hp h3 h4 h5 h6 ?_)
 unfold SetTable.fits SetTable.fill
 rw[h3.dum,h3.sz]
 have:=h3.room
 simp
 omega
theorem ZhX {Q:Bool->Shared->Prop}(hu:A.units<cLine)(X:Vy prog w key s.heap a M)(hb:TK prog w s.heap (key b) b)(hM:M.length+1<=70)
  (q1:∀c∈M,key c=key b->Q false s) (q2:(∀c∈M,key c≠key b)->∀h',Heap.SameBut a s.heap h'->Vy prog w key h' a (M++[b])->Q true {s with heap:=h'}) :
  wpAny (model prog w) A (setAddHashed a (.ref b) (hT prog w (key b))) Q E s:=by
 obtain⟨es,ep,t,X,hp⟩:=X
 have hsz:=X.size hp
 unfold setAddHashed setAddHashedIn
 refine wpAny_holding (Zl (X.at_.state ?_))
 dsimp only
 have hbs:byScan (.ref b) es=false:=rfl
 rw[hbs]
 simp only[Bool.false_eq_true,if_false]
 obtain⟨K,hK,hn,hl⟩:=Zbc X.t3 (hT prog w (key b))
 have hv:∀c,Value.ref c∈Yw es↔c∈M:=fun c=>by
  rw[hp.mem_iff,List.mem_map]
  constructor
  ·rintro⟨d,hd,e⟩
   cases e
   exact hd
  ·exact fun h=>⟨c,h,rfl⟩
 refine Zl ?_
 unfold setSearch
 refine ZdG hu X hb hK hn hl (fun c hc hk=>?_) (fun hno=>?_) _ 0 none rfl (Nat.zero_le _) rfl (fun k i c hk=>absurd hk (Nat.not_lt_zero _)) _ ?_
 ·exact Zm (q1 c ((hv c).mp hc) hk)
 ·dsimp only
  refine Zl (X.at_.state ?_)
  dsimp only
  rw[ZiX X.t3.dum]
  dsimp only
  rw[X.pl]
  simp only[if_true]
  refine Zl (ZgD hb ?_)
  simp only[if_true]
  have hfull:=X.full
  have msk:=X.t3.msk
  have hroom:es.size+1<=t.mask:=by rcases msk with h|h|h <;> rw[h] at hfull ⊢ <;> omega
  have T':=X.t3.put (x:=Value.ref b) hn hl hroom
  generalize (wk t.mask K (JB t.mask (hT prog w (key b)))).j=j at T' ⊢
  have hlv:(insertAt es (below t.place j) (hT prog w (key b),Value.ref b)).size=es.size+1:=by
   rw[<-Zr,(insertAt_perm _ _ _).length_eq,Array.toList_push,Zd,Zr];rfl
  have hperm:List.Perm (Yw (insertAt es (below t.place j) (hT prog w (key b),Value.ref b))) ((M++[b]).map Value.ref):=by
   unfold Yw
   refine ((insertAt_perm _ _ _).map _).trans ?_
   rw[Array.toList_push,List.map_append,List.map_append]
   exact hp.append_right _
  have hel:∀e∈(insertAt es (below t.place j) (hT prog w (key b),Value.ref b)).toList,∃c,e.2=.ref c/\e.1=hT prog w (key c)/\TK prog w s.heap (key c) c:=fun e he=>by
   rw[(insertAt_perm _ _ _).mem_iff,Array.toList_push,List.mem_append,List.mem_singleton] at he
   rcases he with he|rfl
   ·exact X.el e he
   ·exact⟨b,rfl,rfl,hb⟩
  generalize insertAt es (below t.place j) (hT prog w (key b),Value.ref b)=es1 at T' hlv hperm hel ⊢
  have hno':∀c∈M,key c≠key b:=fun c hc=>hno c ((hv c).mpr hc)
  have led1:({t with place:=insertAt t.place (below t.place j) j,plain:=true}:SetTable).led = !w.params.followText "set-order":=X.led
  have plT:({t with place:=insertAt t.place (below t.place j) j}:SetTable)={t with place:=insertAt t.place (below t.place j) j,plain:=true}:=by rw[<-X.pl]
  rw[plT] at T'
  generalize ht1:({t with place:=insertAt t.place (below t.place j) j,plain:=true}:SetTable)=t1 at T' led1 ⊢
  have hmk:t1.mask=t.mask:=by rw[<-ht1]
  have pl1:t1.plain=true:=by rw[<-ht1]
  have sz1:es1.size<=sizeLine:=by
   have:(16777216:Nat)=sizeLine:=by decide
   omega
  have fit1:t1.fits es1.size=true:=by
   unfold SetTable.fits SetTable.fill
   rw[T'.dum,T'.sz]
   have:=T'.room
   simp
   omega
  have tk2:∀{h':Heap},Heap.SameBut a s.heap h'->∀e∈es1.toList,∃c,e.2=.ref c/\e.1=hT prog w (key c)/\TK prog w h' (key c) c:=fun sb e he=>by
   obtain⟨c,e1,e2,e3⟩:=hel e he
   exact⟨c,e1,e2,ZgO e3 X.at_ sb⟩
  refine Zl (YE X.at_ sz1 ?_)
  have S2:=stored X.at_ (es':=es1) fit1
  have sbb:=Heap.SameBut.update s.heap a (Obj.putSet es1 t1)
  generalize s.heap.update a (Obj.putSet es1 t1)=h2 at S2 sbb ⊢
  have hfl:t1.fill=es.size+1:=by
   unfold SetTable.fill
   rw[T'.dum,T'.sz,hlv]
   rfl
  by_cases hf:t1.tooFull=true
  ·rw[hf]
   simp only[Bool.not_false,Bool.and_self,if_true]
   have hf':(es.size+1)*5 ≥ t.mask*3:=by
    unfold SetTable.tooFull at hf
    rw[hfl,hmk] at hf
    exact of_decide_eq_true hf
   have cases2:(t.mask=7/\es.size=4)\/(t.mask=31/\es.size=18):=by
    rcases msk with h|h|h <;> rw[h] at hf' hfull <;> omega
   obtain⟨m',e1,e2,e3,e4,e5⟩:∃m',sizeAbove (grown (es.size+1))-1=m'/\¬sizeAbove (grown (es.size+1)) > sizeLine/\Msk m'/\es1.size<=m'/\es1.size*5<m'*3:=by
    have sl:(16777216:Nat)=sizeLine:=by decide
    rcases cases2 with ⟨_,h⟩|⟨_,h⟩
    ·rw[hlv,h]
     exact⟨31,by decide +kernel,by rw[<-sl];decide +kernel,.inr (.inl rfl),by decide,by decide⟩
    ·rw[hlv,h]
     exact⟨127,by decide +kernel,by rw[<-sl];decide +kernel,.inr (.inr rfl),by decide,by decide⟩
   refine Zl (Zfb (s:={s with heap:=h2}) S2 sz1 e1 e2 e3 e4 fun es' t' hpe h3 h4 h5 h6 h7=>?_)
   have sb2:=sbb.trans (Heap.SameBut.update h2 a (Obj.putSet es' t'))
   have hsz':es'.size=es1.size:=by rw[<-Zr,hpe.length_eq,Zr]
   refine Zm (q2 hno' _ sb2 ⟨es',_,t',⟨stored S2 h7,h3,by rw[h4,hsz'];exact e5,h5.trans led1,h6.trans pl1,fun e he=>tk2 sb2 e (hpe.mem_iff.mp he)⟩,?_⟩)
   exact (hpe.map _).trans hperm
  ·have hf:t1.tooFull=false:=by simpa using hf
   rw[hf]
   simp only[Bool.and_false,Bool.false_eq_true,if_false]
   have hf':¬(es.size+1)*5 ≥ t.mask*3:=by
    unfold SetTable.tooFull at hf
    rw[hfl,hmk] at hf
    exact of_decide_eq_false hf
   exact Zm (q2 hno' _ sbb ⟨es1,_,t1,⟨S2,T',by rw[hlv,hmk];omega,led1,pl1,tk2 sbb⟩,hperm⟩)
 ·rcases X.t3.msk with h|h|h <;> rw[h] at hK <;> unfold turns at hK <;> omega
end
def VU (key:Addr->List Int)(acc:List Addr)(b:Addr):List Addr:=if (acc.any fun c=>decide (key c=key b))=true then acc else acc++[b]
def Ji (key:Addr->List Int)(bs:List Addr):List Addr:=bs.foldl (VU key) []
theorem Xd (key:Addr->List Int)(bs:List Addr)(b:Addr):Ji key (bs++[b])=VU key (Ji key bs) b:=by
 unfold Ji
 rw[List.foldl_append]
 rfl
theorem VS {key:Addr->List Int}{acc:List Addr}{b c:Addr}(hc:c∈acc)(e:key c=key b):VU key acc b=acc:=by
 unfold VU
 rw[if_pos (List.any_eq_true.mpr ⟨c,hc,decide_eq_true e⟩)]
theorem VT {key:Addr->List Int}{acc:List Addr}{b:Addr}(h:∀c∈acc,key c≠key b):VU key acc b=acc++[b]:=by
 unfold VU
 rw[if_neg]
 intro z
 obtain⟨c,hc,e⟩:=List.any_eq_true.mp z
 exact h c hc (of_decide_eq_true e)
structure ZiC (key:Addr->List Int)(bs M:List Addr):Prop where
 sub:∀c∈M,c∈bs
 nd:(M.map key).Nodup
 all:∀b∈bs,∃c∈M,key c=key b
 len:M.length<=bs.length
theorem UY (key:Addr->List Int)(bs:List Addr):ZiC key bs (Ji key bs):=by
 suffices h:∀n,n<=bs.length->ZiC key (bs.take n) (Ji key (bs.take n)) by
  have:=h bs.length (Zq _)
  rwa [List.take_length] at this
 intro n
 induction n with
 |zero=>intro _;exact⟨fun c h=>(by cases h),List.nodup_nil,fun b h=>(by cases h),Zq _⟩
 |succ n ih=>
  intro hn
  have ih:=ih (by omega)
  have et:bs.take (n+1)=bs.take n++[bs[n]]:=(List.take_append_getElem (by omega)).symm
  rw[et,Xd]
  generalize bs.take n=p at ih ⊢
  generalize bs[n]=b
  generalize Ji key p=M at ih ⊢
  by_cases h:∃c∈M,key c=key b
  ·obtain⟨c,hc,e⟩:=h
   rw[VS hc e]
   refine⟨fun c hc=>List.mem_append_left _ (ih.sub c hc),ih.nd,fun x hx=>?_,by rw[Zd];have:=ih.len;omega⟩
   rcases List.mem_append.mp hx with hx|hx
   ·exact ih.all x hx
   ·rw[List.mem_singleton.mp hx];exact⟨c,hc,e⟩
  ·have h:∀c∈M,key c≠key b:=fun c hc e=>h ⟨c,hc,e⟩
   rw[VT h]
   refine⟨fun c hc=>?_,?_,fun x hx=>?_,by rw[Zd,Zd];have:=ih.len;exact Nat.add_le_add this (Zq _)⟩
   ·rcases List.mem_append.mp hc with hc|hc
    ·exact List.mem_append_left _ (ih.sub c hc)
    ·exact List.mem_append_right _ hc
   ·rw[List.map_append,List.nodup_append]
    refine⟨ih.nd,by simp,fun x hx y hy=>?_⟩
    obtain⟨c,hc,rfl⟩:=List.mem_map.mp hx
    have hy:y=key b:=by simpa using hy
    rw[hy]
    exact h c hc
   ·rcases List.mem_append.mp hx with hx|hx
    ·obtain⟨c,hc,e⟩:=ih.all x hx
     exact⟨c,List.mem_append_left _ hc,e⟩
    ·rw[List.mem_singleton.mp hx]
     exact⟨b,List.mem_append_right _ (List.mem_singleton.mpr rfl),rfl⟩
section
variable {prog:Program}{w:World}{A:Around}{R:Result->Shared->Prop}{I:Addr}{fp wr:List Addr}{G:Array GenState->Array GenState->Prop}{n:Nat}{P:Nat->Value->Prop}{St:Nat->Shared->Prop}
theorem Vy.keep {key:Addr->List Int}{h h':Heap}{a:Addr}{M:List Addr}(X:Vy prog w key h a M)(k:∀o,h.get? a=some o->h'.get? a=some o)(kt:∀c∈M,TK prog w h (key c) c->TK prog w h' (key c) c):Vy prog w key h' a M:=by
 obtain⟨es,ep,t,X,p⟩:=X
 refine⟨es,ep,t,⟨X.at_.keep k,X.t3,X.full,X.led,X.pl,fun e he=>?_⟩,p⟩
 obtain⟨b,e1,e2,e3⟩:=X.el e he
 refine⟨b,e1,e2,kt b ?_ e3⟩
 have:Value.ref b∈Yw es:=List.mem_map.mpr ⟨e,he,e1⟩
 obtain⟨c,hc,z⟩:=List.mem_map.mp (p.mem_iff.mp this)
 cases z
 exact hc
theorem JA {h h':Heap}{ks:List Int}{c:Addr}(k:∀o,h.get? c=some o->h'.get? c=some o)(x:TK prog w h ks c):TK prog w h' ks c:=by
 obtain⟨o,items,m,ho,r⟩:=x
 exact⟨o,items,m,k o ho,r⟩
theorem ZdA (hu:A.in1.units<cLine)(W:WalksS prog w A.in1 I fp wr G n P St)(S:Addr)(hSf:S∉fp)(key:Addr->List Int)(bs:List Addr)(hbl:bs.length=n)(hn:n<=69)(hval:∀i v,P i v->∃b,bs[i]?=some b/\v=.ref b)(hbw:∀b∈bs,b∉S::wr) :
  ∀(k i:Nat) (s:Shared),n-i=k->i<=n->St i s->Vy prog w key s.heap S (Ji key (bs.take i))->(∀b∈bs,TK prog w s.heap (key b) b)->
   (∀s',Moved (S::wr) G s s'->Vy prog w key s'.heap S (Ji key bs)->R (.ok (.ret .none)) s')->
   codeAny (model prog w) A (.builtin "set.update.loop" ⟨[.ref S,.ref I],[]⟩) R s:=by
 have hSw:S∉wr:=fun h=>hSf (W.sub _ h)
 have hsub:∀b∈wr,b∈S::wr:=fun b hb=>List.mem_cons_of_mem _ hb
 have hbw':∀b∈bs,b∉wr:=fun b hb z=>hbw b hb (List.mem_cons_of_mem _ z)
 have msub:∀i,∀c∈Ji key (bs.take i),c∈bs:=fun i c hc=>List.mem_of_mem_take ((UY key (bs.take i)).sub c hc)
 intro k
 induction k with
 |zero=>
  intro i s hk hi hst hS hT hR
  have hin:i=n:=by omega
  subst hin
  refine codeAny_builtin PyProof.Rows.F.entry_set_update_loop ?_
  rw[Around.under_plainId PyProof.Rows.F.plain_set_update_loop _]
  show wpAny _ A.in1 (pyNext (.ref I) >>= _) _ _ s
  refine Zl (W.done s _ _ hst fun s' hm=>?_)
  show wpAny _ A.in1 (ret Value.none) _ _ s'
  rw[<-hbl,List.take_length] at hS
  refine Zm (hR s' (hm.mono hsub) (hS.keep (fun o e=>hm.heap S o hSw e) fun c hc=>JA fun o e=>hm.heap c o (hbw' c ((UY key bs).sub c hc)) e))
 |succ k ih=>
  intro i s hk hi hst hS hT hR
  have hlt:i<n:=by omega
  refine codeAny_builtin PyProof.Rows.F.entry_set_update_loop ?_
  rw[Around.under_plainId PyProof.Rows.F.plain_set_update_loop _]
  show wpAny _ A.in1 (pyNext (.ref I) >>= _) _ _ s
  refine Zl (W.item i s _ _ hlt hst fun v s' hP hst' hm=>?_)
  obtain⟨b,hb,rfl⟩:=hval i v hP
  have hbm:b∈bs:=List.mem_of_getElem? hb
  have hT':∀b∈bs,TK prog w s'.heap (key b) b:=fun c hc=>JA (fun o e=>hm.heap c o (hbw' c hc) e) (hT c hc)
  have hS':=hS.keep (fun o e=>hm.heap S o hSw e) fun c hc=>JA fun o e=>hm.heap c o (hbw' c (msub i c hc)) e
  show wpAny _ A.in1 (holding [Value.ref b] (setAdd S (.ref b)) >>= _) _ _ s'
  refine Zl (wpAny_holding ?_)
  unfold setAdd
  refine wpAny_holding ?_
  refine Zl (wpAny_pyHash_tuple hu (hT' b hbm) ?_)
  have et:bs.take (i+1)=bs.take i++[b]:=by
   have hi':i<bs.length:=by omega
   have e:bs[i]=b:=Option.some.inj ((Zf hi').symm.trans hb)
   rw[<-e]
   exact (List.take_append_getElem hi').symm
  have hln:(Ji key (bs.take i)).length<=i:=Nat.le_trans (UY key (bs.take i)).len (by rw[List.length_take];omega)
  have fin:∀h':Heap,Heap.SameBut S s'.heap h'->Vy prog w key h' S (Ji key (bs.take (i+1)))->∀tk:Nat,s'.toks<=tk->
    codeAny (model prog w) A (.builtin "set.update.loop" ⟨[.ref S,.ref I],[]⟩) R {s' with heap:=h',toks:=tk}:=fun h' hsb hSi tk htk=>by
   refine ih (i+1) _ (by omega) hlt (W.frame _ s' _ _ hst' htk fun b hb o e=>?_) hSi (fun c hc=>JA (fun o e=>by rw[hsb.2 c fun z=>hbw c hc (by rw[z];exact List.mem_cons_self)];exact e) (hT' c hc)) fun s'' hm'' hS''=>?_
   ·rw[hsb.2 b (fun h:b=S=>hSf (by rw[<-h];exact hb))];exact e
   ·refine hR s'' (Moved.trans W.gtrans ((hm.mono hsub).then_heap htk fun b o hb e=>?_) hm'') hS''
    rw[hsb.2 b (fun h:b=S=>hb (by rw[h];exact List.mem_cons_self))];exact e
  refine ZhX (s:={s' with toks:=_}) hu hS' (hT' b hbm) (by omega) (fun c hc e=>?_) (fun hno h' hsb hS2=>?_)
  ·refine Zm ⟨plainId_quiet PyProof.Rows.F.plain_set_update_loop _,?_⟩
   refine fin s'.heap (Heap.SameBut.refl S s'.heap) ?_ _ (Nat.le_add_right _ _)
   rw[et,Xd,VS hc e]
   exact hS'
  ·refine Zm ⟨plainId_quiet PyProof.Rows.F.plain_set_update_loop _,?_⟩
   refine fin h' hsb ?_ _ (Nat.le_add_right _ _)
   rw[et,Xd,VT hno]
   exact hS2
end
end PyS
namespace PyZ
open PySem PyProof PyProof.Rows
def Runs (n:Nat)(cmp:Nat->Nat->Bool){α:Type}:W.KasT α->(α->Prop)->Prop
 | .ret a,Q=>Q a
 | .ask i j k,Q=>i<n/\j<n/\Runs n cmp (k (cmp i j)) Q
theorem Runs.run {n:Nat}{cmp:Nat->Nat->Bool}{α:Type}{Q:α->Prop}:∀{t:W.KasT α},Runs n cmp t Q->∃a,X6 n cmp t=some a/\Q a
 | .ret a,h=>⟨a,rfl,h⟩
 | .ask i j k,h=>by
  obtain⟨h1,h2,h3⟩:=h
  obtain⟨a,e,q⟩:=h3.run
  exact⟨a,by rw[X6,if_pos ⟨h1,h2⟩];exact e,q⟩
theorem Runs.bind {n:Nat}{cmp:Nat->Nat->Bool}{α β:Type}{f:α->W.KasT β}{Q:β->Prop}:∀{t:W.KasT α},Runs n cmp t (fun a=>Runs n cmp (f a) Q)->Runs n cmp (t.bind f) Q
 | .ret a,h=>h
 | .ask i j k,h=>⟨h.1,h.2.1,h.2.2.bind⟩
theorem Runs.mono {n:Nat}{cmp:Nat->Nat->Bool}{α:Type}{Q Q':α->Prop}(hq:∀a,Q a->Q' a):∀{t:W.KasT α},Runs n cmp t Q->Runs n cmp t Q'
 | .ret a,h=>hq a h
 | .ask i j k,h=>⟨h.1,h.2.1,h.2.2.mono hq⟩
section
variable {n:Nat}{rank:Nat->Nat}
abbrev YU (rank:Nat->Nat):Nat->Nat->Bool:=fun i j=>decide (rank i<rank j)
def RK (rank:Nat->Nat)(p:Array Nat)(i:Nat):Nat:=rank (p.getD i 0)
structure VA (n:Nat)(p:Array Nat):Prop where
 pm:p.Perm (List.range n).toArray
theorem VA.size {p:Array Nat}(h:VA n p):p.size=n:=by
 have:=h.pm.size_eq
 simpa using this
theorem VA.lt {p:Array Nat}(h:VA n p){i:Nat}(hi:i<n):p.getD i 0<n:=by
 have hs:=h.size
 have hp:p.toList.Perm (List.range n):=by have:=h.pm;rw[Array.perm_iff_toList_perm] at this;simpa using this
 have e:p.getD i 0=p[i]'(by omega):=by simp[Array.getD,hs,hi]
 rw[e]
 have hm:p[i]'(by omega)∈p.toList:=by simp
 exact List.mem_range.mp (hp.mem_iff.mp hm)
theorem W6 {p q:Array Nat}{i j:Nat}(h:p[i]?=q[j]?):RK rank p i=RK rank q j:=by
 unfold RK
 rw[Array.getD_eq_getD_getElem?,Array.getD_eq_getD_getElem?,h]
theorem Zex {xs:Array Nat}{src d:Nat}(hs:src<xs.size)(hd:d<=src)(k:Nat) :
  RK rank (bubble xs src d) k=if k=src-d then RK rank xs src else if src-d<k/\k<=src then RK rank xs (k-1) else RK rank xs k:=by
 have e:=getElem?_bubble hs d hd k
 by_cases h1:k=src-d
 ·rw[if_pos h1] at e ⊢;exact W6 e
 ·rw[if_neg h1] at e ⊢
  by_cases h2:src-d<k/\k<=src
  ·rw[if_pos h2] at e ⊢;exact W6 e
  ·rw[if_neg h2] at e ⊢;exact W6 e
theorem Zcr {xs:Array Nat}{i j:Nat}(hj:j<=xs.size)(k:Nat):RK rank (W.kas_rev xs i j) k=if i<=k/\k<j then RK rank xs (i+j-1-k) else RK rank xs k:=by
 have e:=getElem?_mirror_all (i:=i) hj k
 unfold W.kas_rev
 by_cases h1:i<=k/\k<j
 ·rw[if_pos h1] at e ⊢;exact W6 e
 ·rw[if_neg h1] at e ⊢;exact W6 e
theorem Xn {xs:Array Nat}{i j:Nat}(hj:j<=xs.size)(heq:∀k,i<=k->k<j->RK rank xs k=RK rank xs (j-1))(k:Nat):RK rank (W.kas_rev xs i j) k=RK rank xs k:=by
 rw[Zcr hj]
 split
 ·rw[heq _ (by omega) (by omega),heq k (by omega) (by omega)]
 ·rfl
theorem VA.rev {p:Array Nat}(h:VA n p)(i j:Nat):VA n (W.kas_rev p i j):=⟨(mirror_perm p i j _).trans h.pm⟩
theorem VA.bub {p:Array Nat}(h:VA n p)(k d:Nat):VA n (bubble p k d):=⟨(bubble_perm p k d).trans h.pm⟩
def Up (rank:Nat->Nat)(p:Array Nat)(k:Nat):Prop:=∀i j,i<=j->j<k->RK rank p i<=RK rank p j
def Dn (rank:Nat->Nat)(p:Array Nat)(k:Nat):Prop:=∀i j,i<=j->j<k->RK rank p j<=RK rank p i
theorem Up.snoc {p:Array Nat}{k:Nat}(h1:1<=k)(h:Up rank p k)(hk:RK rank p (k-1)<=RK rank p k):Up rank p (k+1):=fun i j hij hj=>by
 by_cases e:j=k
 ·subst e
  by_cases e2:i=j
  ·rw[e2];exact Zq _
  ·exact Nat.le_trans (h i (j-1) (by omega) (by omega)) hk
 ·exact h i j hij (by omega)
theorem Dn.snoc {p:Array Nat}{k:Nat}(h1:1<=k)(h:Dn rank p k)(hk:RK rank p k<=RK rank p (k-1)):Dn rank p (k+1):=fun i j hij hj=>by
 by_cases e:j=k
 ·subst e
  by_cases e2:i=j
  ·rw[e2];exact Zq _
  ·exact Nat.le_trans hk (h i (j-1) (by omega) (by omega))
 ·exact h i j hij (by omega)
theorem Zcn {p:Array Nat}(hp:VA n p):∀(f k:Nat),1<=k->k+f<=n->Up rank p k->Runs n (YU rank) (W.kas_asc p f k) fun m=>k<=m/\m<=k+f/\Up rank p m/\(m<k+f->RK rank p m<RK rank p (m-1))
 |0,k,h1,hk,hu=>⟨Zq _,Zq _,hu,fun z=>absurd z (by omega)⟩
 |f+1,k,h1,hk,hu=>by
  refine⟨hp.lt (by omega),hp.lt (by omega),?_⟩
  by_cases c:rank (p.getD k 0)<rank (p.getD (k-1) 0)
  ·rw[show YU rank _ _=true from decide_eq_true c]
   exact⟨Zq _,by omega,hu,fun _=>c⟩
  ·rw[show YU rank _ _=false from decide_eq_false c]
   refine (Zcn hp f (k+1) (by omega) (by omega) (hu.snoc h1 (by unfold RK;omega))).mono fun m ⟨a,b,u,d⟩=>⟨by omega,by omega,u,fun z=>d (by omega)⟩
theorem XM:∀(f:Nat) (p:Array Nat) (k q:Nat),VA n p->1<=k->k+f<=n->q+1<=k->Dn rank p k->(∀j,k-1-q<=j->j<k->RK rank p j=RK rank p (k-1))->
  Runs n (YU rank) (W.kas_desc f p k q) fun r=>VA n r.1/\1<=r.2.1/\r.2.1<=k+f/\r.2.2+1<=r.2.1/\Dn rank r.1 r.2.1/\∀j,r.2.1-1-r.2.2<=j->j<r.2.1->RK rank r.1 j=RK rank r.1 (r.2.1-1)
 |0,p,k,q,hp,h1,hk,hq,hd,he=>⟨hp,h1,Zq _,hq,hd,he⟩
 |f+1,p,k,q,hp,h1,hk,hq,hd,he=>by
  refine⟨hp.lt (by omega),hp.lt (by omega),?_⟩
  by_cases c:rank (p.getD k 0)<rank (p.getD (k-1) 0)
  ·rw[show YU rank _ _=true from decide_eq_true c]
   show Runs n (YU rank) (if q > 0 then W.kas_desc f (W.kas_rev p (k-(q+1)) k) (k+1) 0 else W.kas_desc f p (k+1) 0) _
   have hd2:=hd.snoc h1 (Nat.le_of_lt c)
   have sz:=hp.size
   split
   ·have er:∀j,RK rank (W.kas_rev p (k-(q+1)) k) j=RK rank p j:=fun j=>Xn (by omega) (fun i a b=>he i (by omega) b) j
    refine (XM f _ (k+1) 0 (hp.rev _ _) (by omega) (by omega) (by omega) (fun i j a b=>?_) (fun j a b=>?_)).mono fun r ⟨a,b,c,d⟩=>⟨a,b,by omega,d⟩
    ·rw[er,er];exact hd2 i j a b
    ·rw[show j=k+1-1 by omega]
   ·refine (XM f _ (k+1) 0 hp (by omega) (by omega) (by omega) hd2 (fun j a b=>?_)).mono fun r ⟨a,b,c,d⟩=>⟨a,b,by omega,d⟩
    rw[show j=k+1-1 by omega]
  ·rw[show YU rank _ _=false from decide_eq_false c]
   refine⟨hp.lt (by omega),hp.lt (by omega),?_⟩
   by_cases d:rank (p.getD (k-1) 0)<rank (p.getD k 0)
   ·rw[show YU rank _ _=true from decide_eq_true d]
    exact⟨hp,h1,(show k<=k+(f+1) by omega),hq,hd,he⟩
   ·rw[show YU rank _ _=false from decide_eq_false d]
    have e:RK rank p k=RK rank p (k-1):=by unfold RK;omega
    refine (XM f _ (k+1) (q+1) hp (by omega) (by omega) (by omega) (hd.snoc h1 (by omega)) (fun j a b=>?_)).mono fun r ⟨a,b,c,d⟩=>⟨a,b,by omega,d⟩
    rw[show k+1-1=k by omega]
    by_cases ej:j=k
    ·rw[ej]
    ·rw[he j (by omega) (by omega),e]
theorem Zas {p:Array Nat}{k:Nat}(hp:VA n p)(h1:1<=k)(hk:k<=n)(hd:Dn rank p k):Runs n (YU rank) (W.kas_tail3 k n p) fun r=>1<=r.1/\r.1<=n/\VA n r.2/\Up rank r.2 r.1:=by
 have sz:=hp.size
 have hu:Up rank (W.kas_rev p 0 k) k:=fun i j a b=>by
  rw[Zcr (by omega),Zcr (by omega),if_pos ⟨Nat.zero_le _,by omega⟩,if_pos ⟨Nat.zero_le _,b⟩]
  exact hd _ _ (by omega) (by omega)
 exact Runs.bind ((Zcn (hp.rev 0 k) (n-k) k h1 (by omega) hu).mono fun m ⟨a,b,c,_⟩=>⟨Nat.le_trans h1 a,by show m<=n;omega,hp.rev 0 k,c⟩)
theorem Xw {p:Array Nat}{k:Nat}(hp:VA n p)(hk:k+1<=n)(hd:Dn rank p (k+1)):Runs n (YU rank) (W.kas_descPart k n p) fun r=>1<=r.1/\r.1<=n/\VA n r.2/\Up rank r.2 r.1:=by
 refine Runs.bind ((XM (n-(k+1)) p (k+1) 0 hp (by omega) (by omega) (by omega) hd (fun j a b=>by rw[show j=k+1-1 by omega])).mono fun r ⟨a,b,c,d,e,g⟩=>?_)
 have sz:=a.size
 show Runs n (YU rank) (if r.2.2 > 0 then W.kas_tail3 r.2.1 n (W.kas_rev r.1 (r.2.1-(r.2.2+1)) r.2.1) else W.kas_tail3 r.2.1 n r.1) _
 split
 ·have er:∀j,RK rank (W.kas_rev r.1 (r.2.1-(r.2.2+1)) r.2.1) j=RK rank r.1 j:=fun j=>Xn (by omega) (fun i x y=>g i (by omega) y) j
  exact Zas (a.rev _ _) b (by omega) fun i j x y=>by rw[er,er];exact e i j x y
 ·exact Zas a b (by omega) e
theorem Zgq {p:Array Nat}(hp:VA n p)(h1:1<=n):Runs n (YU rank) (W.kas_count n p) fun r=>1<=r.1/\r.1<=n/\VA n r.2/\Up rank r.2 r.1:=by
 refine Runs.bind ((Zcn hp (n-1) 1 (Zq _) (by omega) (fun i j a b=>by rw[show i=0 by omega,show j=0 by omega];exact Zq _)).mono fun m ⟨a,b,c,d⟩=>?_)
 have sz:=hp.size
 show Runs n (YU rank) (if (m == n)=true then _ else _) _
 by_cases e:m=n
 ·rw[if_pos (by rw[e];exact beq_self_eq_true n)]
  exact⟨a,by show m<=n;omega,hp,c⟩
 ·rw[if_neg (by simpa using e)]
  have dm:=d (by omega)
  have dn:Dn rank p m->Dn rank p (m+1):=fun h=>h.snoc a (Nat.le_of_lt dm)
  split
  ·refine⟨hp.lt (by omega),hp.lt (by omega),?_⟩
   by_cases g:rank (p.getD 0 0)<rank (p.getD (m-1) 0)
   ·rw[show YU rank _ _=true from decide_eq_true g]
    exact⟨a,by show m<=n;omega,hp,c⟩
   ·rw[show YU rank _ _=false from decide_eq_false g]
    have all:∀j,j<m->RK rank p j=RK rank p (m-1):=fun j hj=>by
     have x:=c 0 j (by omega) hj
     have y:=c j (m-1) (by omega) (by omega)
     unfold RK at x y ⊢
     omega
    have er:∀j,RK rank (W.kas_rev p 0 m) j=RK rank p j:=fun j=>Xn (by omega) (fun i _ y=>all i y) j
    refine Xw (hp.rev 0 m) (by omega) fun i j x y=>?_
    rw[er,er]
    exact dn (fun i j x y=>by rw[all i (by omega),all j y];exact Zq _) i j x y
  ·have e1:m=1:=by omega
   subst e1
   exact Xw hp (by omega) (dn fun i j x y=>by rw[show i=0 by omega,show j=0 by omega];exact Zq _)
theorem Va {p:Array Nat}{k:Nat}(hp:VA n p)(hk:k<n)(hu:Up rank p k):∀(f l r:Nat),r-l<=f->l<=r->r<=k->(∀i,i<l->RK rank p i<=RK rank p k)->(∀i,r<=i->i<k->RK rank p k<RK rank p i)->
  Runs n (YU rank) (W.kas_place p k f l r) fun m=>m<=k/\(∀i,i<m->RK rank p i<=RK rank p k)/\∀i,m<=i->i<k->RK rank p k<RK rank p i
 |0,l,r,hf,hlr,hr,h1,h2=>by
  have e:l=r:=by omega
  subst e
  exact⟨hr,h1,h2⟩
 |f+1,l,r,hf,hlr,hr,h1,h2=>by
  show Runs n (YU rank) (if l ≥ r then _ else _) _
  split
  ·have e:l=r:=by omega
   subst e
   exact⟨hr,h1,h2⟩
  ·refine⟨hp.lt hk,hp.lt (by omega),?_⟩
   by_cases c:rank (p.getD k 0)<rank (p.getD ((l+r) / 2) 0)
   ·rw[show YU rank _ _=true from decide_eq_true c]
    refine Va hp hk hu f l ((l+r) / 2) (by omega) (by omega) (by omega) h1 fun i a b=>?_
    exact Nat.lt_of_lt_of_le c (hu _ _ a b)
   ·rw[show YU rank _ _=false from decide_eq_false c]
    refine Va hp hk hu f ((l+r) / 2+1) r (by omega) (by omega) hr (fun i a=>?_) h2
    have:=hu i ((l+r) / 2) (by omega) (by omega)
    unfold RK at this ⊢
    omega
theorem ZgE:∀(f:Nat) (p:Array Nat) (k:Nat),VA n p->k+f=n->Up rank p k->Runs n (YU rank) (W.kas_bin f p k) fun r=>VA n r/\Up rank r n
 |0,p,k,hp,hk,hu=>⟨hp,by rw[<-hk];exact hu⟩
 |f+1,p,k,hp,hk,hu=>by
  have sz:=hp.size
  refine Runs.bind ((Va hp (by omega) hu k 0 k (by omega) (by omega) (Zq _) (fun i h=>by omega) (fun i a b=>by omega)).mono fun l ⟨a,b,c⟩=>?_)
  refine ZgE f _ (k+1) (hp.bub _ _) (by omega) fun i j hij hj=>?_
  have hb:=fun x=>Zex (rank:=rank) (xs:=p) (src:=k) (d:=k-l) (by omega) (by omega) x
  rw[hb i,hb j]
  have el:k-(k-l)=l:=by omega
  rw[el]
  have hu':=hu
  by_cases i1:i=l
  ·rw[if_pos i1]
   by_cases j1:j=l
   ·rw[if_pos j1];exact Zq _
   ·rw[if_neg j1,if_pos ⟨by omega,by omega⟩]
    exact Nat.le_of_lt (c (j-1) (by omega) (by omega))
  ·rw[if_neg i1]
   by_cases i2:l<i/\i<=k
   ·rw[if_pos i2,if_neg (by omega),if_pos ⟨by omega,by omega⟩]
    exact hu _ _ (by omega) (by omega)
   ·rw[if_neg i2]
    have il:i<l:=by omega
    by_cases j1:j=l
    ·rw[if_pos j1];exact b i il
    ·rw[if_neg j1]
     by_cases j2:l<j/\j<=k
     ·rw[if_pos j2];exact hu _ _ (by omega) (by omega)
     ·rw[if_neg j2];exact hu _ _ hij (by omega)
theorem ZgX (h1:1<=n)(rank:Nat->Nat):∃p,X6 n (YU rank) (W.kas_sort n)=some p/\p.toList.Perm (List.range n)/\(p.toList.map rank).Pairwise (· ≤ ·):=by
 have:Runs n (YU rank) (W.kas_sort n) fun p=>VA n p/\Up rank p n:=by
  refine Runs.bind ((Zgq (rank:=rank) ⟨Array.Perm.refl _⟩ h1).mono fun r ⟨a,b,c,d⟩=>?_)
  show Runs n (YU rank) (if r.1<n then _ else _) _
  split
  ·have e:max r.1 1=r.1:=by omega
   rw[e]
   exact ZgE _ _ _ c (by omega) d
  ·exact⟨c,by rw[show n=r.1 by omega];exact d⟩
 obtain⟨p,e,hp,hu⟩:=this.run
 refine⟨p,e,?_,?_⟩
 ·have:=hp.pm
  rw[Array.perm_iff_toList_perm] at this
  simpa using this
 ·have sz:=hp.size
  rw[List.pairwise_iff_getElem]
  intro i j hi hj hij
  rw[Za] at hi hj
  have li:i<p.size:=by simpa using hi
  have lj:j<p.size:=by simpa using hj
  have:=hu i j (by omega) (by omega)
  unfold RK at this
  rw[List.getElem_map,List.getElem_map]
  have ei:p.getD i 0=p.toList[i]'hi:=by simp[Array.getD,li]
  have ej:p.getD j 0=p.toList[j]'hj:=by simp[Array.getD,lj]
  rw[ei,ej] at this
  exact this
end
end PyZ
namespace PyZ
open PySem PyProof PyProof.Rows SeqAt
open AutoSeq1 (wpAny_loadPart')
section
variable {prog:Program}{w:World}{A:Around}{E:Value->Shared->Prop}{s:Shared}
end
end PyZ
namespace PyZ
open PySem PyProof PyProof.Rows
theorem U2 (ys:List Int):Xv [] ys=decide (0<ys.length):=rfl
theorem ZaZ (xs:List Int):Xv xs []=false:=by
 cases xs with
 |nil=>rfl
 |cons x xs=>
  show decide ((x::xs).length<([]:List Int).length)=false
  exact decide_eq_false (by simp)
theorem WR (x y:Int)(xs ys:List Int):Xv (x::xs) (y::ys)=if x=y then Xv xs ys else decide (x<y):=by
 unfold Xv
 show (if x=y then ZfP _ xs ys else _)=_
 have e:decide ((x::xs).length<(y::ys).length)=decide (xs.length<ys.length):=by
  simp only[Zi,Nat.add_lt_add_iff_right]
 rw[e]
theorem Zc8:∀xs:List Int,Xv xs xs=false
 | []=>rfl
 |x::xs=>by rw[WR,if_pos rfl];exact Zc8 xs
theorem U1:∀{xs ys:List Int},Xv xs ys=false->Xv ys xs=false->xs=ys
 | [],[],_,_=>rfl
 | [],_::_,h,_=>by rw[U2] at h;simp at h
 |_::_,[],_,h=>by rw[U2] at h;simp at h
 |x::xs,y::ys,h1,h2=>by
  rw[WR] at h1 h2
  by_cases e:x=y
  ·rw[if_pos e] at h1
   rw[if_pos e.symm] at h2
   rw[e,U1 h1 h2]
  ·rw[if_neg e] at h1
   rw[if_neg (Ne.symm e)] at h2
   have a:=of_decide_eq_false h1
   have b:=of_decide_eq_false h2
   omega
theorem V5:∀{xs ys zs:List Int},Xv xs ys=true->Xv ys zs=true->Xv xs zs=true
 |xs,ys,[],_,h=>by rw[ZaZ] at h;cases h
 |xs,[],z::zs,h,_=>by rw[ZaZ] at h;cases h
 | [],y::ys,z::zs,_,_=>by rw[U2];exact decide_eq_true (by simp)
 |x::xs,y::ys,z::zs,h1,h2=>by
  rw[WR] at h1 h2 ⊢
  by_cases e1:x=y
  ·rw[if_pos e1] at h1
   by_cases e2:y=z
   ·rw[if_pos e2] at h2
    rw[if_pos (e1.trans e2)]
    exact V5 h1 h2
   ·rw[if_neg e2] at h2
    have:=of_decide_eq_true h2
    rw[if_neg (by omega)]
    exact decide_eq_true (by omega)
  ·rw[if_neg e1] at h1
   have a:=of_decide_eq_true h1
   by_cases e2:y=z
   ·rw[if_neg (by omega)]
    exact decide_eq_true (by omega)
   ·rw[if_neg e2] at h2
    have:=of_decide_eq_true h2
    rw[if_neg (by omega)]
    exact decide_eq_true (by omega)
theorem X5 {n:Nat}{cmp cmp':Nat->Nat->Bool}(h:∀i j,i<n->j<n->cmp i j=cmp' i j){α:Type}:∀t:W.KasT α,X6 n cmp t=X6 n cmp' t
 | .ret a=>rfl
 | .ask i j k=>by
  rw[X6,X6]
  by_cases hh:i<n/\j<n
  ·rw[if_pos hh,if_pos hh,h i j hh.1 hh.2]
   exact X5 h _
  ·rw[if_neg hh,if_neg hh]
theorem Ui {α:Type}{p q:α->Bool}:∀{l:List α},(∀x∈l,p x=true->q x=true)->(∃x∈l,p x=false/\q x=true)->l.countP p<l.countP q
 | [],_,⟨x,hx,_⟩=>by cases hx
 |y::l,h,⟨x,hx,hp,hq⟩=>by
  have le:∀{l:List α},(∀x∈l,p x=true->q x=true)->l.countP p<=l.countP q:=fun {l} h=>List.countP_mono_left h
  rw[List.countP_cons,List.countP_cons]
  have h':∀x∈l,p x=true->q x=true:=fun z hz=>h z (List.mem_cons_of_mem _ hz)
  rcases List.mem_cons.mp hx with e|hx
  ·rw[<-e,hp,hq]
   have:=le h'
   simp only[Bool.false_eq_true,if_false,if_true]
   omega
  ·have:=Ui h' ⟨x,hx,hp,hq⟩
   have hy:=h y List.mem_cons_self
   cases e1:p y with
   |true=>rw[hy e1];omega
   |false=>
    simp only[Bool.false_eq_true,if_false]
    split <;> omega
def rkB (yss:List (List Int))(i:Nat):Nat:=(List.range yss.length).countP fun k=>Xv (yss.getD k []) (yss.getD i [])
theorem Zfa {yss:List (List Int)}{i j:Nat}(hi:i<yss.length)(hj:j<yss.length):Xv (yss.getD i []) (yss.getD j [])=decide (rkB yss i<rkB yss j):=by
 have up:∀{i j:Nat},i<yss.length->Xv (yss.getD i []) (yss.getD j [])=true->rkB yss i<rkB yss j:=fun {i j} hi h=>by
  refine Ui (fun k _ hk=>V5 hk h) ⟨i,List.mem_range.mpr hi,Zc8 _,h⟩
 cases e:Xv (yss.getD i []) (yss.getD j []) with
 |true=>rw[decide_eq_true (up hi e)]
 |false=>
  cases e2:Xv (yss.getD j []) (yss.getD i []) with
  |true=>
   have:=up hj e2
   rw[decide_eq_false (by omega)]
  |false=>
   have:=U1 e e2
   unfold rkB
   rw[this]
   exact (decide_eq_false (by omega)).symm
theorem ZdF {yss:List (List Int)}(h1:1<=yss.length):∃p,X6 yss.length (fun i j=>Xv (yss.getD i []) (yss.getD j [])) (W.kas_sort yss.length)=some p/\p.toList.Perm (List.range yss.length)/\(p.toList.map fun i=>yss.getD i []).Pairwise fun a b=>Xv b a=false:=by
 obtain⟨p,e,hp,hs⟩:=ZgX h1 (rkB yss)
 refine⟨p,(X5 (fun i j hi hj=>Zfa hi hj) _).trans e,hp,?_⟩
 rw[List.pairwise_map] at hs ⊢
 refine List.Pairwise.imp_of_mem (fun {a b} ha hb hab=>?_) hs
 have la:=List.mem_range.mp (hp.mem_iff.mp ha)
 have lb:=List.mem_range.mp (hp.mem_iff.mp hb)
 rw[Zfa lb la]
 exact decide_eq_false (by omega)
section
variable {prog:Program}{w:World}{A:Around}{E:Value->Shared->Prop}{s:Shared}
theorem ZbL {a:Addr}{vs:List Value}{n:Nat}{P:Fin->Shared->Prop}(ho:s.heap.get? a=some (seqObj "list" vs.toArray n))(h2:vs.length<2)
  (h:P (.done (.ret .none)) {s with heap:=sortedHeap s.heap a vs vs.toArray}):wpAny (model prog w) A (Builtin.«list.sort» ⟨[.ref a],[]⟩) P E s:=by
 rw[list_sort_plain]
 have ha:a<s.heap.objs.size:=Zp ho
 refine Zl (listItems_at ho rfl ?_)
 refine Zl (listUpdate_at ho rfl ?_)
 obtain⟨e1,ho1⟩:∃e1,(s.heap.update a (Obj.mapSeq fun _=>#[])).get? a=some (seqObj "list" #[] e1):=⟨_,get?_update_seq ho (fun _=>#[])⟩
 refine Zl (seqEpoch_at ho1 rfl ?_)
 refine Zl (wpAny_newTuple ?_)
 refine Zl (wpAny_newList ?_)
 refine wpAny_holding ?_
 have ho6:(((s.heap.update a (Obj.mapSeq fun _=>#[])).push (seqObj "tuple" vs.toArray 0)).push (seqObj "list" #[] 0)).get? a=some (seqObj "list" #[] e1):=by
  rw[Heap.get?_push_ne _ _ _ (by rw[size_push',Heap.size_update];exact Nat.ne_of_lt (Nat.lt_succ_of_lt ha)),Heap.get?_push_ne _ _ _ (by rw[Heap.size_update];exact Nat.ne_of_lt ha)]
  exact ho1
 show wpAny (model prog w) A _ P E {s with heap:=((s.heap.update a (Obj.mapSeq fun _=>#[])).push (seqObj "tuple" vs.toArray 0)).push (seqObj "list" #[] 0)}
 dsimp only
 have hsz:vs.toArray.size=vs.length:=by simp
 have h2':vs.toArray.size<2:=by omega
 rw[if_pos h2',if_pos h2']
 refine Zl (Zm ?_)
 rw[StateT.run_pure]
 refine Zl (Zm ?_)
 dsimp only
 have eo:(arrOf (SortSt.mk' general' (vs.toArray.zip vs.toArray) #[] 7 none)).map (·.2)=vs.toArray:=by
  show (vs.toArray.zip vs.toArray).map (·.2)=vs.toArray
  match vs,h2 with
  | [],_=>simp
  | [v],_=>simp
 refine Zl (seqEpoch_at ho6 rfl ?_)
 refine Zl (listUpdate_at ho6 rfl ?_ (hsz2:=by rw[Array.size_map];show (pairsOf vs).size<=_;rw[pairsOf_size,sizeLine_eq];omega))
 simp only[bne_self_eq_false,Bool.false_eq_true,if_false]
 refine Zm ?_
 rw[eo]
 exact h
end
section
variable {prog:Program}{w:World}{A:Around}{E:Value->Shared->Prop}{s:Shared}
end
end PyZ
namespace L2
open PySem PySem.Spec PyProof.Rows
section
variable {X:Cx}{pins:List (Addr×Obj)}{σ:St}{H:Hp}{s:Shared}
end
end L2
namespace PyS
open PySem PySem.SetTable PySem.W PyProof.Rows PySem.Calls PyProof.V PySem.Spec
section
variable {prog:Program}{w:World}{A:Around}{E:Value->Shared->Prop}{s:Shared}
theorem ZjJ {key:Addr->List Int}{h:Heap}{a:Addr}(e:h.get? a=some {cls:=.type "set",dict:=none,data:=.set #[] 0 (.fresh 0 0 (!w.params.followText "set-order"))}):Vy prog w key h a []:=by
 refine⟨#[],0,_,⟨⟨_,e,⟨rfl,rfl,rfl⟩,rfl,rfl⟩,⟨List.Pairwise.nil,rfl,.inl rfl,fun j hj=>(by cases hj),rfl,Nat.zero_le _,fun i j e h=>(by have h:(#[]:Array Nat)[i]?=some j:=h;simp at h)⟩,(by show 0*5<7*3;decide),rfl,rfl,fun x hx=>(by simp at hx)⟩,List.Perm.refl _⟩
abbrev Zdw (prog:Program)(w:World)(s:Shared)(key:Addr->List Int)(bs:List Addr)(h':Heap):Prop:=
 Vy prog w key h' s.heap.objs.size (Ji key bs)/\∀b o,b<s.heap.objs.size->s.heap.get? b=some o->h'.get? b=some o
theorem ZaE {l:Addr}{items:Array Value}{key:Addr->List Int}{bs:List Addr}{Q:Value->Shared->Prop}(hu:A.units+8<cLine)(hh:A.handled=none)(hl:s.heap.IsList l items)(hi:items.toList=bs.map Value.ref)(hb:bs.length<=69)(hT:∀b∈bs,TK prog w s.heap (key b) b)
  (h:∀(h':Heap) (tk:Nat),Zdw prog w s key bs h'->Q (.ref s.heap.objs.size) {s with heap:=h',toks:=tk}):wpAny (model prog w) A (call (.type "set") [.ref l]) Q E s:=by
 obtain⟨c,tl,hmro⟩:=PySem.F.called_set.mro
 have hmade:=PySem.F.called_set.made;have hsub:=PySem.F.called_set.sub
 refine wpAny_call (codeAny_of_tree ?_);show wpAny _ _ (callAny (.type "set") _) _ _ _
 refine Zm ⟨Code.quiet_builtin _ (by decide +kernel),codeAny_builtin PySem.F.entry_type_call ?_⟩;rw[Around.under_plain (weight_type_call_type "set" [.ref l] []) rfl]
 have h1:=PySem.F.called_set.notType;have h2:=PySem.F.called_set.canCreate;have hct:=PySem.F.typeCall_set_1 (.ref l)
 repeat (any_goals (first|assumption|wp_step))
 let ob:Obj:={cls:=.type "set",dict:=none,data:=.set #[] 0 (.fresh 0 0 (!w.params.followText "set-order"))}
 refine codeAny_mono (UA (.ref l) (E:=E) (Q₁:=fun obj s₁=>obj=.ref s.heap.objs.size/\s₁={s with heap:=s.heap.push ob}) ⟨rfl,rfl⟩) fun r s₁ hr=>?_
 cases r with
 |error e=>exact hr
 |ok fl=>
  cases fl with
  |ret obj=>
   obtain⟨rfl,rfl⟩:=hr
   have hS:(s.heap.push ob).get? s.heap.objs.size=some ob:=Zo _ rfl
   have hTy:Shared.TypeIs {s with heap:=s.heap.push ob} (.ref s.heap.objs.size) "set":=⟨_,hS,rfl⟩
   have hli:=PySem.F.called_set.init.lookup;have hbi:=PySem.F.called_set.init.bind (.ref s.heap.objs.size)
   repeat (any_goals (first|assumption|wp_step))
   refine codeAny_mono (codeAny_call_builtin (R:=wants (fun r s₂=>r=.none/\∃h' tk,s₂={s with heap:=h',toks:=tk}/\Zdw prog w s key bs h') E) PySem.F.called_set.init.plain PySem.F.entry_set_init (check_set_init_1 hTy ?_)) fun r₂ s₂ hr₂=>?_
   ·obtain⟨ol,J4,hcl,nl,hdl⟩:=id hl
    obtain⟨ocls,odict,odata,oslots⟩:=ol
    simp only at hcl hdl
    subst hcl;subst hdl
    have hol':(s.heap.push ob).get? l=some {cls:=.type "list",dict:=odict,data:=.seq items nl,slots:=oslots}:=Zn _ J4
    have hsls:=PySem.F.sub_list_set;have hslf:=PySem.F.sub_list_frozenset
    have hne:(Value.type "list" == Value.type "dict")=false:=by decide
    have hl1:(s.heap.push ob).IsList l items:=⟨_,hol',rfl,nl,rfl⟩
    unfold Builtin.«set.__init__» noKeywords Builtin.Frozenset.updateFrom;generalize hPI:pyIter=PI
    wp_walk
    subst hPI
    refine wpAny_pyIter_list hl1 ?_
    refine Zl (wpAny_runValue ?_)
    have hlS:l<s.heap.objs.size:=Zp J4
    have hneI:l≠(s.heap.push ob).objs.size:=by rw[Heap.size_push];exact Nat.ne_of_lt (Nat.lt_succ_of_lt hlS)
    have hSf:s.heap.objs.size∉[(s.heap.push ob).objs.size,l]:=by
     rw[Heap.size_push];intro z
     rcases List.mem_cons.mp z with z|z
     ·exact absurd z (Nat.ne_of_lt (Nat.lt_succ_self _))
     ·exact absurd (List.mem_singleton.mp z) (Nat.ne_of_gt hlS)
    have hzs:bs.length=items.size:=by rw[<-Zr,hi,Za]
    have hblt:∀b∈bs,b<s.heap.objs.size:=fun b hb=>by
     obtain⟨o,_,_,e,_⟩:=hT b hb
     exact Zp e
    refine ZdA (by simp only[Around.in1_units];omega) ((Walks.list (A:=A.in1.in1.in1) (by simp[hh]) _ l hneI items).toS) s.heap.objs.size hSf key bs hzs (by omega) (fun i v hv=>?hv) (fun b hb z=>?hbw) (items.size-0) 0 _ (by omega) (Nat.zero_le _)
     ⟨⟨_,Zo _ rfl,rfl,rfl⟩,⟨_,Zn _ hol',rfl,nl,rfl⟩⟩ ?hS0 (fun b hb=>JA (fun o e=>Zn _ (Zn _ e)) (hT b hb)) ?hR
    case hv=>
     have hv:items[i]?=some v:=hv
     rw[<-Array.getElem?_toList,hi,Zc] at hv
     obtain⟨b,hb,e⟩:=Option.map_eq_some_iff.mp hv
     exact⟨b,hb,e.symm⟩
    case hbw=>
     have:=hblt b hb
     rcases List.mem_cons.mp z with z|z
     ·rw[z] at this
      exact absurd this (Nat.lt_irrefl _)
     ·rw[List.mem_singleton.mp z,Heap.size_push] at this
      exact absurd this (Nat.not_lt.mpr (Nat.le_succ _))
    case hS0=>exact ZjJ (Zn _ hS)
    case hR=>
     intro s' hm hS'
     obtain⟨h',g',d',tk',os'⟩:=s'
     obtain rfl:g'=s.gens:=hm.gens
     obtain rfl:d'=s.drawn:=hm.drawn
     obtain rfl:os'=s.os:=hm.os
     show wpAny _ _ _ _ _ _
     refine Zm ?_;show wpAny _ _ (ret Value.none) _ _ _
     refine Zm ⟨rfl,h',tk',rfl,hS',fun b o hb e=>hm.heap b o (fun z=>?_) (Zn _ (Zn _ e))⟩
     rcases List.mem_cons.mp z with z|z
     ·exact absurd z (Nat.ne_of_lt hb)
     ·refine absurd (List.mem_singleton.mp z) (Nat.ne_of_lt ?_);rw[Heap.size_push];exact Nat.lt_succ_of_lt hb
   ·cases r₂ with
    |error e=>exact hr₂
    |ok fl₂=>
     cases fl₂ with
     |ret r=>
      obtain⟨rfl,h',tk,rfl,he⟩:=hr₂
      repeat (any_goals (first|assumption|wp_step))
      exact h _ _ he
     |_=>exact hr₂.elim
  |_=>exact hr.elim
end
end PyS
namespace PyS
open PySem PySem.W PyProof.Rows PySem.Calls PyProof.V PySem.Spec
section
variable {prog:Program}{w:World}{A:Around}{E:Value->Shared->Prop}{s:Shared}{a L:Addr}{m:Str->Option Value}{T:String}{n:Nat}{Good:(Nat->Value->Prop)->Prop}{OK:Heap->Prop}
theorem Zaz {M:List Addr}{key:Addr->List Int}{Q:Value->Shared->Prop}(C:Src prog w T a n Good OK)(hh:A.handled=none)(n2:2<=n)(n64:n<64)(hok:OK s.heap)(hNs:s.heap.Ns L m)
    (hi:∀P acc,Good P->ItemsOf P acc n->∃as:List Addr,acc.toList=as.map Value.ref/\List.Perm as M)
    (ht:∀b∈M,b≠L/\key b≠[]/\∃us:List Value,s.heap.IsTuple b us.toArray/\IntsAre us (key b))
    (q:∀D c h' dr tk (as:List Addr),s.heap.get? D=none->D≠L->(∀b o,b≠L->s.heap.get? b=some o->h'.get? b=some o)->h'.Ns L m->List.Perm as M->(as.map key).Pairwise (fun x y=>PyZ.Xv y x=false)->h'.get? D=some (W.listOf (as.map Value.ref).toArray c)->Q (.ref D) {s with heap:=h',drawn:=dr,toks:=tk}) :
    wpAny (model prog w) A (call (.builtin "sorted") [.ref a]) Q E s:=by
  have hz : n ≤ sizeLine := by have:(16777216:Nat)=sizeLine:=by decide
                               omega
  refine call_function_entry kind_sorted plain_sorted entry_sorted (args_sorted1 _) ?_
  unfold Builtin.«sorted»
  refine Zl (m:=checkCount "sorted" 1 1 _) (Zm ?_)
  refine Zl (WK (A:=A.in1) C hh hz hok fun h1 dr tk acc P hgt hk hg hacc=>?_)
  obtain⟨as,ea,hperm⟩:=hi P acc hg hacc
  have hl:as.length=n:=by rw[<-Za (f:=Value.ref),<-ea,Zr];exact hacc.1
  rw[ea]
  have lv:(as.map Value.ref).length=as.length:=List.length_map ..
  refine Zl (wpAny_newList ?_ (by rw[lv,hl];exact hz))
  have hLs:L<s.heap.objs.size:=hNs.lt
  have hL:L<h1.objs.size:=Nat.lt_trans hLs hgt
  have hNs1:h1.Ns L m:=hNs.keeps hk
  obtain⟨h2,hh2⟩:∃h2,h2=h1.push {cls:=.type "list",data:=.seq (as.map Value.ref).toArray}:=⟨_,rfl⟩
  have hoL:h2.get? h1.objs.size=some (seqObj "list" (as.map Value.ref).toArray 0):=by rw[hh2];exact Zo _ rfl
  have hk2:∀b o,h1.get? b=some o->h2.get? b=some o:=fun b o e=>by rw[hh2];exact Zn _ e
  have hNs2:h2.Ns L m:=hNs1.keeps hk2
  have hbig:∀b o,h2.get? b=some o->b≠h1.objs.size->b<h1.objs.size:=fun b o e ne=>by
    have:=Zp e
    rw[hh2,Heap.size_push] at this
    exact Nat.lt_of_le_of_ne (Nat.le_of_lt_succ this) ne
  show wpAny _ _ _ _ _ {s with heap:=h1.push {cls:=.type "list",data:=.seq (as.map Value.ref).toArray},drawn:=dr,toks:=tk}
  rw[<-hh2]
  have fr:Fr (PyZ.Zeo h2 L) L h2 m:=by
    refine⟨hNs2,fun b o e=>?_,?_⟩
    · by_cases hb:b<L
      · rw[PyZ.Vq hb] at e;exact e
      · rw[PyZ.Xh (Nat.le_of_not_lt hb)] at e
        cases e
    · show (h2.objs.extract 0 L).size<=L
      rw[Array.size_extract,Nat.sub_zero]
      exact Nat.min_le_left ..
  have nw:News (PyZ.Zeo h2 L) L h2 (PyZ.ZO h1 L):=fun x hx=>by
    obtain⟨e1,e2⟩:=PyZ.Wz.mp hx
    exact⟨hk2 _ _ e2,Nat.ne_of_gt e1,PyZ.Xh (Nat.le_of_lt e1)⟩
  have big:∀x∈PyZ.ZO h1 L,x.1<h1.objs.size:=fun x hx=>Zp (PyZ.Wz.mp hx).2
  refine Zl (wpAny_holding (wpAny_call_entry slot_list_sort ⟨_,hoL,rfl⟩ entry_list_sort ?body (args_list_sort _)))
  case body=>
    refine W.kat_list_sort (s:={s with heap:=h2,drawn:=dr,toks:=tk}) fr nw hoL (Nat.ne_of_gt hL) (PyZ.Xh (Nat.le_of_lt hL)) (fun x hx=>Nat.ne_of_lt (big x hx)) (by rw[lv,hl];exact n2) (by rw[lv,hl];exact n64) fun e1 h' fr' nw'=>?_
    have kept:∀b o,b≠L->h1.get? b=some o->h'.get? b=some o:=fun b o hb e=>by
      rcases Nat.lt_or_ge b L with c1|c1
      · exact fr'.keep b o (by rw[PyZ.Vq c1];exact hk2 b o e)
      · exact (nw' (b,o) (List.mem_cons_of_mem _ (PyZ.Wz.mpr ⟨Nat.lt_of_le_of_ne c1 (Ne.symm hb),e⟩))).1
    obtain⟨yss,hyss⟩:∃yss,yss=as.map key:=⟨_,rfl⟩
    have hy:as.length=yss.length:=by rw[hyss,Za]
    have yat:∀i a,as[i]?=some a->yss[i]?=some (key a):=fun i a e=>by rw[hyss,Zc,e];rfl
    have ht':∀(i:Nat) a,as[i]?=some a->∃(us:List Value) (ys:List Int),yss[i]?=some ys/\h'.IsTuple a us.toArray/\IntsAre us ys/\ys≠[]:=fun i a e=>by
      obtain⟨aL,ne,us,⟨o,g1,g2⟩,ia⟩:=ht a (hperm.mem_iff.mp (List.mem_of_getElem? e))
      exact⟨us,_,yat i a e,⟨o,kept a o aL (hk a o g1),g2⟩,ia,ne⟩
    obtain⟨fs,kt,fl,fi⟩:=PyZ.Zdb as yss hy ht'
    obtain⟨p,hp,hpm,hps⟩:=PyZ.ZdF (yss:=yss) (by omega)
    rw[<-hy] at hp hpm
    have hpi:∀i∈p.toList,i<as.length:=fun i hi=>List.mem_range.mp (hpm.mem_iff.mp hi)
    have es:(p.toList.map fun i=>(as.map Value.ref).getD i Value.none)=(p.toList.map fun i=>as.getD i 0).map Value.ref:=by
      rw[List.map_map]
      refine List.map_congr_left fun i hi=>?_
      have:=hpi i hi
      show (as.map Value.ref).getD i Value.none=Value.ref (as.getD i 0)
      rw[Zb,Zc,Zf this,Zb,Zf this]
      rfl
    have ekey:(p.toList.map fun i=>as.getD i 0).map key=p.toList.map fun i=>yss.getD i []:=by
      rw[List.map_map]
      refine List.map_congr_left fun i hi=>?_
      have:=hpi i hi
      show key (as.getD i 0)=yss.getD i []
      rw[Zb,Zf this,Zb,yat i _ (Zf this)]
      rfl
    have pas:List.Perm (p.toList.map fun i=>as.getD i 0) M:=by
      refine List.Perm.trans ?_ hperm
      refine (hpm.map _).trans ?_
      have:((List.range as.length).map fun i=>as.getD i 0)=as:=by
        refine List.ext_getElem? fun i=>?_
        rw[Zc]
        by_cases c:i<as.length
        · rw[List.getElem?_range c,Zf c]
          show some (as.getD i 0)=_
          rw[Zb,Zf c]
          rfl
        · rw[List.getElem?_eq_none (by rw[Zg];omega),List.getElem?_eq_none (by omega)]
          rfl
      rw[this]
    refine W.kat_kind (T:=Value.type "int") kt (by omega) (fun v hv=>?_) (by decide +kernel) ?_
    · obtain⟨n,t,rfl⟩:=fi v hv
      intro A Q E s' _ q
      exact Zm q
    · rw[lv]
      have kb:(Value.type "int" != Value.type "tuple")=true:=by decide +kernel
      rw[kb]
      refine PyZ.V8 (cmp:=fun i j=>PyZ.Xv (yss.getD i []) (yss.getD j [])) (fun i j C hi hj c=>?_) _ p _ hp ?_
      · unfold W.kas_ask
        obtain⟨us,ys,e,⟨o,g1,g2,n1,g3⟩,ia,_⟩:=ht' i as[i] (Zf hi)
        obtain⟨us2,ys2,e2,⟨o2,k1,k2,n2',k3⟩,ia2,_⟩:=ht' j as[j] (Zf hj)
        have v1:(as.map Value.ref).getD i Value.none=.ref as[i]:=by
          rw[Zb,Zc,Zf hi]
          rfl
        have v2:(as.map Value.ref).getD j Value.none=.ref as[j]:=by
          rw[Zb,Zc,Zf hj]
          rfl
        have w1:yss.getD i []=ys:=by rw[Zb,e];rfl
        have w2:yss.getD j []=ys2:=by rw[Zb,e2];rfl
        rw[v1,v2]
        refine W.kat_lt g1 g3 k1 k3 ?_
        have il:∀{us:List Value}{ys:List Int},IntsAre us ys->us.length=ys.length:=fun {us ys} h=>by
          induction h with
          |nil=>rfl
          |cons _ _ _ ih=>rw[Zi,Zi,ih]
        refine PyZ.ZfW us us2 ys ys2 0 ia ia2 ?_
        rw[w1,w2] at c
        unfold PyZ.Xv at c
        rw[Zh,Zh,il ia,il ia2]
        exact c
      · refine⟨_,_,fr',nw',W.UpdF.head (fun x hx=>Nat.ne_of_lt (big x hx)),fun h'' c fr'' nw''=>?_⟩
        refine⟨_,rfl,Zm ⟨_,rfl,?_⟩⟩
        have hD:=(nw'' _ (List.mem_cons_self ..)).1
        rw[es] at hD
        refine q h1.objs.size c h'' dr tk _ (Heap.get?_none_of_le (Nat.le_of_lt hgt)) (Nat.ne_of_gt hL) (fun b o hb e=>?_) fr''.ns pas (by rw[ekey];exact hps) hD
        rcases Nat.lt_or_ge b L with c1|c1
        · exact fr''.keep b o (by rw[PyZ.Vq c1];exact hk2 b o (hk b o e))
        · exact (nw'' (b,o) (List.mem_cons_of_mem _ (PyZ.Wz.mpr ⟨Nat.lt_of_le_of_ne c1 (Ne.symm hb),hk b o e⟩))).1
end
section
variable {prog:Program}{w:World}{A:Around}{E:Value->Shared->Prop}{s:Shared}{a L:Addr}{m:Str->Option Value}{T:String}{n:Nat}{Good:(Nat->Value->Prop)->Prop}{OK:Heap->Prop}
theorem VG {M:List Addr}{Q:Value->Shared->Prop}(C:Src prog w T a n Good OK)(hh:A.handled=none)(n2:n<2)(hok:OK s.heap)
    (hi:∀P acc,Good P->ItemsOf P acc n->∃as:List Addr,acc.toList=as.map Value.ref/\List.Perm as M)
    (q:∀D c h' dr tk (as:List Addr),s.heap.objs.size<=D->(∀b o,s.heap.get? b=some o->h'.get? b=some o)->List.Perm as M->h'.get? D=some (seqObj "list" (as.map Value.ref).toArray c)->Q (.ref D) {s with heap:=h',drawn:=dr,toks:=tk}) :
    wpAny (model prog w) A (call (.builtin "sorted") [.ref a]) Q E s:=by
  have hz : n ≤ sizeLine := by have:(16777216:Nat)=sizeLine:=by decide
                               omega
  refine call_function_entry kind_sorted plain_sorted entry_sorted (args_sorted1 _) ?_
  unfold Builtin.«sorted»
  refine Zl (m:=checkCount "sorted" 1 1 _) (Zm ?_)
  refine Zl (WK (A:=A.in1) C hh hz hok fun h1 dr tk acc P hgt hk hg hacc=>?_)
  obtain⟨as,ea,hperm⟩:=hi P acc hg hacc
  have hl:as.length=n:=by rw[<-Za (f:=Value.ref),<-ea,Zr];exact hacc.1
  rw[ea]
  have lv:(as.map Value.ref).length=as.length:=List.length_map ..
  refine Zl (wpAny_newList ?_ (by rw[lv,hl];exact hz))
  have ho:(h1.push {cls:=.type "list",data:=.seq (as.map Value.ref).toArray}).get? h1.objs.size=some (seqObj "list" (as.map Value.ref).toArray 0):=Zo _ rfl
  refine Zl (wpAny_holding (wpAny_call_entry slot_list_sort ⟨_,ho,rfl⟩ entry_list_sort (PyZ.ZbL ho (by rw[lv];omega) ⟨_,rfl,?_⟩) (args_list_sort _)))
  refine Zm ⟨_,rfl,?_⟩
  have o1:=get?_update_seq ho (fun _=>(#[]:Array Value))
  have o2:=Zn (seqObj "tuple" (as.map Value.ref).toArray 0) o1
  have o3:=Zn (seqObj "list" #[] 0) o2
  have o4:=get?_update_seq o3 (fun _=>(as.map Value.ref).toArray)
  refine q h1.objs.size _ _ dr tk as (Nat.le_of_lt hgt) (fun b o e=>?_) hperm o4
  have hb:b≠h1.objs.size:=Nat.ne_of_lt (Nat.lt_trans (Zp e) hgt)
  unfold sortedHeap
  rw[Heap.get?_update_other _ _ (Ne.symm hb)]
  refine Zn _ (Zn _ ?_)
  rw[Heap.get?_update_other _ _ (Ne.symm hb)]
  exact Zn _ (hk b o e)
def Zcq (w:World)(h:Heap)(a:Addr)(M:List Addr):Prop:=∃es ep t,Wr h a es ep t/\Wk t (!w.params.followText "set-order")/\List.Perm (Yw es) (M.map Value.ref)
theorem Zcq.of {key:Addr->List Int}{h:Heap}{M:List Addr}(X:Vy prog w key h a M):Zcq w h a M:=by
 obtain⟨es,ep,t,X,p⟩:=X
 exact⟨es,ep,t,X.at_,⟨X.t3.rise,X.t3.dum,X.led⟩,p⟩
theorem Zcq.keep {h h':Heap}{M:List Addr}(X:Zcq w h a M)(k:∀o,h.get? a=some o->h'.get? a=some o):Zcq w h' a M:=by
 obtain⟨es,ep,t,S,r⟩:=X
 exact⟨es,ep,t,S.keep k,r⟩
end
end PyS
namespace L2
open PySem PySem.Spec PyProof.Rows
def JF (w:World)(a:Addr)(M:List Addr):HO:=.ext fun h=>PyS.Zcq w h a M
def ZkQ:V->Int
 | .int k=>k
 |_=>0
def Z6 (H:Hp)(b:Addr):List Int:=match H b with
 |some (.tup xs)=>xs.map ZkQ
 |_=>[]
theorem WL {H:Hp}{b:Addr}{ys:List Int}(h:H b=some (.tup (ys.map V.int))):Z6 H b=ys:=by
 unfold Z6
 rw[h]
 show (ys.map V.int).map ZkQ=ys
 rw[List.map_map]
 exact List.map_id' _
section
variable {X:Cx}{pins:List (Addr×Obj)}{σ:L2.St}{H:Hp}{s:Shared}
theorem Za9 {P:Program}{w:World}:∀{ks:List Int}{us:List Value},ZB (ks.map V.int) us->ItemsAre (intKind P w) ks us
 | [],_,r=>by rw[List.map_nil] at r;cases r;exact .nil
 |k::ks,_,r=>by
  rw[List.map_cons] at r
  cases r with
  |cons h t=>
   obtain⟨tk,rfl⟩:=(show ∃t,_=Value.int k t from h)
   exact .cons (intKind_is _ _ _ _) (Za9 t)
theorem Zki (I:Inv X pins σ H s){b:Addr}{ys:List Int}(h:H b=some (.tup (ys.map V.int))):PyS.TK X.prog X.w s.heap ys b:=by
 obtain⟨its,rv,⟨o,e,c,n,d⟩,_⟩:=I.tuple (.of h)
 exact⟨o,_,n,e,c,d,by simpa using Za9 rv⟩
theorem Zcl (hc:X.calm=true)(hu:X.A.units+64<cLine):ZP X (.type "set") (fun xs H Q=>∃(a:Addr) (bs:List Addr),xs=[.ref a]/\H a=some (.lst (bs.map V.ref))/\bs.length<=60/\(∀b∈bs,∃ys:List Int,H b=some (.tup (ys.map V.int)))/\∀p,H p=none->Q (.ref p) (upd H p (JF X.w p (PyS.Ji (Z6 H) bs)))):=by
 intro pins s σ H xs us Q I r h
 obtain⟨a,bs,rfl,ha,hn,ht,q⟩:=h
 obtain⟨u,rfl,ru⟩:=vals1 r
 cases ru
 obtain⟨its,rv,p,hz⟩:=I.list (.of ha)
 have ei:=VO rv
 subst ei
 refine PyS.ZaE (key:=Z6 H) (bs:=bs) (by omega) (I.ok.hd hc) p.isList (by simp) (by omega) (fun b hb=>?_) fun h' tk ⟨e1,e2⟩=>?_
 ·obtain⟨ys,hy⟩:=ht b hb
  rw[WL hy]
  exact Zki I hy
 ·have e1:=PyS.Zcq.of e1
  refine⟨.ref _,_,I.laid (a:=s.heap.objs.size) (o:=JF X.w s.heap.objs.size (PyS.Ji (Z6 H) bs)) (t':=tk) (fun b o e=>e2 b o (Zp e) e) (Zq _) ⟨e1,?_,fun h1 h2 x k=>x.keep k⟩,rfl,q _ (I.hok.fresh (Zq _))⟩
  obtain⟨es,ep,t,⟨o,e,_⟩,_⟩:=e1
  exact⟨o,e⟩
theorem Zbl (hc:X.calm=true):ZP X (.builtin "sorted") (fun xs H Q=>∃(a:Addr) (M:List Addr),xs=[.ref a]/\H a=some (JF X.w a M)/\M.length<64/\(∀b∈M,∃ys:List Int,ys≠[]/\H b=some (.tup (ys.map V.int)))/\
  ∀l as,H l=none->List.Perm as M->(as.map (Z6 H)).Pairwise (fun x y=>PyZ.Xv y x=false)->Q (.ref l) (upd H l (.lst (as.map V.ref)))):=by
 intro pins s σ H xs us Q I r h
 obtain⟨a,M,rfl,ha,h64,ht,q⟩:=h
 obtain⟨u,rfl,ru⟩:=vals1 r
 cases ru
 obtain⟨X0,_,_⟩:=(show ZN X.prog X.w H s.heap a (JF X.w a M) from I.hok a _ ha)
 obtain⟨es,ep,t,S,wk,pm⟩:=X0
 have hsz:es.size=M.length:=by
  have:=pm.length_eq
  unfold PyS.Yw at this
  rwa [Za,Za,Zr] at this
 have szl:(16777216:Nat)=sizeLine:=by decide
 have C:=PyS.ZcA (prog:=X.prog) (w:=X.w) (a:=a) (ep:=ep) (es:=es) (t:=t) (by omega) wk
 have hi:∀P acc,(∃L:List Value,List.Perm L (PyS.Yw es)/\P=fun i v=>L[i]?=some v)->ItemsOf P acc es.size->∃as:List Addr,acc.toList=as.map Value.ref/\List.Perm as M:=fun P acc hg hacc=>by
  obtain⟨L,hp,rfl⟩:=hg
  have e:=PyS.Zba (by rw[hp.length_eq];unfold PyS.Yw;rw[Za,Zr]) hacc
  rw[e]
  have hp':=hp.trans pm
  clear e hacc hp
  have hr:∀v∈L,∃b,v=Value.ref b:=fun v hv=>by
   obtain⟨b,_,e⟩:=List.mem_map.mp (hp'.mem_iff.mp hv)
   exact⟨b,e.symm⟩
  obtain⟨as,rfl⟩:∃as:List Addr,L=as.map Value.ref:=by
   clear hp'
   induction L with
   |nil=>exact⟨[],rfl⟩
   |cons v L ih=>
    obtain⟨as,e⟩:=ih fun v hv=>hr v (List.mem_cons_of_mem _ hv)
    obtain⟨b,rfl⟩:=hr v List.mem_cons_self
    exact⟨b::as,by rw[e];rfl⟩
  refine⟨as,rfl,?_⟩
  have:=hp'.map (fun v=>match v with|Value.ref b=>b|_=>0)
  rw[List.map_map,List.map_map] at this
  have e1:as.map ((fun v=>match v with|Value.ref b=>b|_=>0) ∘ Value.ref)=as:=List.map_id' _
  have e2:M.map ((fun v=>match v with|Value.ref b=>b|_=>0) ∘ Value.ref)=M:=List.map_id' _
  rwa [e1,e2] at this
 have neL:∀{a:Addr}{o:HO},H a=some o->a≠X.env.locals:=fun {a o} e z=>by rw[z,I.free] at e;cases e
 obtain⟨m,hm,hlk⟩:=id I.loc
 by_cases n2:es.size<2
 ·refine PyS.VG C (I.ok.hd hc) n2 S hi fun D c h' dr tk as hD kp pas hD'=>?_
  have hll:as.length<2:=by rw[pas.length_eq,<-hsz];exact n2
  refine⟨.ref D,_,(I.laid (a:=D) (o:=.lst (as.map V.ref)) (t':=tk) kp hD ⟨by rw[Za];omega,as.map Value.ref,c,Xa as,hD'⟩).drawn dr,rfl,q _ as (I.hok.fresh hD) pas ?_⟩
  match as,hll with
  | [],_=>exact List.Pairwise.nil
  | [_],_=>exact List.pairwise_singleton _ _
 ·refine PyS.Zaz (key:=Z6 H) C (I.ok.hd hc) (by omega) (by omega) S hm hi (fun b hb=>?_) fun D c h' dr tk as dn dL kept hn' pas hso hD=>?_
  ·obtain⟨ys,ne,hy⟩:=ht b hb
   obtain⟨us,rv',pt,_⟩:=I.tuple (.of hy)
   rw[WL hy]
   exact⟨neL hy,ne,us,pt,XQ rv'⟩
  ·have hll:as.length<64:=by rw[pas.length_eq];exact h64
   obtain⟨I',hH⟩:=I.newL (ys:=as.map V.ref) hm hlk dn dL kept hn' (by rw[Za];omega) (Xa _) hD
   exact⟨.ref D,_,(I'.kept (t':=tk) fun b o e=>e).drawn dr,rfl,q D as hH pas hso⟩
theorem Zkt (w:World)(hc:X.calm=true)(hu:X.A.units+64<cLine)(hw:X.w=w:=by rfl):ZP X (.type "set") (fun xs H Q=>∃(a:Addr) (bs:List Addr),xs=[.ref a]/\H a=some (.lst (bs.map V.ref))/\bs.length<=60/\(∀b∈bs,∃ys:List Int,H b=some (.tup (ys.map V.int)))/\∀p,H p=none->Q (.ref p) (upd H p (JF w p (PyS.Ji (Z6 H) bs)))):=hw▸Zcl hc hu
theorem ZgY (w:World)(hc:X.calm=true)(hw:X.w=w:=by rfl):ZP X (.builtin "sorted") (fun xs H Q=>∃(a:Addr) (M:List Addr),xs=[.ref a]/\H a=some (JF w a M)/\M.length<64/\(∀b∈M,∃ys:List Int,ys≠[]/\H b=some (.tup (ys.map V.int)))/\
  ∀l as,H l=none->List.Perm as M->(as.map (Z6 H)).Pairwise (fun x y=>PyZ.Xv y x=false)->Q (.ref l) (upd H l (.lst (as.map V.ref)))):=hw▸Zbl hc
end
end L2
namespace PyY
open PySem
open AutoSeq1 (wpAny_loadPart')
section
variable {prog:Program}{w:World}{A:Around}{E:Value->Shared->Prop}{s:Shared}
end
end PyY
namespace L2
open PySem PySem.Spec PyProof.Rows
section
variable {X:Cx}{pins:List (Addr×Obj)}{σ:St}{H:Hp}{s:Shared}
end
section
variable {X:Cx}
theorem Zck (K:PySem.W.Frag)(hK:X.K=K:=by rfl):ZP X (.builtin "sorted") (fun xs H Q=>∃(a:Addr) (ns:List Int),xs=[.ref a]/\Y0 K H a (ns.map V.int)/\ns.length<64/\∀l ns',H l=none->List.Perm ns' ns->ns'.Pairwise (· ≤ ·)->Q (.ref l) (upd H l (.lst (ns'.map V.int)))):=by
 subst hK
 intro pins s σ H xs us Q I r h
 obtain⟨a,ns,rfl,hq,h64,q⟩:=h
 obtain⟨u,rfl,ru⟩:=vals1 r
 cases ru
 obtain⟨its,rv,p,hz⟩:=I.list hq
 have hl:its.length=ns.length:=by rw[<-rv.length,Za]
 have szl:(16777216:Nat)=sizeLine:=by decide
 refine sorted_ints p.isList (ns:=ns) (JT rv) (by omega) fun out ns' h1 h2 h3=>?_
 obtain⟨e1,he⟩:=sortedAll_at s.heap its out
 have old:∀b o,s.heap.get? b=some o->(sortedAll s.heap its out).get? b=some o:=fun b o e=>sortedAll_old e
 generalize sortedAll s.heap its out=h' at he old ⊢
 have hle:s.heap.objs.size<=s.heap.objs.size+1:=Nat.le_succ _
 generalize s.heap.objs.size+1=D at he hle ⊢
 have fin:=q D ns' (I.hok.fresh hle) h2 h3
 have I':Inv X pins σ (upd H D (.lst (ns'.map V.int))) {s with heap:=h',toks:=s.toks}:=I.laid (a:=D) (o:=.lst (ns'.map V.int)) (t':=s.toks) old hle ⟨by rw[Za,h2.length_eq];omega,out.toList,e1,XG h1,by simpa using he⟩
 exact⟨.ref D,_,I',rfl,fin⟩
end
end L2
namespace Tb
structure Sub (t:List (List Nat))(o:List Nat):Prop where
 n1:1<=o.length
 nd:o.Nodup
 lt:∀v∈o,v<t.length
 z:o.getD 0 0=0
 cl:∀a∈o,∀b∈o,ZA t a b∈o
section
variable {t:List (List Nat)}{o:List Nat}
theorem ZlY (P:PW t){x u v:Nat}(hx:x<t.length)(hu:u<t.length)(hv:v<t.length)(h:ZA t x u=ZA t x v):u=v:=by
 have hb:=(YN P hx).1
 have e:∀w,w<t.length->ZA t (XA t x) (ZA t x w)=w:=fun w hw=>by
  rw[<-P.ass _ _ _ hb hx hw,Zdu P hx,P.one w hw]
 rw[<-e u hu,<-e v hv,h]
def orb (t:List (List Nat))(a r x:Nat):List Nat:=(List.range r).map fun k=>ZA t x (it t a k)
theorem ZiO {i:Nat}(hi:i<o.length):o.getD i 0∈o:=List.mem_of_getElem? (YC hi)
end
section
variable {t:List (List Nat)}{o o2:List Nat}
theorem Zee {l:List Nat}(hs:l.Pairwise (· < ·))(h0:0∈l):l.getD 0 0=0:=by
 cases l with
 |nil=>cases h0
 |cons x r=>
  show x=0
  rcases List.mem_cons.mp h0 with h|h
  ·exact h.symm
  ·have:=(List.pairwise_cons.mp hs).1 0 h
   omega
theorem Ux {l:List Nat}(hs:l.Pairwise (· < ·)):l.Nodup:=List.Pairwise.imp (fun h=>Nat.ne_of_lt h) hs
theorem Zcw (P:PW t){gs:List Nat}(hg:∀g∈gs,g<t.length):Sub t (prtL t.length (YQ t gs)):=by
 have h0:0∈prtL t.length (YQ t gs):=Z7.mpr ⟨P.n1,.zero⟩
 refine⟨List.length_pos_of_mem h0,Ux Wl,fun v hv=>(Z7.mp hv).1,Zee Wl h0,fun a ha b hb=>?_⟩
 obtain⟨la,ra⟩:=Z7.mp ha
 obtain⟨lb,rb⟩:=Z7.mp hb
 exact Z7.mpr ⟨P.lt _ _ la lb,ZcQ P hg ra rb⟩
theorem range_getD {n i:Nat}(h:i<n):(List.range n).getD i 0=i:=by
 rw[Zb,List.getElem?_range h];rfl
theorem VQ (P:PW t):Sub t (List.range t.length):=
 ⟨by rw[Zg];exact P.n1,List.nodup_range,fun v hv=>List.mem_range.mp hv,range_getD P.n1,fun a ha b hb=>List.mem_range.mpr (P.lt _ _ (List.mem_range.mp ha) (List.mem_range.mp hb))⟩
end
section
variable {t:List (List Nat)}{o:List Nat}
theorem ZhV (P:PW t){a:Nat}(ha:a<t.length):XA t (XA t a)=a:=(ZgF P (YN P ha).1 ha (Zdu P ha)).symm
end
end Tb
namespace Tb
open Pm
theorem gD {α:Type}{l:List (List α)}{i:Nat}(h:i<l.length):l[i]?=some (l.getD i []):=by
 rw[Zb,Zf h];rfl
theorem gN {l:List Nat}{i:Nat}(h:i<l.length):l[i]?=some (l.getD i 0):=by
 rw[Zb,Zf h];rfl
def mkT (n m:Nat)(f:Nat->Nat->Nat):List (List Nat):=(List.range n).map fun a=>(List.range m).map fun i=>f a i
section
variable {n m:Nat}{f g:Nat->Nat->Nat}
theorem UW:(mkT n m f).length=n:=by unfold mkT;rw[Za,Zg]
theorem Zc5 {a:Nat}(ha:a<n):(mkT n m f).getD a []=(List.range m).map fun i=>f a i:=by
 unfold mkT
 rw[Zb,Zc,List.getElem?_range ha]
 rfl
theorem ZfJ {a:Nat}(ha:a<n):((mkT n m f).getD a []).length=m:=by rw[Zc5 ha,Za,Zg]
theorem Zb5 {a i:Nat}(ha:a<n)(hi:i<m):ZA (mkT n m f) a i=f a i:=by
 unfold ZA
 rw[Zc5 ha,Zb,Zc,List.getElem?_range hi]
 rfl
theorem Zd2 (h:∀a i,a<n->i<m->f a i=g a i):mkT n m f=mkT n m g:=by
 unfold mkT
 refine List.map_congr_left fun a ha=>List.map_congr_left fun i hi=>h a i (List.mem_range.mp ha) (List.mem_range.mp hi)
theorem Zg3 {r s:List Nat}(hl:r.length=s.length)(h:∀i,i<r.length->r.getD i 0=s.getD i 0):r=s:=by
 refine List.ext_getElem? fun i=>?_
 by_cases hi:i<r.length
 ·rw[gN hi,gN (by omega),h i hi]
 ·rw[List.getElem?_eq_none (by omega),List.getElem?_eq_none (by omega)]
theorem ZgQ {r s:List (List Nat)}(hl:r.length=s.length)(h:∀i,i<r.length->r.getD i []=s.getD i []):r=s:=by
 refine List.ext_getElem? fun i=>?_
 by_cases hi:i<r.length
 ·rw[gD hi,gD (by omega),h i hi]
 ·rw[List.getElem?_eq_none (by omega),List.getElem?_eq_none (by omega)]
theorem ZjD {ds:List (List Nat)}(hl:ds.length=n)(hr:∀a,a<n->(ds.getD a []).length=m):ds=mkT n m (ZA ds):=by
 refine ZgQ (by rw[UW,hl]) fun a ha=>?_
 have ha:a<n:=by omega
 refine Zg3 (by rw[ZfJ ha,hr a ha]) fun i hi=>?_
 rw[hr a ha] at hi
 exact (Zb5 (f:=ZA ds) ha hi).symm
end
section
variable {t:List (List Nat)}{m m2:Nat}{ds es:List (List Nat)}
structure Sd (t:List (List Nat))(m:Nat)(rss:List (List Nat))(num:Nat->Nat):Prop where
 m1:1<=m
 len:rss.length=m
 ne:∀k,k<m->rss.getD k []≠[]
 mem:∀k x,k<m->(x∈rss.getD k []↔x<t.length/\num x=k)
 lt:∀x,x<t.length->num x<m
 go:∀a x y,a<t.length->x<t.length->y<t.length->num x=num y->num (ZA t a x)=num (ZA t a y)
theorem Sd.rep {rss:List (List Nat)}{num:Nat->Nat}(S:Sd t m rss num){k:Nat}(hk:k<m):(rss.getD k []).getD 0 0<t.length/\num ((rss.getD k []).getD 0 0)=k:=by
 have h0:0<(rss.getD k []).length:=List.length_pos_iff.mpr (S.ne k hk)
 exact (S.mem k _ hk).mp (List.mem_of_getElem? (gN h0))
end
end Tb
namespace Tb
section
variable {t:List (List Nat)}{o:List Nat}
theorem sub_zero (S:Sub t o):0∈o:=by
 have:=ZiO (o:=o) S.n1
 rw[S.z] at this
 exact this
theorem ZjU (P:PW t)(S:Sub t o){a:Nat}(ha:a∈o):XA t a∈o:=by
 obtain⟨r,R⟩:=P.rd a (S.lt a ha)
 rw[<-Zaj P (S.lt a ha) R]
 have:∀k,it t a k∈o:=fun k=>by
  induction k with
  |zero=>exact sub_zero S
  |succ k ih=>exact S.cl _ ih _ ha
 exact this _
end
end Tb
namespace Tb
open Pm
section
variable {t:List (List Nat)}{o:List Nat}
def sC (t:List (List Nat))(o:List Nat)(a:Nat):List Nat:=(List.range t.length).filter fun x=>(o.map (ZA t a)).contains x
theorem Z9 {a x:Nat}:x∈sC t o a↔x<t.length/\∃h∈o,ZA t a h=x:=by
 unfold sC
 rw[List.mem_filter,List.mem_range,List.contains_iff_mem,List.mem_map]
theorem JI (a:Nat):(sC t o a).Pairwise (· < ·):=List.Pairwise.sublist List.filter_sublist List.pairwise_lt_range
theorem Wv (P:PW t)(S:Sub t o){a:Nat}(ha:a<t.length):a∈sC t o a:=Z9.mpr ⟨ha,0,sub_zero S,P.oneR a ha⟩
theorem VX (P:PW t)(S:Sub t o){a x:Nat}(ha:a<t.length)(h:x∈sC t o a):sC t o x=sC t o a:=by
 obtain⟨hx,k,hk,rfl⟩:=Z9.mp h
 have kl:=S.lt k hk
 unfold sC
 refine List.filter_congr fun y hy=>?_
 have key:(o.map (ZA t (ZA t a k))).contains y=true↔(o.map (ZA t a)).contains y=true:=by
  rw[List.contains_iff_mem,List.contains_iff_mem,List.mem_map,List.mem_map]
  constructor
  ·rintro⟨j,hj,rfl⟩
   exact⟨ZA t k j,S.cl k hk j hj,(P.ass a k j ha kl (S.lt j hj)).symm⟩
  ·rintro⟨j,hj,rfl⟩
   have hb:=ZjU P S hk
   have bl:=S.lt _ hb
   refine⟨ZA t (XA t k) j,S.cl _ hb j hj,?_⟩
   rw[P.ass a k _ ha kl (P.lt _ _ bl (S.lt j hj)),<-P.ass k _ j kl bl (S.lt j hj),(YN P kl).2,P.one j (S.lt j hj)]
 cases e:(o.map (ZA t a)).contains y with
 |true=>exact key.mpr e
 |false=>
  cases e2:(o.map (ZA t (ZA t a k))).contains y with
  |false=>rfl
  |true=>rw[key.mp e2] at e;cases e
def WY (t:List (List Nat))(o:List Nat):Nat->List (List Nat)
 |0=>[]
 |i+1=>if (WY t o i).contains (sC t o i) then WY t o i else WY t o i++[sC t o i]
theorem JU:∀i,∀r∈WY t o i,∃a,a<i/\r=sC t o a
 |0,r,h=>by cases h
 |i+1,r,h=>by
  unfold WY at h
  split at h
  ·obtain⟨a,ha,e⟩:=JU i r h
   exact⟨a,by omega,e⟩
  ·rcases List.mem_append.mp h with h|h
   ·obtain⟨a,ha,e⟩:=JU i r h
    exact⟨a,by omega,e⟩
   ·exact⟨i,by omega,List.mem_singleton.mp h⟩
theorem WX:∀i a,a<i->sC t o a∈WY t o i
 |i+1,a,h=>by
  unfold WY
  by_cases e:a=i
  ·subst e
   split
   ·rename_i h2;exact List.contains_iff_mem.mp h2
   ·exact List.mem_append_right _ List.mem_cons_self
  ·have:=WX i a (by omega)
   split
   ·exact this
   ·exact List.mem_append_left _ this
theorem JV:∀i,(WY t o i).Nodup
 |0=>List.nodup_nil
 |i+1=>by
  unfold WY
  split
  ·exact JV i
  ·rename_i h
   refine List.nodup_append.mpr ⟨JV i,by simp,fun a ha b hb e=>h ?_⟩
   rw[List.mem_singleton.mp hb] at e
   exact List.contains_iff_mem.mpr (e▸ha)
theorem JW:∀i,(WY t o i).length<=i
 |0=>Zq _
 |i+1=>by
  unfold WY
  have:=JW i
  split
  ·omega
  ·rw[Zd,Zk];omega
theorem Zgr (P:PW t):(WY t (List.range t.length) t.length).length=1:=by
 have S:=VQ P
 have h0:∀a,a<t.length->sC t (List.range t.length) a=sC t (List.range t.length) 0:=fun a ha=>
  VX P S P.n1 (Z9.mpr ⟨ha,a,List.mem_range.mpr ha,P.one a ha⟩)
 have key:∀i,i<=t.length->WY t (List.range t.length) i=if i=0 then [] else [sC t (List.range t.length) 0]:=fun i=>by
  induction i with
  |zero=>intro _;rfl
  |succ i ih=>
   intro hi
   rw[if_neg (Nat.succ_ne_zero i)]
   show (if (WY t _ i).contains _ then _ else _)=_
   rw[ih (by omega),h0 i (by omega)]
   by_cases e:i=0
   ·rw[if_pos e];rfl
   ·rw[if_neg e,if_pos (by simp)]
 have n1:=P.n1
 rw[key _ (Zq _),if_neg (by omega)]
 rfl
theorem Zjp {α:Type}{l:List α}(nd:l.Nodup){i j:Nat}(hi:i<l.length)(hj:j<l.length)(e:l[i]=l[j]):i=j:=by
 rw[List.nodup_iff_pairwise_ne,List.pairwise_iff_getElem] at nd
 rcases Nat.lt_trichotomy i j with h|h|h
 ·exact absurd e (nd i j hi hj h)
 ·exact h
 ·exact absurd e.symm (nd j i hj hi h)
def Yi (rss:List (List Nat))(x:Nat):Nat:=rss.findIdx (·.contains x)
theorem Jm (P:PW t)(S:Sub t o){rss:List (List Nat)}(hp:rss.Perm (WY t o t.length)):Sd t rss.length rss (Yi rss):=by
 have nd:rss.Nodup:=hp.nodup_iff.mpr (JV _)
 have of:∀k,k<rss.length->∃a,a<t.length/\rss.getD k []=sC t o a:=fun k hk=>JU _ _ (hp.mem_iff.mp (List.mem_of_getElem? (gD hk)))
 have all:∀x,x<t.length->sC t o x∈rss:=fun x hx=>hp.mem_iff.mpr (WX _ _ hx)
 have lt:∀x,x<t.length->Yi rss x<rss.length/\x∈rss.getD (Yi rss x) []:=fun x hx=>by
  have h1:Yi rss x<rss.length:=List.findIdx_lt_length.mpr ⟨_,all x hx,List.contains_iff_mem.mpr (Wv P S hx)⟩
  refine⟨h1,?_⟩
  have h2:=List.findIdx_getElem (p:=fun r:List Nat=>r.contains x) (xs:=rss) (w:=h1)
  have e:rss.getD (Yi rss x) []=rss[Yi rss x]'h1:=by
   rw[Zb,Zf h1]
   rfl
  rw[e]
  exact List.contains_iff_mem.mp h2
 have row:∀k x,k<rss.length->x∈rss.getD k []->rss.getD k []=sC t o x:=fun k x hk hx=>by
  obtain⟨a,ha,e⟩:=of k hk
  rw[e] at hx ⊢
  exact (VX P S ha hx).symm
 have un:∀k x,k<rss.length->x<t.length->x∈rss.getD k []->Yi rss x=k:=fun k x hk hxl hx=>by
  obtain⟨h1,h2⟩:=lt x hxl
  have e:rss.getD (Yi rss x) []=rss.getD k []:=by rw[row _ _ h1 h2,row _ _ hk hx]
  have e2:rss[Yi rss x]'h1=rss[k]'hk:=by
   rw[Zb,Zf h1,Zb,Zf hk] at e
   exact e
  exact Zjp nd h1 hk e2
 refine⟨?_,rfl,fun k hk e=>?_,fun k x hk=>⟨fun hx=>?_,?_⟩,fun x hx=>(lt x hx).1,fun a x y ha hx hy e=>?_⟩
 ·exact List.length_pos_of_mem (all 0 P.n1)
 ·obtain⟨a,ha,e2⟩:=of k hk
  have:=Wv P S ha
  rw[<-e2,e] at this
  cases this
 ·obtain⟨a,ha,e⟩:=of k hk
  have hxl:=(Z9.mp (e▸hx)).1
  exact⟨hxl,un k x hk hxl hx⟩
 ·rintro⟨hx,rfl⟩
  exact (lt x hx).2
 ·obtain⟨h1,h2⟩:=lt y hy
  have hxy:y∈sC t o x:=by
   obtain⟨g1,g2⟩:=lt x hx
   rw[<-row _ _ g1 g2,e]
   exact h2
  obtain⟨_,h,hh,rfl⟩:=Z9.mp hxy
  have al:=P.lt a x ha hx
  have bl:=P.lt a _ ha hy
  obtain⟨g1,g2⟩:=lt _ al
  refine (un _ _ g1 bl ?_).symm
  rw[row _ _ g1 g2]
  exact Z9.mpr ⟨bl,h,hh,P.ass a x h ha hx (S.lt h hh)⟩
end
section
variable {t:List (List Nat)}{o:List Nat}
def nJ (l:List Nat):List Int:=l.map fun k:Nat=>(k:Int)
theorem Zb3 {a b:List Nat}(h:nJ a=nJ b):a=b:=by
 have:=congrArg (List.map Int.toNat) h
 unfold nJ at this
 rw[List.map_map,List.map_map] at this
 have e:∀l:List Nat,l.map (Int.toNat ∘ fun k:Nat=>(k:Int))=l:=fun l=>by
  have:(Int.toNat ∘ fun k:Nat=>(k:Int))=id:=funext fun k=>Zj k
  rw[this,List.map_id]
 rwa [e,e] at this
structure ZZ (t:List (List Nat))(o:List Nat)(rss:List (List Nat)):Prop where
 pm:rss.Perm (WY t o t.length)
 so:rss.Pairwise fun a b=>PyZ.Xv (nJ b) (nJ a)=false
theorem ZZ.uniq {a b:List (List Nat)}(x:ZZ t o a)(y:ZZ t o b):a=b:=
 List.Perm.eq_of_pairwise (fun p q _ _ h1 h2=>Zb3 (PyZ.U1 h2 h1)) x.so y.so (x.pm.trans y.pm.symm)
theorem Zgs {r:List Nat}:r∈WY t o t.length↔∃a,a<t.length/\r=sC t o a:=
 ⟨JU _ r,fun ⟨a,ha,e⟩=>e▸WX _ _ ha⟩
theorem ZZ.mk' {rss:List (List Nat)}(nd:rss.Nodup)(hm:∀r,r∈rss↔∃a,a<t.length/\r=sC t o a)(so:rss.Pairwise fun a b=>PyZ.Xv (nJ b) (nJ a)=false):ZZ t o rss:=
 ⟨(List.perm_ext_iff_of_nodup nd (JV _)).mpr fun r=>(hm r).trans Zgs.symm,so⟩
theorem VY (P:PW t)(S:Sub t o){a:Nat}(ha:a<t.length):(o.map (ZA t a)).Nodup:=by
 refine List.Pairwise.map _ (R:=fun x y=>x≠y/\x<t.length/\y<t.length) (fun x y h e=>h.1 (ZlY P ha h.2.1 h.2.2 e)) ?_
 exact List.pairwise_and_iff.mpr ⟨S.nd,List.pairwise_of_forall_mem_list fun x hx y hy=>⟨S.lt x hx,S.lt y hy⟩⟩
theorem Zg1 (P:PW t)(S:Sub t o){a:Nat}(ha:a<t.length):(sC t o a).Perm (o.map (ZA t a)):=by
 refine (List.perm_ext_iff_of_nodup ((JI a).imp fun h=>Nat.ne_of_lt h) (VY P S ha)).mpr fun x=>?_
 rw[Z9,List.mem_map]
 constructor
 ·rintro⟨_,h,hh,e⟩
  exact⟨h,hh,e⟩
 ·rintro⟨h,hh,e⟩
  exact⟨e▸P.lt _ _ ha (S.lt h hh),h,hh,e⟩
theorem Ze4 (P:PW t)(S:Sub t o){a:Nat}(ha:a<t.length):(sC t o a).length=o.length:=by
 rw[(Zg1 P S ha).length_eq,Za]
theorem ZZ.row {rss:List (List Nat)}(x:ZZ t o rss){r:List Nat}(h:r∈rss):∃a,a<t.length/\r=sC t o a:=JU _ r (x.pm.mem_iff.mp h)
theorem ZZ.flat (P:PW t)(S:Sub t o){rss:List (List Nat)}(x:ZZ t o rss):rss.flatten.Perm (List.range t.length):=by
 refine (List.perm_ext_iff_of_nodup ?_ List.nodup_range).mpr fun y=>?_
 ·refine List.pairwise_flatten.mpr ⟨fun r hr=>?_,?_⟩
  ·obtain⟨a,_,rfl⟩:=x.row hr
   exact (JI a).imp fun h=>Nat.ne_of_lt h
  ·have nd:rss.Nodup:=x.pm.nodup_iff.mpr (JV _)
   refine (List.Pairwise.and_mem.mp nd).imp fun {r r'} ⟨hr,hr',hne⟩ y hy y' hy' e=>hne ?_
   subst e
   obtain⟨a,ha,rfl⟩:=x.row hr
   obtain⟨b,hb,rfl⟩:=x.row hr'
   rw[<-VX P S ha hy,<-VX P S hb hy']
 ·rw[List.mem_flatten,List.mem_range]
  constructor
  ·rintro⟨r,hr,hy⟩
   obtain⟨a,ha,rfl⟩:=x.row hr
   exact (Z9.mp hy).1
  ·intro hy
   exact⟨sC t o y,x.pm.mem_iff.mpr (WX _ _ hy),Wv P S hy⟩
end
end Tb
namespace C23
open PySem L2 PySem.Spec PyProof.Rows
open Tb Pm
abbrev ZeW:Stmt:=top 33
def Ur (K:PySem.W.Frag):Sp:=fun vs H Q _=>∃(g a:Addr) (t:List (List Nat)) (o:List Nat),vs=[.ref g,.ref a]/\GT H g t/\PW t/\Sub t o/\Wu K H a (o.map nV)/\∀r rss H',Same H H'->ZZ t o rss->CT H' r rss->Q (.ref r) H'
theorem ZiQ {o:List Nat}(f:Nat->Nat)(ol:(o.map nV).length=o.length):(List.range (o.map nV).length).map (fun j=>nV (f (o.getD j 0)))=(nI (o.map f)).map V.int:=by
 rw[ol,Zb4,List.map_map]
 refine List.ext_getElem? fun j=>?_
 rw[Zc,Zc]
 by_cases hj:j<o.length
 ·rw[List.getElem?_range hj,YC hj];rfl
 ·rw[List.getElem?_eq_none (by rw[Zg];omega),List.getElem?_eq_none (by omega)];rfl
theorem ZaA {t:List (List Nat)}{o:List Nat}(Pt:PW t)(S:Sub t o){i:Nat}(hi:i<t.length){ns:List Int}(hp:List.Perm ns (nI (o.map (ZA t i))))(hs:ns.Pairwise (· ≤ ·)):ns.map V.int=(sC t o i).map nV:=
 XH hp hs (by
  unfold nI
  exact List.Pairwise.map _ (fun x y (h:x≠y) e=>h (by omega)) (VY Pt S hi)) (fun k=>by
  unfold nI
  rw[List.map_map,List.mem_map]
  constructor
  ·rintro⟨h,hh,rfl⟩
   exact⟨ZA t i h,Z9.mpr ⟨Pt.lt _ _ hi (S.lt h hh),h,hh,rfl⟩,rfl⟩
  ·rintro⟨x,hx,rfl⟩
   obtain⟨_,h,hh,rfl⟩:=Z9.mp hx
   exact⟨h,hh,rfl⟩) (JI i)
section
variable {P:Program}{w:World}{K:PySem.W.Frag}{mg:Str->Option Value}{base:Heap}
theorem Zfw {f:Addr}{fd:FuncData}(F:Wf K "sides" "sides" ZeW f fd)(T:Bl mg)(T2:Zao mg):ZQ P w K mg base Z2 1 f fd ["group", "part"] (Ur K):=by
 refine F.ok (FS (N:=["group", "part", "found"])) (fun vs H Q E h=>?_) (fun cdv A outer s H vs Q E hr h=>?_)
 ·obtain⟨g,a,t,o,rfl,_⟩:=h;rfl
 ·obtain⟨g,pa,t,o,rfl,G,Pt,S,ha,q⟩:=h
  refine⟨_,Zu (ZlK 2 ["row"] [1] ["row", "part"] rfl rfl (itT K (vn 0)) (fun _ _ _ _ _=>gnf 0 rfl) (fun _ _ _ _ _=>ZW)
    (fun _ _ _ _ _=>ct (tupK K) (by exact T.tuple) (pc (cb (Zck K) (by exact T2.sorted) (pc (cmp ["h"] [0] ["h", "row"] rfl (itT K (vn 1)) (fun _ _ _ _ _=>gn 0) (fun _ _ _ _ _=>ZW) (fun _ _ _ _ _=>ZE (Wn K) (vn 1) (vn 0) (fun _ _=>rfl))) Zs)) Zs)))
   (Zv (ZC (ct ZI T.tuple (pc (cb (ZgY w rfl) T2.sorted (pc (ct (Zkt w rfl hr.units) T.set (pc (vn 2) Zs)) Zs)) Zs)))),?_⟩
  have sz:(16777216:Nat)=sizeLine:=by decide
  have n1:=Pt.n1
  have n60:=Pt.n60
  have o60:o.length<=60:=by have:=V4 _ _ S.nd S.lt;omega
  have ol:(o.map nV).length=o.length:=List.length_map ..
  obtain⟨rs,g1,g2,g3⟩:=id G
  have rl:(rs.map V.ref).length=t.length:=by rw[Za,g2]
  refine⟨_,rfl,g,rfl,⟨_,.of g1⟩,?_⟩
  refine Vr (W:=Addr) id (fun i b H=>H b=some (.tup ((sC t o i).map nV))) (fun _ _=>True) (Ym (K:=K) (.of g1)) [some (.ref pa)] rfl (by omega) (fun i w H H' s h=>s _ _ h) (fun _ _ _ _ h=>h) (fun i w H0 H1 D o' ys ys' h h0 h1 h2=>?_) (fun i y hy H1 s1 R k=>?_) (fun D bs H1 nD s1 hD wl hw _=>?_)
  ·rw[Zw fun z=>by rw[z,h2] at h;cases h]
   exact h
  ·rw[Zc] at hy
   cases er:rs[i]? with
   |none=>rw[er] at hy;cases hy
   |some r=>
    rw[er] at hy
    cases hy
    have hi:i<t.length:=by rw[<-g2];exact (List.getElem?_eq_some_iff.mp er).1
    have hr1:=(g3 i r er).mono s1
    have ha1:=s1.tup ha
    refine⟨_,rfl,pa,rfl,⟨_,ha1⟩,?_⟩
    refine Vs (Ym (K:=K) ha1) [some (.ref r)] rfl (fun j=>nV (ZA t i (o.getD j 0))) (by rw[ol];omega) (fun j y hy H2 s2 R k=>?_) (fun L H2 nL s2 hL=>?_)
    ·obtain⟨x,hx,rfl⟩:=Yx hy
     have hxl:=S.lt x (List.mem_of_getElem? hx)
     have ox:o.getD j 0=x:=by rw[Zb,hx];rfl
     have fin:=k H2 (Same.refl _)
     rw[ox] at fin
     refine⟨_,rfl,_,rfl,r,_,_,_,rfl,rfl,(hr1.mono s2).sq,?_,fin⟩
     refine YV ?_
     rw[Zc,YC (by rw[Yh Pt hi];exact hxl)]
     rfl
    ·rw[ZiQ (ZA t i) ol] at hL
     refine⟨L,_,rfl,.of hL,by unfold nI;rw[Za,Za];omega,fun Rr ns nRr hp hs=>?_⟩
     rw[ZaA Pt S hi hp hs]
     have s3:=Same.upd (H:=H2) (o:=.lst ((sC t o i).map nV)) nRr
     refine⟨Rr,_,rfl,.inl ⟨.of Zt,fun l nl=>?_⟩⟩
     exact k l _ ((s2.trans s3).trans (Same.upd nl)) Zt trivial
  ·have hD:H1 D=some (.lst (bs.map V.ref)):=hD
   rw[rl] at wl
   have hb:∀(i:Nat) b,bs[i]?=some b->i<t.length/\H1 b=some (.tup ((nI (sC t o i)).map V.int)):=fun i b e=>by
    rw[Zb4]
    exact⟨by rw[<-wl];exact (List.getElem?_eq_some_iff.mp e).1,(hw i b e).1⟩
   have hm:∀b∈bs,∃i,i<t.length/\H1 b=some (.tup ((nI (sC t o i)).map V.int)):=fun b e=>by
    obtain⟨i,hi⟩:=List.getElem?_of_mem e
    exact⟨i,hb i b hi⟩
   refine⟨_,rfl,D,bs,rfl,hD,by omega,fun b e=>(hm b e).elim fun i h=>⟨_,h.2⟩,fun p np=>?_⟩
   have MO:=PyS.UY (Z6 H1) bs
   generalize PyS.Ji (Z6 H1) bs=M at MO ⊢
   have s2:=Same.upd (H:=H1) (o:=JF w p M) np
   have h2:=Zt (H:=H1) (a:=p) (o:=JF w p M)
   generalize upd H1 p (JF w p M)=H2 at s2 h2 ⊢
   have hm2:∀b∈M,∃i,i<t.length/\H2 b=some (.tup ((nI (sC t o i)).map V.int))/\Z6 H1 b=nI (sC t o i)/\Z6 H2 b=nI (sC t o i):=fun b e=>by
    obtain⟨i,hi,h⟩:=hm b (MO.sub b e)
    exact⟨i,hi,s2 _ _ h,WL h,WL (s2 _ _ h)⟩
   refine⟨p,M,rfl,h2,by have:=MO.len;omega,fun b e=>?_,fun l as nl pas hso=>?_⟩
   ·obtain⟨i,hi,h,_⟩:=hm2 b e
    refine⟨_,fun z=>?_,h⟩
    have:=List.length_pos_of_mem (Wv Pt S hi)
    have z:=congrArg List.length z
    unfold nI at z
    rw[Za,List.length_nil] at z
    omega
   ·have s3:=Same.upd (H:=H2) (o:=.lst (as.map V.ref)) nl
    refine⟨l,_,rfl,.inl ⟨.of Zt,fun r nr=>?_⟩⟩
    have s4:=s3.trans (Same.upd (H:=upd H2 l (.lst (as.map V.ref))) (o:=.tup (as.map V.ref)) nr)
    have hma:∀b∈as,∃i,i<t.length/\H2 b=some (.tup ((nI (sC t o i)).map V.int))/\Z6 H1 b=nI (sC t o i)/\Z6 H2 b=nI (sC t o i):=fun b e=>hm2 b (pas.mem_iff.mp e)
    have enat:∀b∈as,nJ ((Z6 H2 b).map Int.toNat)=Z6 H2 b:=fun b e=>by
     obtain⟨i,_,_,_,e2⟩:=hma b e
     rw[e2]
     unfold nJ nI
     rw[List.map_map,List.map_map]
     exact List.map_congr_left fun k _=>rfl
    have erow:∀b∈as,∃i,i<t.length/\(Z6 H2 b).map Int.toNat=sC t o i:=fun b e=>by
     obtain⟨i,hi,_,_,e2⟩:=hma b e
     refine⟨i,hi,Zb3 ?_⟩
     rw[enat b e,e2]
     rfl
    refine q r (as.map fun b=>(Z6 H2 b).map Int.toNat) _ ((s1.trans s2).trans s4) ?_ ?_
    ·refine ZZ.mk' ?_ (fun r=>?_) ?_
     ·have nd:(as.map (Z6 H1)).Nodup:=(pas.map _).nodup_iff.mpr MO.nd
      refine List.pairwise_map.mpr ((List.Pairwise.and_mem.mp (List.pairwise_map.mp nd)).imp fun {x y} ⟨hx,hy,hne⟩ z=>hne ?_)
      obtain⟨i,_,_,e1,e2⟩:=hma x hx
      obtain⟨j,_,_,e3,e4⟩:=hma y hy
      rw[e1,e3,<-e2,<-e4,<-enat x hx,<-enat y hy,z]
     ·rw[List.mem_map]
      constructor
      ·rintro⟨b,hb,rfl⟩
       exact erow b hb
      ·rintro⟨i,hi,rfl⟩
       have e:bs[i]?=some (bs[i]'(by omega)):=Zf (by omega)
       obtain⟨_,h⟩:=hb i _ e
       obtain⟨c,hc,ek⟩:=MO.all _ (List.mem_of_getElem? e)
       rw[WL h] at ek
       have hc':=pas.mem_iff.mpr hc
       refine⟨c,hc',Zb3 ?_⟩
       rw[enat c hc']
       obtain⟨j,_,_,e3,e4⟩:=hma c hc'
       rw[e4,<-e3,ek]
       rfl
     ·refine List.pairwise_map.mpr ((List.Pairwise.and_mem.mp (List.pairwise_map.mp hso)).imp fun {x y} ⟨hx,hy,hlt⟩=>?_)
      rw[enat x hx,enat y hy]
      exact hlt
    ·refine⟨as,Zt,by rw[Za],fun i b e=>?_⟩
     have hbm:=List.mem_of_getElem? e
     obtain⟨j,_,h,_,e2⟩:=hma b hbm
     have er:(as.map fun b=>(Z6 H2 b).map Int.toNat).getD i []=(Z6 H2 b).map Int.toNat:=by rw[Zb,Zc,e];rfl
     rw[er]
     have:((Z6 H2 b).map Int.toNat).map nV=(nI (sC t o j)).map V.int:=by
      rw[<-Zb4]
      have:=enat b hbm
      show (nJ ((Z6 H2 b).map Int.toNat)).map V.int=_
      rw[this,e2]
     rw[this]
     exact s4 _ _ h
end
end C23
namespace L2
open PySem PySem.Spec PyProof.Rows
section
variable {X:Cx}
end
def TT2 (H:Hp)(a:Addr)(ys:List V):Prop:=H a=some (.tup ys)\/Tz H a ys
theorem TT2.sq {K:PySem.W.Frag}{H:Hp}{a:Addr}{ys:List V}(h:TT2 H a ys):Wu K H a ys:=h.elim (fun h=>.of h) fun h=>h.sq
theorem Zjz {X:Cx}(K:PySem.W.Frag)(hK:X.K=K:=by rfl):ZP X (.builtin "isinstance") (fun xs H Q=>∃a ys,xs=[.ref a,.ty "tuple"]/\TT2 H a ys/\Q (.bl true) H):=by
 intro pins s σ H xs us Q I r h
 obtain⟨a,ys,rfl,h,q⟩:=h
 cases r with
 |cons r1 r=>
  cases r with
  |cons r2 r=>
   cases r
   rename_i v1 v2
   cases (show v2=Value.type "tuple" from r2)
   cases (show v1=Value.ref a from r1)
   have e:PySem.W.kitOne X.K (.type "tuple") (.type "tuple")=some true:=ZkX (by decide) (by decide)
   rcases h with h|⟨o,h,hc,_⟩
   ·exact Ub (x:=.ref a) I rfl (.tup h) e fun tk=>⟨.bl true,H,I.tok _,rfl,q⟩
   ·obtain⟨h1,_⟩:=(show ZN X.prog X.w H s.heap a (.frz o (.tup ys)) from I.hok a _ h)
    exact PySem.W.kia_one PySem.W.kitx_tuple I.kIn ⟨o,h1,hc⟩ e (fun z=>nomatch z) fun tk=>⟨.bl true,H,I.tok _,rfl,q⟩
end L2
namespace C23
open PySem L2 PySem.Spec PyProof.Rows
open Tb Pm
abbrev ZeV:Stmt:=top 16
abbrev Zig:Stmt:=top 17
abbrev ZeX:Stmt:=top 21
abbrev Zie:Stmt:=top 22
abbrev ZcK:Stmt:=top 23
abbrev Zkz:Stmt:=top 24
def Zaw:Sp:=fun vs H Q _=>∃z:Int,vs=[.int z]/\Q (.bl true) H
def ZeR:Sp:=fun vs H Q _=>∃(r:Addr) (xs:List Nat) (c:Nat),vs=[.ref r,.int (c:Nat)]/\TT2 H r (xs.map nV)/\xs.length<=1000/\(∀x∈xs,x<c)/\∀H',Same H H'->Q (.bl true) H'
def Uu:Sp:=fun vs H Q _=>∃(g:Addr) (t:List (List Nat)),vs=[.ref g]/\GT H g t/\PW t/\∀H',Same H H'->Q (.bl true) H'
def ZcG:Sp:=fun vs H Q _=>∃(g:Addr) (t:List (List Nat)) (a:Nat),vs=[.ref g,.int (a:Nat)]/\GT H g t/\PW t/\a<t.length/\∀H',Same H H'->Q (.bl true) H'
theorem Ze7 {t:List (List Nat)}(P:PW t){a:Nat}(ha:a<t.length):∀x∈t.getD a [],x<t.length:=fun x hx=>by
 obtain⟨b,hb,e⟩:=List.getElem_of_mem hx
 have hl:=Yh P ha
 have:=P.lt a b ha (by omega)
 unfold ZA at this
 rw[Zb,Zf hb] at this
 rw[<-e]
 exact this
theorem Zgo (a b:Nat):decide (V.int ((a:Nat):Int)=V.int ((b:Nat):Int))=decide (a=b):=by
 rw[Zaa]
 by_cases e:a=b
 ·rw[decide_eq_true e,e];exact beq_self_eq_true _
 ·rw[decide_eq_false e];exact beq_eq_false_iff_ne.mpr (by omega)
theorem GT.row {H:Hp}{g:Addr}{t:List (List Nat)}(G:GT H g t){rs:List Addr}(h:H g=some (.tup (rs.map V.ref))){i:Nat}{y:V}(hy:(rs.map V.ref)[i]?=some y):∃r,y=.ref r/\i<t.length/\Tz H r ((t.getD i []).map nV):=by
 obtain⟨rs',h1,h2,h3⟩:=G
 have ers:rs'=rs:=by
  rw[h] at h1
  have hh:=Option.some.inj h1
  injection hh with hh
  exact ((List.map_inj_right (fun x y e=>by injection e)).mp hh).symm
 subst ers
 rw[Zc] at hy
 cases e:rs'[i]? with
 |none=>rw[e] at hy;cases hy
 |some r=>
  rw[e] at hy
  exact⟨r,(Option.some.inj hy).symm,by have:=(List.getElem?_eq_some_iff.mp e).1;omega,h3 i r e⟩
section
variable {P:Program}{w:World}{K:PySem.W.Frag}{mg:Str->Option Value}{base:Heap}
theorem ZdS {f:Addr}{fd:FuncData}(F:Wf K "is_whole" "is_whole" ZeV f fd)(T:Bl mg):ZQ P w K mg base Z2 1 f fd ["thing"] Zaw:=by
 refine F.ok (FS (N:=["thing"])) (fun vs H Q E h=>?_) (fun cdv A outer s H vs Q E hr h=>?_)
 ·obtain⟨z,rfl,_⟩:=h;rfl
 ·obtain⟨z,rfl,q⟩:=h
  refine⟨_,Zv (ZC (Ve (cb (ZjA K "int") T.isi (pc (vn 0) (pc (tyv "int" T.int) Zs))) (Vd (Zi5 (cb (ZjA K "bool") T.isi (pc (vn 0) (pc (tyv "bool" T.bool) Zs))))))),?_⟩
  have hk:Kd K H (.int z) "int":=⟨.int z,by decide⟩
  exact⟨_,rfl,_,_,rfl,hk,_,rfl,Xe (by decide) ⟨_,rfl,_,_,rfl,hk,_,rfl,q⟩⟩
theorem Zhr {f:Addr}{fd:FuncData}(F:Wf K "are_things" "are_things" Zig f fd)(T:Bl mg)(GW:Fn P w K mg base Z2 1 "is_whole" ["thing"] Zaw):ZQ P w K mg base Z2 2 f fd ["thing", "count"] ZeR:=by
 refine F.ok (FS (N:=["thing", "count"])) (fun vs H Q E h=>?_) (fun cdv A outer s H vs Q E hr h=>?_)
 ·obtain⟨r,xs,c,rfl,_⟩:=h;rfl
 ·obtain⟨r,xs,c,rfl,hx,hl,hlt,q⟩:=h
  refine⟨_,Zv (ZC (Ve (cb (Zjz K) T.isi (pc (vn 0) (pc (tyv "tuple" T.tuple) Zs)))
   (Vd (cb (Zbn rfl) T.all (pc (cmp ["x"] [1] ["x", "count"] rfl (itT K (vn 0)) (fun _ _ _ _ _=>gn 0) (fun _ _ _ _ _=>ZW)
    (fun _ _ _ _ _=>Ve (We GW hr ZK (pc (vn 0) Zs)) (Vd (Zfj ZkO ZaO Zz (vn 0) (vn 1))))) Zs))))),?_⟩
  refine⟨_,rfl,r,_,rfl,hx,_,rfl,Xe rfl ?_⟩
  refine⟨_,rfl,r,rfl,⟨_,hx.sq⟩,?_⟩
  refine Yr (Ym (K:=K) hx.sq) [some (.int c)] rfl (fun _=>.bl true) (by rw[Za];omega) (fun i y H' hy s R g=>?_) (fun D H' hD s hl'=>?_)
  ·obtain⟨k,hk,rfl⟩:=Yx hy
   have:=hlt k (List.mem_of_getElem? hk)
   refine⟨_,rfl,_,rfl,_,rfl,Xe rfl ⟨_,rfl,_,_,rfl,rfl,_,rfl,Xe (decide_eq_true (by omega)) ⟨_,rfl,_,_,rfl,rfl,?_⟩⟩⟩
   have e:decide (((k:Nat):Int)<((c:Nat):Int))=true:=decide_eq_true (by omega)
   have:=g H' (Same.refl _)
   rw[<-e] at this
   exact this
  ·refine⟨D,List.replicate xs.length true,rfl,.of ?_,?_⟩
   ·rw[hl']
    congr 2
    refine List.ext_getElem? fun i=>?_
    rw[Zc,Zc,Zc,List.getElem?_replicate]
    by_cases h:i<xs.length
    ·rw[Zf h,if_pos h];rfl
    ·rw[List.getElem?_eq_none (by omega),if_neg h];rfl
   ·have e:(List.replicate xs.length true).all id=true:=by rw[List.all_eq_true];intro x hx;exact (List.mem_replicate.mp hx).2
    rw[e]
    exact q H' s
theorem Zfx {f:Addr}{fd:FuncData}{tk:Tok}(F:Wf K "has_shape" "has_shape" ZeX f fd)(T:Bl mg)(hM:mg "MOST_THINGS"=some (.int 60 tk))(GA:Fn P w K mg base Z2 2 "are_things" ["thing", "count"] ZeR) :
  ZQ P w K mg base Z2 3 f fd ["thing"] Uu:=by
 refine F.ok (FS (N:=["thing", "count"])) (fun vs H Q E h=>?_) (fun cdv A outer s H vs Q E hr h=>?_)
 ·obtain⟨g,t,rfl,_⟩:=h;rfl
 ·obtain⟨g,t,rfl,G,Pt,q⟩:=h
  refine⟨_,Zu (Z3 (VZ (Ww (YJ (cb (Zjz K) T.isi (pc (vn 0) (pc (tyv "tuple" T.tuple) Zs)))))
    (VZ (ZF ZaO (cb (YA K) T.len (pc (vn 0) Zs)) Zz (ZM _)) (X8 (ZF ZcY (cb (YA K) T.len (pc (vn 0) Zs)) (Zl0 hM) (ZM _))))).pt YZ ZJ)
   (Zu (ZR 1 rfl (cb (YA K) T.len (pc (vn 0) Zs)))
   (Zv (ZC (cb (Zbn rfl) T.all (pc (cmp ["row"] [1] ["row", "count"] rfl (itT K (vn 0)) (fun _ _ _ _ _=>gn 0) (fun _ _ _ _ _=>ZW)
    (fun _ _ _ _ _=>Ve (We GA hr ZK (pc (vn 0) (pc (vn 1) Zs))) (Vd (JN ZcZ (cb (YA K) T.len (pc (vn 0) Zs)) (vn 1) (ZM _))))) Zs))))),?_⟩
  obtain⟨rs,h1,h2,h3⟩:=id G
  have n1:=Pt.n1
  have n60:=Pt.n60
  have rl:(rs.map V.ref).length=t.length:=by rw[Za,h2]
  refine⟨_,rfl,g,_,rfl,.inl h1,_,rfl,YI (by decide) ?_⟩
  refine⟨_,rfl,g,_,rfl,.inr (.of h1),_,_,rfl,rfl,_,rfl,YI (fun z=>by have:=of_decide_eq_true z;omega) ?_⟩
  refine⟨_,rfl,g,_,rfl,.inr (.of h1),_,_,rfl,rfl,_,rfl,YI (fun z=>by have:=of_decide_eq_true z;omega) ?_⟩
  refine⟨_,rfl,g,_,rfl,.inr (.of h1),_,rfl,g,rfl,⟨_,.of h1⟩,?_⟩
  refine Yr (Ym (K:=K) (.of h1)) [some (.int ((rs.map V.ref).length:Nat))] rfl (fun _=>.bl true) (by omega) (fun i y H' hy s R k=>?_) (fun D H' hD s hl'=>?_)
  ·obtain⟨r,rfl,hi,hr'⟩:=GT.row G h1 hy
   have hz:=hr'.mono s
   refine⟨_,rfl,_,rfl,r,t.getD i [],(rs.map V.ref).length,rfl,.inr hz,by rw[Yh Pt hi];omega,fun x hx=>by rw[rl];exact Ze7 Pt hi x hx,fun H5 s5=>⟨_,rfl,Xe rfl ?_⟩⟩
   refine⟨_,rfl,r,_,rfl,.inr (hz.mono s5).sq,_,rfl,rfl,?_⟩
   have e:decide (V.int ((((t.getD i []).map nV).length:Nat):Int)=V.int (((rs.map V.ref).length:Nat):Int))=true:=by
    rw[Zgo,Za,Yh Pt hi,rl]
    exact decide_eq_true rfl
   rw[e]
   exact k H5 s5
  ·refine⟨D,List.replicate (rs.map V.ref).length true,rfl,.of ?_,?_⟩
   ·rw[hl']
    congr 2
    refine List.ext_getElem? fun i=>?_
    rw[Zc,Zc,Zc,List.getElem?_replicate]
    by_cases h:i<rs.length
    ·rw[Zf h,if_pos (by rw[Za];exact h)];rfl
    ·rw[List.getElem?_eq_none (by omega),if_neg (by rw[Za];exact h)];rfl
   ·have e:(List.replicate (rs.map V.ref).length true).all id=true:=by rw[List.all_eq_true];intro x hx;exact (List.mem_replicate.mp hx).2
    rw[e]
    exact q H' s
end
def ZjG (t:List (List Nat))(a:Nat):Bool:=(List.range t.length).any fun b=>decide (ZA t a b=0) && decide (ZA t b a=0)
theorem ZhM {t:List (List Nat)}(P:PW t){a:Nat}(ha:a<t.length):ZjG t a=true:=by
 unfold ZjG
 rw[List.any_eq_true]
 obtain⟨h1,h2⟩:=YN P ha
 exact⟨XA t a,List.mem_range.mpr h1,by rw[h2,Zdu P ha];rfl⟩
theorem ZiG {t:List (List Nat)}(P:PW t){a b:Nat}(ha:a<t.length)(hb:b<t.length):t.getD (ZA t a b) []=WC (t.getD a []) (t.getD b []):=by
 have hm:=P.lt a b ha hb
 have l1:=Yh P hm
 have l2:=Yh P hb
 refine List.ext_getElem? fun c=>?_
 unfold WC
 rw[Zc]
 by_cases hc:c<t.length
 ·have e1:(t.getD (ZA t a b) [])[c]?=some (ZA t (ZA t a b) c):=by
   unfold ZA
   rw[Zf (by have:=l1;unfold ZA at this;omega),Zb (i:=c),Zf (by have:=l1;unfold ZA at this;omega)]
   rfl
  have e2:(t.getD b [])[c]?=some (ZA t b c):=by
   unfold ZA
   rw[Zf (by omega),Zb (i:=c),Zf (by omega)]
   rfl
  rw[e1,e2,P.ass a b c ha hb hc]
  rfl
 ·rw[List.getElem?_eq_none (by omega),List.getElem?_eq_none (by omega)]
  rfl
theorem ZaC (ns:List Int):SeqAt.shaped (.tuple (ns.map PyData.int))=true:=by
 unfold SeqAt.shaped
 have h1:=Jw ns
 have h2:=Xg ns
 simp only[h1,Bool.true_and,Bool.and_true,decide_eq_true_eq]
 omega
section
variable {P:Program}{w:World}{K:PySem.W.Frag}{mg:Str->Option Value}{base:Heap}
theorem ZlT {X:Cx}(K:PySem.W.Frag)(hu:X.A.units+64<cLine)(hK:X.K=K:=by rfl):Jj X (compareOp .NotEq) (fun x y H Q=>∃dx dy,Xm K H x dx/\Xm K H y dy/\SeqAt.shaped dx=true/\SeqAt.shaped dy=true/\Q (.bl (!PyData.eqv dx dy)) H):=hK▸Zfv hu
theorem Zhp {f:Addr}{fd:FuncData}(F:Wf K "has_back" "has_back" Zie f fd)(T:Bl mg):ZQ P w K mg base Z2 1 f fd ["table", "a"] ZcG:=by
 refine F.ok (FS (N:=["table", "a"])) (fun vs H Q E h=>?_) (fun cdv A outer s H vs Q E hr h=>?_)
 ·obtain⟨g,t,a,rfl,_⟩:=h;rfl
 ·obtain⟨g,t,a,rfl,G,S,ha,q⟩:=h
  refine⟨_,Zv (ZC (cb (ZgB rfl) T.any (pc (cmp ["b"] [0,1] ["b", "table", "a"] rfl (JJ T.range (pc (cb (YA K) T.len (pc (vn 0) Zs)) Zs)) (fun _ _ _ _ _=>gn 0) (fun _ _ _ _ _=>ZW)
   (fun _ _ _ _ _=>Ve (JN ZcZ (ZE (Wn K) (ZE (Wn K) (vn 1) (vn 2) (fun _ _=>rfl)) (vn 0) (fun _ _=>rfl)) Zz (ZM _))
    (Vd (JN ZcZ (ZE (Wn K) (ZE (Wn K) (vn 1) (vn 0) (fun _ _=>rfl)) (vn 2) (fun _ _=>rfl)) Zz (ZM _))))) Zs))),?_⟩
  have n60:=S.n60
  obtain⟨gs,u1,u2,_⟩:=id G
  have el:(gs.map V.ref).length=t.length:=by rw[Za,u2]
  refine⟨_,rfl,g,_,rfl,.inr (.of u1),_,rfl,by rw[el];omega,by rw[el];omega,?_⟩
  rw[el,Zj]
  refine Yr (JG 0 t.length) [some (.ref g),some (.int a)] rfl (fun y=>match y with | .int z=>.bl (decide (ZA t a z.toNat=0) && decide (ZA t z.toNat a=0))|y=>y) (by rw[Za,YF];omega) (fun i x H' hx sm R gg=>?_) (fun D H' hD sm hD'=>?_)
  ·obtain⟨hi,rfl⟩:=UE hx
   obtain⟨r1,r2,q1,_,q2,q3,q4⟩:=(G.mono sm).at S ha
   obtain⟨p1,p2,k1,_,k2,k3,k4⟩:=(G.mono sm).at S hi
   have fin:=gg H' (Same.refl _)
   dsimp only at fin
   rw[Zj] at fin
   refine⟨_,rfl,_,rfl,g,_,_,_,rfl,rfl,.of q1,q2,_,rfl,r2,_,_,_,rfl,rfl,q3.sq,q4 i hi,rfl,_,rfl,?_⟩
   rw[show decide (V.int ((ZA t a i:Nat):Int)=V.int 0)=decide (ZA t a i=0) from Zgo _ 0]
   refine JS (fun h1=>?_) (fun h1=>?_)
   ·refine⟨_,rfl,_,rfl,g,_,_,_,rfl,rfl,.of k1,k2,_,rfl,p2,_,_,_,rfl,rfl,k3.sq,k4 a ha,rfl,?_⟩
    rw[h1,Bool.true_and] at fin
    rw[show decide (V.int ((ZA t i a:Nat):Int)=V.int 0)=decide (ZA t i a=0) from Zgo _ 0]
    exact fin
   ·have h1:decide (ZA t a i=0)=false:=by simpa using h1
    rw[h1,Bool.false_and] at fin
    exact fin
  ·refine⟨D,(List.range t.length).map fun b=>decide (ZA t a b=0) && decide (ZA t b a=0),rfl,.of ?_,?_⟩
   ·rw[hD']
    unfold YG
    rw[List.map_map,List.map_map,List.map_map]
    congr 2
    refine List.map_congr_left fun i _=>?_
    show V.bl (decide (ZA t a ((0:Int)+(i:Int)).toNat=0) && decide (ZA t ((0:Int)+(i:Int)).toNat a=0))=V.bl _
    rw[Int.zero_add,Zj]
   ·have e:((List.range t.length).map fun b=>decide (ZA t a b=0) && decide (ZA t b a=0)).any id=true:=by
     rw[<-ZhM S ha]
     unfold ZjG
     rw[List.any_map]
     rfl
    rw[e]
    exact q H' sm
theorem Zjj {f:Addr}{fd:FuncData}(F:Wf K "goes_by_threes" "goes_by_threes" ZcK f fd)(T:Bl mg)(T2:Zao mg):ZQ P w K mg base Z2 1 f fd ["table", "a"] ZcG:=by
 refine F.ok (FS (N:=["table", "a", "row", "b", "row_of_b"])) (fun vs H Q E h=>?_) (fun cdv A outer s H vs Q E hr h=>?_)
 ·obtain⟨g,t,a,rfl,_⟩:=h;rfl
 ·obtain⟨g,t,a,rfl,G,S,ha,q⟩:=h
  refine⟨_,Zu (ZR 2 rfl (ZE (Wn K) (vn 0) (vn 1) (fun _ _=>rfl)))
   (Zu (Z5 PassesOwn.never rfl (Ziz K T2.enumerate (pc (vn 0) Zs)) (g2 K 3 4 rfl (gn 3) (gn 4))
    (Zv (Z3 (ZF (ZlT K hr.units) (ZE (Wn K) (vn 0) (ZE (Wn K) (vn 2) (vn 3) (fun _ _=>rfl)) (fun _ _=>rfl))
     (ct ZI T.tuple (pc (cmp ["x"] [2] ["x", "row"] rfl (itT K (vn 4)) (fun _ _ _ _ _=>gn 0) (fun _ _ _ _ _=>ZW) (fun _ _ _ _ _=>ZE (Wn K) (vn 1) (vn 0) (fun _ _=>rfl))) Zs)) (ZM _)) YZ ZJ)))
   (Zv (ZC Yo))),?_⟩
  have n60:=S.n60
  obtain⟨rs,r,q1,rl,q2,q3,q4⟩:=G.at S ha
  have ral:=Yh S ha
  refine⟨_,rfl,_,rfl,g,_,_,_,rfl,rfl,.of q1,q2,?_⟩
  refine⟨_,rfl,g,rfl,.inr ⟨⟨_,.of q1⟩,?_⟩⟩
  refine Zbb (Zgh (K:=K) (xs:=rs.map V.ref)) (fun i σ' H'=>∃v3 v4:Option V,σ'=[some (.ref g),some (.int a),some (.ref r),v3,v4]/\Same H H')
   ⟨_,_,rfl,Same.refl _⟩ (fun i σ' H' h=>h.choose_spec.choose_spec.2.tup (.of q1)) ?_ ?_
  ·rintro i y σ' H' T' hy ⟨v3,v4,rfl,sm⟩ nT
   obtain⟨rb,rfl,hi,k3⟩:=GT.row G q1 hy
   have hm:=S.lt _ _ ha hi
   obtain⟨rs2,rc,m1,ml,m2,m3,_⟩:=G.at S hm
   have sT:=sm.trans (Same.upd (o:=.tup [.int i,.ref rb]) nT)
   refine⟨T',_,rfl,.of Zt,rfl,_,_,rfl,_,_,rfl,rfl,?_⟩
   generalize upd H' T' (.tup [.int i,.ref rb])=H2 at sT ⊢
   have rbl:=Yh S hi
   refine⟨_,rfl,_,rfl,_,rfl,r,_,_,_,rfl,rfl,(q3.mono sT).sq,q4 i hi,g,_,_,_,rfl,rfl,.of (sT _ _ m1),m2,_,rfl,rb,rfl,⟨_,(k3.mono sT).sq⟩,?_⟩
   refine Yr (Ym (K:=K) (k3.mono sT).sq) [some (.ref r)] rfl (Zgb (t.getD a [])) (by rw[Za,rbl];omega) (fun j x HC hx sC R'' g2=>?_) (fun D HD nD sD hD=>?_)
   ·obtain⟨c,hc,rfl⟩:=Yx hx
    have hck:c<t.length:=Ze7 S hi c (List.mem_of_getElem? hc)
    refine⟨_,rfl,_,rfl,r,_,_,_,rfl,rfl,(q3.mono (sT.trans sC)).sq,Zio (by omega),?_⟩
    have:=g2 HC (Same.refl _)
    have e:Zgb (t.getD a []) (.int (c:Nat))=nV ((t.getD a []).getD c 0):=by
     show nV ((t.getD a []).getD (c:Int).toNat 0)=_
     rw[Zj]
    rw[e] at this
    exact this
   ·rw[Zbd] at hD
    refine⟨D,_,rfl,.inl ⟨.of hD,fun tp ntp=>?_⟩⟩
    have sE:=(sT.trans sD).trans (Same.upd (o:=.tup ((WC (t.getD a []) (t.getD i [])).map nV)) ntp)
    have hE:upd HD tp (.tup ((WC (t.getD a []) (t.getD i [])).map nV)) tp=some (.tup ((WC (t.getD a []) (t.getD i [])).map nV)):=Zt
    generalize upd HD tp (.tup ((WC (t.getD a []) (t.getD i [])).map nV))=HE at sE hE ⊢
    refine⟨.tuple ((nI (t.getD (ZA t a i) [])).map PyData.int),.tuple ((nI (WC (t.getD a []) (t.getD i []))).map PyData.int),.tup (by rw[Zb4];exact (m3.mono sE).sq) (YX.ints _),.tup (.of (by rw[Zb4];exact hE)) (YX.ints _),ZaC _,ZaC _,_,rfl,?_⟩
    rw[Zdi,ZiG S ha hi]
    exact YI (by simp) ⟨_,_,rfl,sE⟩
  ·rintro σ' H' ⟨v3,v4,rfl,sm⟩
   exact q H' sm
theorem Zjn {f:Addr}{fd:FuncData}(F:Wf K "ask_group" "ask_group" Zkz f fd)(B:Bl mg)
  (GS:Fn P w K mg base Z2 3 "has_shape" ["thing"] Uu) (GH:Fn P w K mg base Z2 1 "has_back" ["table", "a"] ZcG) (GT':Fn P w K mg base Z2 1 "goes_by_threes" ["table", "a"] ZcG) :
  ZQ P w K mg base Z2 4 f fd ["thing"] Uu:=by
 refine F.ok (FS (N:=["thing", "a"])) (fun vs H Q E h=>?_) (fun cdv A outer s H vs Q E hr h=>?_)
 ·obtain⟨g,t,rfl,_⟩:=h;rfl
 ·obtain⟨g,t,rfl,G,S,q⟩:=h
  refine⟨_,Zu (Z3 (Ww (YJ (We GS hr ZK (pc (vn 0) Zs)))) YZ ZJ)
   (Zu (Z5 PassesOwn.never rfl (JJ B.range (pc (cb (YA K) B.len (pc (vn 0) Zs)) Zs)) (gn 1)
    (Zv (Z3 (VZ (ZF ZcX (ZE (Wn K) (ZE (Wn K) (vn 0) Zz (fun _ _=>rfl)) (vn 1) (fun _ _=>rfl)) (vn 1) (ZM _))
     (X8 (ZF ZcX (ZE (Wn K) (ZE (Wn K) (vn 0) (vn 1) (fun _ _=>rfl)) Zz (fun _ _=>rfl)) (vn 1) (ZM _)))).pt YZ ZJ)))
   (Zu (Z5 PassesOwn.never rfl (JJ B.range (pc (cb (YA K) B.len (pc (vn 0) Zs)) Zs)) (gn 1)
    (Zv (Z3 (Ww (YJ (We GH hr ZK (pc (vn 0) (pc (vn 1) Zs))))) YZ ZJ)))
   (Zu (Z5 PassesOwn.never rfl (JJ B.range (pc (cb (YA K) B.len (pc (vn 0) Zs)) Zs)) (gn 1)
    (Zv (Z3 (Ww (YJ (We GT' hr ZK (pc (vn 0) (pc (vn 1) Zs))))) YZ ZJ)))
   (Zv (ZC Yo))))),?_⟩
  have n1:=S.n1
  have n60:=S.n60
  refine⟨_,rfl,g,t,rfl,G,S,fun H1 s1=>⟨_,rfl,YI (by decide) ?_⟩⟩
  obtain⟨gs,u1,u2,_⟩:=id (G.mono s1)
  have el:(gs.map V.ref).length=t.length:=by rw[Za,u2]
  refine⟨_,rfl,g,_,rfl,.inr (.of u1),_,rfl,by rw[el];omega,by rw[el];omega,?_⟩
  rw[el,Zj]
  refine Yb (fun i σ' H'=>∃v1:Option V,σ'=[some (.ref g),v1]/\Same H1 H') ⟨_,rfl,Same.refl _⟩ ?_ ?_
  ·rintro i σ' H' hi ⟨v1,rfl,sm⟩
   rw[show (0:Int)+(i:Int)=(i:Int) by omega]
   have Gm:=G.mono (s1.trans sm)
   obtain⟨r1,r2,q1,_,q2,q3,q4⟩:=Gm.at S n1
   obtain⟨p1,p2,k1,_,k2,k3,k4⟩:=Gm.at S hi
   refine⟨_,rfl,g,_,_,_,rfl,rfl,.of q1,q2,_,rfl,r2,_,_,_,rfl,rfl,q3.sq,q4 i hi,_,rfl,rfl,_,rfl,YI ?_ ?_⟩
   ·rw[Zgo,S.one i hi];simp
   refine⟨_,rfl,_,rfl,g,_,_,_,rfl,rfl,.of k1,k2,p2,_,_,_,rfl,rfl,k3.sq,k4 0 n1,_,rfl,rfl,_,rfl,YI ?_ ⟨_,rfl,sm⟩⟩
   rw[Zgo,S.oneR i hi];simp
  rintro σ' H3 ⟨v1,rfl,s3⟩
  refine⟨_,rfl,g,_,rfl,.inr (.of (s3 _ _ u1)),_,rfl,by rw[el];omega,by rw[el];omega,?_⟩
  rw[el,Zj]
  refine Yb (fun i σ' H'=>∃v1:Option V,σ'=[some (.ref g),v1]/\Same H1 H') ⟨_,rfl,s3⟩ ?_ ?_
  ·rintro i σ' H' hi ⟨v1,rfl,sm⟩
   rw[show (0:Int)+(i:Int)=(i:Int) by omega]
   exact⟨_,rfl,_,rfl,g,t,i,rfl,G.mono (s1.trans sm),S,hi,fun H5 s5=>⟨_,rfl,YI (by decide) ⟨_,rfl,sm.trans s5⟩⟩⟩
  rintro σ' H4 ⟨v1,rfl,s4⟩
  refine⟨_,rfl,g,_,rfl,.inr (.of (s4 _ _ u1)),_,rfl,by rw[el];omega,by rw[el];omega,?_⟩
  rw[el,Zj]
  refine Yb (fun i σ' H'=>∃v1:Option V,σ'=[some (.ref g),v1]/\Same H1 H') ⟨_,rfl,s4⟩ ?_ ?_
  ·rintro i σ' H' hi ⟨v1,rfl,sm⟩
   rw[show (0:Int)+(i:Int)=(i:Int) by omega]
   exact⟨_,rfl,_,rfl,g,t,i,rfl,G.mono (s1.trans sm),S,hi,fun H5 s5=>⟨_,rfl,YI (by decide) ⟨_,rfl,sm.trans s5⟩⟩⟩
  rintro σ' H5 ⟨v1,rfl,s5⟩
  exact q H5 (s1.trans s5)
end
end C23
namespace PyX
open PySem
def VC (h:Heap)(C N:Addr)(bm:List Value)(nid:String):Prop:=
 ∃nm q bs hd sn sb ab cl dd k0 k1 k2 k3 k5,
  h.get? C=some (excClassObj nm q C N bs bm hd sn sb ab cl dd k0 k1 k2 k3 k5 nid)
theorem VC.keeps {h h':Heap}{C N:Addr}{bm:List Value}{nid:String}(x:VC h C N bm nid)
  (k:∀b o,h.get? b=some o->h'.get? b=some o):VC h' C N bm nid:=by
 obtain⟨nm,q,bs,hd,sn,sb,ab,cl,dd,k0,k1,k2,k3,k5,e⟩:=x
 exact⟨nm,q,bs,hd,sn,sb,ab,cl,dd,k0,k1,k2,k3,k5,k _ _ e⟩
abbrev Zgd (xs:List Value):Obj:={cls:=.type "tuple",data:=.seq xs.toArray}
abbrev Zgc (C a:Addr):Obj:=
 {cls:=.ref C,data:=.fields #[.ref a,.none,.none,.none,.bool false,.none]}
section
variable {prog:Program}{w:World}{A:Around}{E:Value->Shared->Prop}
variable {h:Heap}{gs:Array GenState}{dr:Drawn}{tk:Nat}{os:OsState}
variable {C N fI:Addr}{oI:Obj}{bm bB:List Value}{B nid iid:String}{mN:Str->Option Value}{xs:List Value}
theorem XB {Q:Fin->Shared->Prop}(F:ExcBaseFacts B nid iid bB)(T:OwnTail h bB bm)
    (x:VC h C N bm nid) (ns:h.Ns N mN) (hi:mN "__init__"=none)
    (hq:∀h' e,Heap.MadeExcOf h h' e (.ref C) xs->h.objs.size<=e->Q (.done (.ret (.ref e))) ⟨h',gs,dr,tk,os⟩)
    (hl:xs.length<=sizeLine) :
    wpAny (model prog w) A (Builtin.«type.__call__» ⟨.ref C::xs,[]⟩) Q E ⟨h,gs,dr,tk,os⟩:=by
  obtain⟨nm,q,bs,hd,sn,sb,ab,cl,dd,k0,k1,k2,k3,k5,hC⟩:=x
  repeat (first
    |with_reducible refine wpAny_loadPart_at hC ?_
    |with_reducible refine wpAny_madeBy_exc hC ?_
    |wp_step)
  refine codeAny_call_builtin_code (Code.quiet_builtin _ F.quiet)
    (wpAny_check_new_subT F T hC (codeAny_exc_new_subT F T hC ?_ hl))
  show wpAny _ _ _ _ _ _
  have kp:∀b o,h.get? b=some o->((h.push (Zgd xs)).push (Zgc C h.objs.size)).get? b=some o:=
    fun b o e=>Zn _ (Zn _ e)
  have hC1:=kp _ _ hC
  have ns1:=ns.keeps kp
  have T1:=T.keeps kp
  have he:((h.push (Zgd xs)).push (Zgc C h.objs.size)).get? (h.objs.size+1)=some (Zgc C h.objs.size):=by
    heap_get
  have hself:(Value.ref C::bm).contains (.ref C)=true:=by
    simp
  unfold isInstance
  repeat (first
    |with_reducible refine wpAny_loadPart_at he ?_
    | (with_reducible refine wpAny_isSubtype_exc hC1 ?_
       rw[hself])
    |wp_step)
  show wpAny _ _ (typeLookup (.ref C) _) _ _ _
  refine wpAny_typeLookup_tail hC1 ns1 T1 F.mroIs F.init.lookup ?_
  rw[hi]
  refine wpAny_holding (Zl (wpAny_of_eq (F.init.bind _) ?_))
  refine Zl (wpAny_call (codeAny_call_builtin F.init.plain F.initEntry (wpAny_check_init_subT F T1 hC1 he rfl ?_)))
  wp_walk
  refine hq _ _ ⟨fun b o hb=>?_,Heap.get?_none_of_le (Nat.le_succ _),h.objs.size+2,?_,Heap.get?_none_of_le (by omega),?_⟩ (Nat.le_succ _)
  · rw[Heap.get?_update_other _ _ (Nat.ne_of_gt (Nat.lt_succ_of_lt (Zp hb)))]
    exact Zn _ (kp b o hb)
  · rw[Heap.get?_update_self _ (Zn _ he) rfl]
    simp only[Heap.size_push]
    rfl
  · rw[Heap.get?_update_other _ _ (show h.objs.size+1≠h.objs.size+2 by
      omega)]
    exact Heap.get?_push_at (by
      simp only[Heap.size_push]) rfl
theorem Zbm {Q:Value->Shared->Prop}(F:ExcBaseFacts B nid iid bB)(T:OwnTail h bB bm)
  (x:VC h C N bm nid) (ns:h.Ns N mN) (hi:mN "__init__"=none)
  (hq:∀h' e,Heap.MadeExcOf h h' e (.ref C) xs->h.objs.size<=e->Q (.ref e) ⟨h',gs,dr,tk,os⟩)
  (hl:xs.length<=sizeLine) :
  wpAny (model prog w) A (call (.ref C) xs) Q E ⟨h,gs,dr,tk,os⟩:=by
 obtain⟨nm,q,bs,hd,sn,sb,ab,cl,dd,k0,k1,k2,k3,k5,hC⟩:=x
 have f1:=tc_lookup
 have f2:=tc_bind (.ref C)
 have hT:(⟨h,gs,dr,tk,os⟩:Shared).TypeIs (.ref C) "type":=⟨_,hC,rfl⟩
 refine wpAny_call (codeAny_of_tree ?_)
 show wpAny _ _ (callAny (.ref C) _) _ _ _
 repeat (any_goals (first
  |assumption
  |with_reducible refine wpAny_loadPart_at hC ?_
  |wp_step))
 refine⟨rfl,?_⟩
 refine codeAny_call_builtin_at (Code.quiet_builtin _ (by decide +kernel)) entry_typeCall
  (wpAny_check_type_call_sub hC (XB F T ⟨nm,q,bs,hd,sn,sb,ab,cl,dd,k0,k1,k2,k3,k5,hC⟩
   ns hi (fun h' e hm hz=>?_) hl))
 exact hq h' e hm hz
theorem ZaY {e D:Addr}{oe:Obj}{b:Bool}{Q:Bool->Shared->Prop}{ND:Addr}{bD:List Value}{M:Model}
    (x:VC h C N bm nid) (y:VC h D ND bD nid) (he:h.get? e=some oe) (hcl:oe.cls=.ref C)
    (hbD:bD.contains (.type "BaseException")=true) (hb:(Value.ref C::bm).contains (.ref D)=b)
    (hq:Q b ⟨h,gs,dr,tk,os⟩) :
    wpAny M A (excMatches (.ref e) (.ref D)) Q E ⟨h,gs,dr,tk,os⟩:=by
  obtain⟨nm,q,bs,hd,sn,sb,ab,cl,dd,k0,k1,k2,k3,k5,hC⟩:=x
  obtain⟨nm1,q1,bs1,hd1,sn1,sb1,ab1,cl1,dd1,j0,j1,j2,j3,j5,hD⟩:=y
  have hDB:(Value.ref D::bD).contains (.type "BaseException")=true:=by
    rw[List.contains_cons,hbD,Bool.or_true]
  have f:=tc_notTuple
  unfold excMatches
  repeat (first
    | (with_reducible refine wpAny_loadPart_at he ?_
       rw[hcl])
    |with_reducible refine wpAny_loadPart_at hD ?_
    | (with_reducible refine wpAny_isSubtype_exc hD ?_
       rw[hDB])
    | (with_reducible refine wpAny_isSubtype_exc hC ?_
       rw[hb])
    |wp_step)
  cases b <;> (first|exact hq|(wp_walk;exact hq))
end
end PyX
namespace PyX
open PySem
open PySem.Builtin PySem.Builtin.ObjectAttr
abbrev VE:List Value:=[.type "ValueError",.type "Exception",.type "BaseException",.type "object"]
abbrev Jk:String:="ValueError.__new__"
def Zbq (h:Heap)(C N:Addr)(bm:List Value)(nid:String):Prop:=
 ∃nm q bs sn sb ab cl dd k0 k1 k2 k3 k5,
  h.get? C=some (excClassObj nm q C N bs bm true sn sb ab cl dd k0 k1 k2 k3 k5 nid)
theorem Zbq.ex {h:Heap}{C N:Addr}{bm:List Value}{nid:String}(x:Zbq h C N bm nid):VC h C N bm nid:=by
 obtain⟨nm,q,bs,sn,sb,ab,cl,dd,k0,k1,k2,k3,k5,e⟩:=x
 exact⟨nm,q,bs,true,sn,sb,ab,cl,dd,k0,k1,k2,k3,k5,e⟩
theorem Zbq.keeps {h h':Heap}{C N:Addr}{bm:List Value}{nid:String}(x:Zbq h C N bm nid)
  (k:∀b o,h.get? b=some o->h'.get? b=some o):Zbq h' C N bm nid:=by
 obtain⟨nm,q,bs,sn,sb,ab,cl,dd,k0,k1,k2,k3,k5,e⟩:=x
 exact⟨nm,q,bs,sn,sb,ab,cl,dd,k0,k1,k2,k3,k5,k _ _ e⟩
structure Uq (h:Heap)(C N T U:Addr)(nid:String)(mN mT:Str->Option Value):Prop where
 c:Zbq h C N (.ref T::VE) nid
 t:Zbq h T U VE nid
 nsC:h.Ns N mN
 nsT:h.Ns U mT
 ini:mT "__init__"=none
section
variable {h h':Heap}{C N T U:Addr}{nid:String}{mN mT:Str->Option Value}
theorem Uq.keeps (x:Uq h C N T U nid mN mT)(k:∀b o,h.get? b=some o->h'.get? b=some o):Uq h' C N T U nid mN mT:=
 ⟨x.c.keeps k,x.t.keeps k,x.nsC.keeps k,x.nsT.keeps k,x.ini⟩
theorem Uq.tail (x:Uq h C N T U nid mN mT):OwnTail h VE (.ref T::VE):=by
 obtain⟨nm,q,bs,sn,sb,ab,cl,dd,k0,k1,k2,k3,k5,e⟩:=x.t
 exact .own e x.nsT x.ini .base
variable {M:Model}{A:Around}{E:Value->Shared->Prop}{gs:Array GenState}{dr:Drawn}{tk:Nat}{os:OsState}
theorem Uq.look (x:Uq h C N T U nid mN mT){name:Str}{y:Option Value}{Q:Option Value->Shared->Prop}
  (hB:typeLookup (.type "ValueError") name=pure y)
  (hq:Q (match mN name with|some v=>some v|none=>(match mT name with|some v=>some v|none=>y)) ⟨h,gs,dr,tk,os⟩) :
  wpAny M A (typeLookup (.ref C) name) Q E ⟨h,gs,dr,tk,os⟩:=by
 obtain⟨nm,q,bs,sn,sb,ab,cl,dd,k0,k1,k2,k3,k5,eC⟩:=x.c
 obtain⟨nm',q',bs',sn',sb',ab',cl',dd',j0,j1,j2,j3,j5,eT⟩:=x.t
 have r:lookupAlong VE name=pure y:=by
  rw[typeLookup_eq,F.excBase_ValueError.mroIs] at hB
  exact hB
 rw[typeLookup_eq]
 refine Zl (wpAny_mroOf_exc eC ?_)
 rw[lookupAlong_cons]
 refine Zl (wpAny_classOwn_exc eC x.nsC ?_)
 cases hv:mN name with
 |some v=>
  rw[hv] at hq
  exact Zm hq
 |none=>
  rw[hv] at hq
  simp only[]
  rw[lookupAlong_cons]
  refine Zl (wpAny_classOwn_exc eT x.nsT ?_)
  cases hv':mT name with
  |some v=>
   rw[hv'] at hq
   exact Zm hq
  |none=>
   rw[hv'] at hq
   simp only[]
   rw[r]
   exact Zm hq
theorem Uq.lookB (x:Uq h C N T U nid mN mT){name:Str}{y:Option Value}{Q:Option Value->Shared->Prop}
  (hB:typeLookup (.type "ValueError") name=pure y) (h1:mN name=none) (h2:mT name=none)
  (hq:Q y ⟨h,gs,dr,tk,os⟩):wpAny M A (typeLookup (.ref C) name) Q E ⟨h,gs,dr,tk,os⟩:=
 x.look hB (by
  rw[h1]
  simp only[]
  rw[h2]
  exact hq)
end
section
variable {prog:Program}{w:World}{h:Heap}{C N T U x:Addr}{nid:String}{mN mT mA:Str->Option Value}
variable {A:Around}{E:Value->Shared->Prop}{gs:Array GenState}{dr:Drawn}{tk:Nat}{os:OsState}
variable {name:Str}{v:Value}
abbrev SF:=F.store_ValueError
theorem ZhT {M:Model}{o:Obj}{nv:Value}{Q:Unit->Shared->Prop}(c:Uq h C N T U nid mN mT)
    (hx:h.get? x=some o) (hc:o.cls=.ref C) (hq:Q () ⟨h,gs,dr,tk,os⟩) :
    wpAny M A (checkBuiltinCall "BaseException.__getattribute__" ⟨[.ref x,nv],[]⟩) Q E ⟨h,gs,dr,tk,os⟩:=by
  obtain⟨nm,q,bs,sn,sb,ab,cl,dd,k0,k1,k2,k3,k5,hC⟩:=c.c
  have hk:builtinKind "BaseException.__getattribute__"=some .slot:=by
    decide +kernel
  have hs:splitId "BaseException.__getattribute__"=some ("BaseException", "__getattribute__"):=by
    decide +kernel
  have hO:(Value.ref C::Value.ref T::VE).contains (.type "BaseException")=true:=by
    rw[List.contains_cons,List.contains_cons,F.excBase_ValueError.hasBase,Bool.or_true,Bool.or_true]
  have ha:=F.args_bexc_ga (.ref x) nv
  simp only[checkBuiltinCall,hk,hs]
  refine Zl ?_
  unfold isInstance
  repeat (first
    | (with_reducible refine wpAny_loadPart_at hx ?_
       rw[hc])
    | (with_reducible refine wpAny_isSubtype_exc hC ?_
       rw[hO])
    |wp_step)
  exact hq
end
end PyX
namespace PyX
open PySem
abbrev frs (l:List Env):List Addr:=l.filterMap (·.frame)
def Ex (h:Heap)(e C:Addr)(d:Option Addr)(T:Addr)(fl:Value):Prop:=
 ∃vs oT ts,h.get? e=some {cls:=.ref C,dict:=d,data:=.fields vs}/\vs[1]?=some (.ref T)/\
  T≠e/\h.get? T=some oT/\oT.data=.fields ts/\ts[3]?=some fl
def Ex0 (h:Heap)(e C:Addr)(d:Option Addr):Prop:=
 ∃vs,h.get? e=some {cls:=.ref C,dict:=d,data:=.fields vs}/\vs[1]?=some .none
def But (l:List Env)(xs:List Addr)(h h':Heap):Prop:=
 (∀b o,h.get? b=some o->b∉frs l->b∉xs->h'.get? b=some o)/\
 (∀b o,h.get? b=some o->b∉xs->∃sl,h'.get? b=some {o with slots:=sl})
section
variable {M:Model}{A:Around}{E:Value->Shared->Prop}{s:Shared}
variable {base:Heap}{env:Env}{outer:List Env}{L e C T:Addr}{d:Option Addr}{fl:Value}{vs:Array Value}
theorem newEntry {head:Value}{nx:Bool}{Q:Unit->Shared->Prop}
  (fr:A.frames=some (env::outer)) (hl:s.heap.FunFrames base (env::outer)) (hf:env.frame=some L)
  (he:s.heap.get? e=some {cls:=.ref C,dict:=d,data:=.fields vs}) (sz:1<vs.size)
  (hq:∀h' T,s.heap.objs.size<=T->Ex h' e C d T (rawInt L)->But (env::outer) [e] s.heap h'->Q () {s with heap:=h'}) :
  wpAny M A (do let a <-frameOf env;let pl <-entryPlaceOf L nx;let b <-EntryCells.newEntry head a .none (rawInt L) .none pl;setField (.ref e) 1 b)
   Q E s:=by
 have hne:e∉(env::outer).filterMap (·.frame):=fun hm=>by
  obtain⟨_,o,ho,hnf⟩:=hl.mem hm
  rw[he] at ho
  injection ho with ho
  subst ho
  exact hnf vs rfl
 refine Zl (wpAny_frameOf_fun fr hl hf fun h1 k1=>?_)
 refine Zl (wpAny_entryPlaceOf fun pl hpl=>?_)
 unfold EntryCells.newEntry newFields
 refine Zl (wpAny_newObj_type ?_ (hpl.sizeOk5 _ _ _ _ _))
 have e1:h1.get? e=some {cls:=.ref C,dict:=d,data:=.fields vs}:=(k1.2.1 e hne).trans he
 generalize hO:({cls:=.type "traceback",dict:=none,data:=.fields ([head,.ref L,.none,rawInt L,.none]++(if pl.isEmpty then List.replicate 6 Value.none else pl)).toArray}:Obj)=oT
 have e2:=Zn (h:=h1) oT e1
 have hfr:oT.isFreed=false:=by
  rw[<-hO]
  rfl
 refine wpAny_setField e2 rfl sz (hq _ h1.objs.size ?_ ?_ ?_)
 ·rw[k1.1]
  exact Zq _
 ·have hTe:h1.objs.size≠e:=Nat.ne_of_gt (Zp e1)
  have e3:=Heap.get?_update_self (Obj.mapFields (·.setIfInBounds 1 (Value.ref h1.objs.size))) e2 rfl
  have t3:=(Heap.get?_update_other (h1.push oT) (Obj.mapFields (·.setIfInBounds 1 (Value.ref h1.objs.size))) (Ne.symm hTe)).trans (Zo h1 hfr)
  refine⟨vs.setIfInBounds 1 (.ref h1.objs.size),oT,_,e3,by simp[sz],hTe,t3,(by rw[<-hO]),?_⟩
  simp
 ·refine⟨fun b o q n m=>?_,fun b o q m=>?_⟩
  ·have hbe:b≠e:=fun z=>m (by simp[z])
   rw[Heap.get?_update_other _ _ (Ne.symm hbe)]
   exact Zn _ ((k1.2.1 b n).trans q)
  ·have hbe:b≠e:=fun z=>m (by simp[z])
   obtain⟨sl,q'⟩:=k1.2.2 b o q
   refine⟨sl,?_⟩
   rw[Heap.get?_update_other _ _ (Ne.symm hbe)]
   exact Zn _ q'
theorem Zb0 {Q:Unit->Shared->Prop}
  (fr:A.frames=some (env::outer)) (hl:s.heap.FunFrames base (env::outer)) (hf:env.frame=some L) (x:Ex0 s.heap e C d)
  (hq:∀h' T,s.heap.objs.size<=T->Ex h' e C d T (rawInt L)->But (env::outer) [e] s.heap h'->Q () {s with heap:=h'}) :
  wpAny M A (noteFrame (.ref e) env) Q E s:=by
 obtain⟨vs,he,h1⟩:=x
 unfold noteFrame
 simp only[hf]
 refine Zl (wpAny_field he rfl h1 ?_)
 rw[if_neg (by decide)]
 exact newEntry fr hl hf he (Array.getElem?_eq_some_iff.mp h1).1 hq
theorem ZdZ {Q:Unit->Shared->Prop}
  (fr:A.frames=some (env::outer)) (hl:s.heap.FunFrames base (env::outer)) (hf:env.frame=some L) (x:Ex s.heap e C d T .none)
  (hq:∀h' T',s.heap.objs.size<=T'->Ex h' e C d T' (rawInt L)->But (env::outer) [e,T] s.heap h'->Q () {s with heap:=h'}) :
  wpAny M A (noteFrame (.ref e) env) Q E s:=by
 obtain⟨vs,oT,ts,he,h1,hTe,hT,hdT,h3⟩:=x
 unfold noteFrame
 simp only[hf]
 refine Zl (wpAny_field he rfl h1 ?_)
 rw[if_pos (show (Value.ref T != Value.none)=true from by simp)]
 refine Zl (wpAny_field hT hdT h3 ?_)
 rw[if_neg (show ¬((Value.none == rawInt L)=true) from by simp[rawInt])]
 refine Zl (wpAny_setField hT hdT (Array.getElem?_eq_some_iff.mp h3).1 ?_)
 have other:∀b,b≠T->(s.heap.update T (Obj.mapFields (·.setIfInBounds 3 Value.none))).get? b=s.heap.get? b:=
  fun b hb=>Heap.get?_update_other _ _ (Ne.symm hb)
 have noR:∀b o,s.heap.get? b=some o->(∀ws,o.data≠.fields ws)->b≠T:=fun b o hb hnf z=>by
  rw[z,hT] at hb
  injection hb with hb
  subst hb
  exact hnf ts hdT
 refine newEntry fr (hl.of_keeps fun b o hb hnf=>⟨o,(other b (noR b o hb hnf)).trans hb,rfl⟩) hf
  ((other e (Ne.symm hTe)).trans he) (Array.getElem?_eq_some_iff.mp h1).1 fun h' T' n x k=>hq h' T' ?_ x ?_
 ·have n':(s.heap.update T (Obj.mapFields (·.setIfInBounds 3 Value.none))).objs.size<=T':=n
  rw[Heap.size_after_update] at n'
  exact n'
 ·refine⟨fun b o q nf m=>?_,fun b o q m=>?_⟩
  ·have b1:b≠T:=fun z=>m (by simp[z])
   exact k.1 b o ((other b b1).trans q) nf fun z=>m (by simp at z;simp[z])
  ·have b1:b≠T:=fun z=>m (by simp[z])
   exact k.2 b o ((other b b1).trans q) fun z=>m (by simp at z;simp[z])
theorem WU {Q:Unit->Shared->Prop}(x:Ex s.heap e C d T fl)
  (hq:∀h',Ex h' e C d T .none->But [] [T] s.heap h'->Q () {s with heap:=h'}) :
  wpAny M A (setFlight (.ref e) none) Q E s:=by
 obtain⟨vs,oT,ts,he,h1,hTe,hT,hdT,h3⟩:=x
 have sz:3<ts.size:=(Array.getElem?_eq_some_iff.mp h3).1
 refine wpAny_setFlight_none he rfl h1 hT hdT sz (hq _ ?_ ?_)
 ·exact⟨vs,_,_,(Heap.get?_update_other _ _ hTe).trans he,h1,hTe,
   Heap.get?_update_self _ hT (Obj.isFreed_of_fields (Obj.data_mapFields hdT _)),Obj.data_mapFields hdT _,by simp[sz]⟩
 ·refine⟨fun b o q _ m=>?_,fun b o q m=>⟨o.slots,?_⟩⟩
  ·rw[Heap.get?_update_other _ _ (fun z=>m (by simp[z]))]
   exact q
  ·rw[Heap.get?_update_other _ _ (fun z=>m (by simp[z]))]
   exact q
theorem But.nil {l:List Env}{xs:List Addr}{h h':Heap}(a:But [] xs h h'):But l xs h h':=
 ⟨fun b o q _ m=>a.1 b o q (by simp) m,a.2⟩
theorem Za0 {Q:Unit->Shared->Prop}
  (fr:A.frames=some (env::outer)) (hl:s.heap.FunFrames base (env::outer)) (hf:env.frame=some L) (x:Ex0 s.heap e C d)
  (hq:∀h' T,s.heap.objs.size<=T->Ex h' e C d T .none->But (env::outer) [e] s.heap h'->Q () {s with heap:=h'}) :
  wpAny M A (leaving env (.ref e)) Q E s:=by
 unfold leaving
 refine Zl (Zb0 fr hl hf x fun h1 T n x1 k1=>?_)
 refine WU x1 fun h2 x2 k2=>?_
 refine hq h2 T n x2 ⟨fun b o q nf m=>?_,fun b o q m=>?_⟩
 ·have hb:b≠T:=Nat.ne_of_lt (Nat.lt_of_lt_of_le (Zp q) n)
  exact k2.1 b o (k1.1 b o q nf m) (by simp) (by simp[hb])
 ·have hb:b≠T:=Nat.ne_of_lt (Nat.lt_of_lt_of_le (Zp q) n)
  obtain⟨sl,q1⟩:=k1.2 b o q m
  exact⟨sl,k2.1 b _ q1 (by simp) (by simp[hb])⟩
end
end PyX
namespace L2
open PySem PySem.Spec PyProof.Rows
def CXE (P:Program)(w:World):XO:=fun outer H s E e s'=>
 ∃a C d T H',e=.ref a/\s'.os=s.os/\AllBare s'.gens/\Un (frs outer) [] H H' s.heap s'.heap/\W8 P w H' s'.heap/\
  PyX.Ex s'.heap a C d T .none/\s.heap.objs.size<=a/\s.heap.objs.size<=T/\H' a=none/\H' T=none/\E (.ref C) d H'
section
variable {X:Cx}{pins:List (Addr×Obj)}{σ:St}{H:Hp}{s:Shared}
def WE (X:Cx)(pins:List (Addr×Obj))(H:Hp)(b:Addr):Prop:=
 X.s₀.heap.objs.size<=b/\H b=none/\b≠X.env.locals/\(∀x c,X.env.cells.lookup x=some c->c≠b)/\∀p∈X.pn++pins,p.1≠b
theorem Inv.loose (I:Inv X pins σ H s){b:Addr}(h:s.heap.objs.size<=b)(n:H b=none):WE X pins H b:=by
 refine⟨Nat.le_trans I.sz h,n,?_,fun x c e z=>?_,fun p hp z=>?_⟩
 ·exact Nat.ne_of_gt (Nat.lt_of_lt_of_le I.lt h)
 ·obtain⟨v,o,ho,hd⟩:=I.cell x c e
  exact absurd (Nat.lt_of_lt_of_le (Zp ho) h) (by rw[z];exact Nat.lt_irrefl _)
 ·exact absurd (Nat.lt_of_lt_of_le (Zp (I.pin p hp).1) h) (by rw[z];exact Nat.lt_irrefl _)
theorem Inv.but {xs:List Addr}{h':Heap}{t':Nat}(I:Inv X pins σ H s)(k:PyX.But X.stack xs s.heap h')(hx:∀b∈xs,WE X pins H b) :
  Inv X pins σ H {s with heap:=h',toks:=t'}:=by
 refine I.call (ch:=xs) (g':=s.gens) (d':=s.drawn) ⟨fun b o e _ nf nx=>k.1 b o e nf nx,fun b o e _ _ nx=>k.2 b o e nx,fun _ _ _ n _=>n,fun b o e nx=>?_,fun _ _ q=>q,fun _ _ _ q=>q,
  fun _ ps q=>⟨#[],by rw[q];simp⟩⟩ (fun a o e=>?_) I.bare fun b hb=>?_
 ·obtain⟨sl,q⟩:=k.2 b o e nx
  exact⟨_,q⟩
 ·have keep:∀b u,(∃o,H b=some o)->s.heap.get? b=some u->h'.get? b=some u:=fun b u ⟨o',n⟩ q=>by
   refine k.1 b u q (fun hf=>?_) fun hb=>?_
   ·rw[I.stkFree b hf] at n
    cases n
   ·rw[(hx b hb).2.1] at n
    cases n
  refine (I.hok a o e).stay (fun b u hb q=>keep b u ?_ q) (fun c r=>r) fun c ys r=>r
  rcases hb with rfl|hb
  ·exact⟨o,e⟩
  ·exact⟨_,hb⟩
 ·obtain⟨h1,h2,h3,h4,h5⟩:=hx b hb
  exact⟨.inr h1,h3,h4,h5⟩
theorem Inv.afterX {E:XK}{e:Value}{s':Shared}(I:Inv X pins σ H s)(h:CXE X.prog X.w X.stack H s E e s') :
  ∃a C d T H',e=.ref a/\Inv X pins σ H' s'/\PyX.Ex s'.heap a C d T .none/\WE X pins H' a/\WE X pins H' T/\E (.ref C) d H':=by
 obtain⟨a,C,d,T,H',rfl,ho,hg,u,hok,x,ha,hT,na,nT,q⟩:=h
 have J:Inv X pins σ H' s':=I.call' ho u hok hg fun b hb=>absurd hb (by simp)
 have lo:∀b,s.heap.objs.size<=b->H' b=none->WE X pins H' b:=fun b hb n=>by
  obtain⟨h1,_,h3,h4,h5⟩:=I.loose hb (I.hok.fresh hb)
  exact⟨h1,n,h3,h4,h5⟩
 exact⟨a,C,d,T,H',rfl,J,x,lo a ha na,lo T hT nT,q⟩
end
def ZgH (X:Cx)(E:XK):Prop:=∀(pins:List (Addr×Obj)) (σ:St) (H:Hp) (s:Shared) (a C:Addr) (d:Option Addr),
 Inv X pins σ H s->PyX.Ex0 s.heap a C d->WE X pins H a->E (.ref C) d H->X.xe (.ref a) s
section
variable {P:Program}{w:World}{K:PySem.W.Frag}{mg:Str->Option Value}{base:Heap}{N:List Str}{qual:Str}{scope:Scope}{f:Addr}{cd:Value}
variable {A:Around}{outer:List Env}{s:Shared}{H:Hp}{E:XK}
theorem Zkh {X:Cx}{pins:List (Addr×Obj)}{σ:St}{H':Hp}{s':Shared}(I:Inv X pins σ H' s')(hx:X.ex=[]):Un X.fs [] X.H₀ H' X.s₀.heap s'.heap:=by
 have:=I.base
 rw[hx] at this
 exact this
theorem ZbA:ZgH (Zac (CXE P w) P w K mg base N qual scope f cd A outer s H E) E:=by
 intro pins σ H1 s1 a C d I x lo q
 show wpAny _ _ _ _ _ _
 refine PyX.Za0 (base:=base) I.ok.frames I.stack rfl x fun h' T nT x' k=>?_
 have lT:WE (Zac (CXE P w) P w K mg base N qual scope f cd A outer s H E) pins H1 T:=I.loose nT (I.hok.fresh nT)
 have J:=I.but (t':=s1.toks) k fun b hb=>by
  obtain rfl:b=a:=by simpa using hb
  exact lo
 exact⟨a,C,d,T,H1,rfl,J.os,J.bare,Zkh J rfl,J.hok,x',lo.1,lT.1,lo.2.1,lT.2.1,q⟩
end
def exO (a C:Addr)(d:Option Addr):HO:=.ext fun h=>∃vs,h.get? a=some {cls:=.ref C,dict:=d,data:=.fields vs}
def Cx.suite (X:Cx)(a:Addr)(pins:List (Addr×Obj)):Cx:=
 {X with A:=X.A.mark (some (.ref a)),calm:=false,xe:=fun _ _=>False,pn:=X.pn++pins}
def Cx.tryc (X:Cx)(D:Ws)(pins:List (Addr×Obj))(hs:List ExceptHandler):Cx:=
 { X with
  pn:=X.pn++pins
  xe:=fun e s1=>wpAny (model X.prog X.w) X.A (noteFrame e X.env) (fun _ s2=>wpAny (model X.prog X.w) X.A (setFlight e none)
   (fun _ s3=>wpAny (model X.prog X.w) X.A (handleBy e X.env hs) (SP X pins D) X.xe s3) X.xe s2) X.xe s1}
section
variable {X:Cx}{pins:List (Addr×Obj)}{σ:St}{H:Hp}{s:Shared}{D:Ws}{hs:List ExceptHandler}{a:Addr}
theorem Inv.toTry (I:Inv X pins σ H s):Inv (X.tryc D pins hs) [] σ H s:=
 ⟨⟨I.ok.mod,I.ok.kind,I.ok.glob,I.ok.blt,I.ok.above,I.ok.inj,I.ok.has,I.ok.cab,I.ok.hd,I.ok.frames,I.ok.stk,I.ok.exf,I.ok.bs,I.ok.bsz,I.ok.noex,I.ok.exfs,I.ok.funs,I.ok.frf⟩,
  I.os,I.bare,I.base,I.loc,I.cell,I.free,I.freeC,fun p hp=>I.pin p (by
   rw[List.append_nil] at hp
   exact hp),I.hok,I.len⟩
theorem Inv.ofTry {ps:List (Addr×Obj)}(I:Inv (X.tryc D pins hs) ps σ H s):Inv X pins σ H s:=
 ⟨⟨I.ok.mod,I.ok.kind,I.ok.glob,I.ok.blt,I.ok.above,I.ok.inj,I.ok.has,I.ok.cab,I.ok.hd,I.ok.frames,I.ok.stk,I.ok.exf,I.ok.bs,I.ok.bsz,I.ok.noex,I.ok.exfs,I.ok.funs,I.ok.frf⟩,
  I.os,I.bare,I.base,I.loc,I.cell,I.free,I.freeC,fun p hp=>I.pin p (List.mem_append_left _ hp),I.hok,I.len⟩
theorem Inv.toSuite (I:Inv X pins σ H s):Inv (X.suite a pins) [] σ H s:=
 ⟨⟨I.ok.mod,I.ok.kind,I.ok.glob,I.ok.blt,I.ok.above,I.ok.inj,I.ok.has,I.ok.cab,fun z=>(by cases z),I.ok.frames,I.ok.stk,I.ok.exf,I.ok.bs,I.ok.bsz,I.ok.noex,I.ok.exfs,I.ok.funs,I.ok.frf⟩,
  I.os,I.bare,I.base,I.loc,I.cell,I.free,I.freeC,fun p hp=>I.pin p (by
   rw[List.append_nil] at hp
   exact hp),I.hok,I.len⟩
theorem Inv.ofSuite (hc:X.calm=true->X.A.handled=none){ps:List (Addr×Obj)}(I:Inv (X.suite a pins) ps σ H s):Inv X pins σ H s:=
 ⟨⟨I.ok.mod,I.ok.kind,I.ok.glob,I.ok.blt,I.ok.above,I.ok.inj,I.ok.has,I.ok.cab,hc,I.ok.frames,I.ok.stk,I.ok.exf,I.ok.bs,I.ok.bsz,I.ok.noex,I.ok.exfs,I.ok.funs,I.ok.frf⟩,
  I.os,I.bare,I.base,I.loc,I.cell,I.free,I.freeC,fun p hp=>I.pin p (List.mem_append_left _ hp),I.hok,I.len⟩
theorem ZiY {body:List Stmt}{h0:ExceptHandler}{pos:Pos}{tb:Ws->TS}
  (hb:∀D pins,VM (X.tryc D pins (h0::hs)) body (tb D)):PS X (.Try body (h0::hs) [] [] pos) (fun D σ H=>tb D D σ H):=by
 intro pins s σ H D I h
 refine wpAny_Try_except (ZT (hb D pins [] s σ H D I.toTry h) fun f s1 h1=>?_)
 cases f with
 |next=>
  obtain⟨σ',H',J,q⟩:=h1
  exact wpAny_execs_nil ⟨σ',H',J.ofTry,q⟩
 |brk=>
  obtain⟨σ',H',J,q⟩:=h1
  exact⟨σ',H',J.ofTry,q⟩
 |cont=>
  obtain⟨σ',H',J,q⟩:=h1
  exact⟨σ',H',J.ofTry,q⟩
 |ret u=>
  obtain⟨v,σ',H',J,r,q⟩:=h1
  exact⟨v,σ',H',J.ofTry,r,q⟩
theorem Inv.track {C:Addr}{d:Option Addr}{vs:Array Value}(I:Inv X pins σ H s)(he:s.heap.get? a=some {cls:=.ref C,dict:=d,data:=.fields vs})(lo:WE X pins H a) :
  Inv X pins σ (upd H a (exO a C d)) s:=by
 have ext:ZN X.prog X.w (upd H a (exO a C d)) s.heap a (exO a C d):=
  ⟨⟨vs,he⟩,⟨_,he⟩,fun h1 h2 ⟨vs',e⟩ k=>⟨vs',k _ e⟩⟩
 obtain⟨h,g,dr,t,os⟩:=s
 refine I.call (ch:=[a]) (h':=h) (g':=g) (d':=dr) (t':=t) ⟨fun b o e _ _ _=>e,fun b o e _ _ _=>⟨o.slots,e⟩,fun b o e n nx=>?_,fun b o e _=>⟨o,e⟩,fun b ys q=>?_,fun b o u q=>?_,fun b ps q=>⟨#[],?_⟩⟩
  (fun b o e=>?_) I.bare fun b hb=>?_
 ·rw[Zw (fun z=>nx (by simp[z]))]
  exact n
 ·rw[Zw (ZD q lo.2.1)]
  exact q
 ·rw[Zw (ZD q lo.2.1)]
  exact q
 ·rw[Zw (ZD q lo.2.1),q]
  simp
 ·by_cases hb:b=a
  ·subst hb
   rw[Zt] at e
   cases e
   exact ext
  ·rw[Zw hb] at e
   exact (I.hok b o e).stay (fun _ _ _ q=>q) (fun c r=>by rw[Zw (ZD r lo.2.1)];exact r) fun c ys r=>by rw[Zw (ZD r lo.2.1)];exact r
 ·obtain rfl:b=a:=by simpa using hb
  exact⟨.inr lo.1,lo.2.2.1,lo.2.2.2.1,lo.2.2.2.2⟩
end
section
variable {X:Cx}{pins:List (Addr×Obj)}{σ:St}{H:Hp}{s:Shared}{D:Ws}{a:Addr}
theorem XJ {M:Model}{A:Around}{E:Value->Shared->Prop}{i:Nat}{n:Str}{pos:Pos}{Q:Unit->Shared->Prop}(I:Inv X pins σ H s)(hN:X.N.Nodup)(hi:X.N[i]?=some n)
  (hk:X.env.kindOf n=some .local) (h:∀s',Inv X pins (σ.set i none) H s'->Q () s'):wpAny M A (do bindName X.env n .none;unbindBehindTheSuite X.env n pos) Q E s:=by
 obtain⟨m,hn,hl⟩:=id I.loc
 have hcls:(X.env.scope.kind == .class || (X.env.scope.kind == .module && X.env.locals != X.env.globals))=false:=by
  rw[I.ok.kind]
  rfl
 have hiσ:i < σ.length:=by
  rw[I.len]
  exact (List.getElem?_eq_some_iff.mp hi).1
 have cne:=I.cne
 refine wpAny_nameGoes_keeps hk hn hcls fun h' v hn' hs=>?_
 obtain⟨oL,_,_,hoL,_⟩:=id hn
 have up:∀{b:Addr}{o:Obj},X.s₀.heap.get? b=some o->b≠X.env.locals:=fun {b o} e=>Nat.ne_of_lt (Nat.lt_of_lt_of_le (Zp e) I.ok.above)
 refine h _ ⟨I.ok,I.os,I.bare,⟨fun b o e n hb hx=>?_,fun b o e n hb hx=>?_,I.base.free,fun b o e hx=>?_,I.base.tups,I.base.frzs,I.base.tbls⟩,⟨_,hn',fun j y v' e1 e2 e3=>?_⟩,fun y c e=>?_,I.free,I.freeC,fun p hp=>?_,fun b ob e=>?_,?_⟩
 ·exact (hs.2 b (up e)).trans (I.base.keep b o e n hb hx)
 ·obtain⟨sl,e1⟩:=I.base.slot b o e n hb hx
  exact⟨sl,(hs.2 b (up e)).trans e1⟩
 ·obtain⟨o',e1⟩:=I.base.there b o e hx
  exact⟨o',(hs.2 b (up e)).trans e1⟩
 ·by_cases hj:j=i
  ·subst hj
   rw[List.getElem?_set_self hiσ] at e2
   cases e2
  ·rw[List.getElem?_set_ne (Ne.symm hj)] at e2
   obtain⟨u',r',q⟩:=hl j y v' e1 e2 e3
   refine⟨u',r',?_⟩
   rcases q with ⟨k,e⟩|⟨k,c,e,z⟩
   ·refine .inl ⟨k,?_⟩
    have:y≠n:=fun e=>hj (Vh hN e1 (e▸hi))
    simp[this,e]
   ·exact .inr ⟨k,c,e,z.sameBut hs (cne y c e)⟩
 ·obtain⟨w',z⟩:=I.cell y c e
  exact⟨w',z.sameBut hs (cne y c e)⟩
 ·obtain⟨e,n,ne,nf,d⟩:=I.pin p hp
  exact⟨(hs.2 p.1 ne).trans e,n,ne,nf,d⟩
 ·refine (I.hok b ob e).stay (fun c w' hc q=>(hs.2 c ?_).trans q) (fun _ q=>q) fun _ _ q=>q
  rintro rfl
  rcases hc with rfl|hc
  ·rw[I.free] at e
   cases e
  ·rw[I.free] at hc
   cases hc
 ·simpa using I.len
def ZjP (D:Ws)(i:Nat):Ws:={nx:=fun σ H=>D.nx (σ.set i none) H,rt:=D.rt,bk:=fun σ H=>D.bk (σ.set i none) H,ct:=fun σ H=>D.ct (σ.set i none) H}
def noSt (X:Cx):St:=List.replicate X.N.length none
theorem Inv.noSt (I:Inv X pins σ H s):Inv X pins (noSt X) H s:=
 I.weak (by simp[L2.noSt,I.len]) fun i v e=>by
  unfold L2.noSt at e
  rw[List.getElem?_replicate] at e
  split at e <;> cases e
def ZbC (X:Cx)(Dc:Addr)(i:Nat)(ts:TS)(D:Ws):XK:=fun cls d H=>∃C N bm nid ND bD,cls=.ref C/\PyX.VC X.base C N bm nid/\PyX.VC X.base Dc ND bD nid/\
 bD.contains (.type "BaseException")=true/\(Value.ref C::bm).contains (.ref Dc)=true/\
 ∀a,H a=none->ts (ZjP D i) ((noSt X).set i (some (.ref a))) (upd H a (exO a C d))
theorem Xi {C T L:Addr}{d:Option Addr}{Dc:Addr}{i:Nat}{n x:Str}{np hp:Pos}{b0:Stmt}{suite:List Stmt}{ts:TS}
  (I:Inv X pins σ H s) (e:PyX.Ex s.heap a C d T (rawInt L)) (la:WE X pins H a) (lT:WE X pins H T)
  (hN:X.N.Nodup) (hi:X.N[i]?=some n) (hk:X.env.kindOf n=some .local) (hg:Gl X x) (hm:X.mg x=some (.ref Dc)) (hdb:(x == ("__debug__":Str))=false)
  (hs:VM (X.suite a pins) (b0::suite) ts) (q:ZbC X Dc i ts D (.ref C) d H) :
  wpAny (model X.prog X.w) X.A (setFlight (.ref a) none)
   (fun _ s3=>wpAny (model X.prog X.w) X.A (handleBy (.ref a) X.env [.ExceptHandler (some (.Name x np)) (some n) (b0::suite) hp]) (SP X pins D) X.xe s3) X.xe s:=by
 obtain⟨C',N,bm,nid,ND,bD,hC,ic,id',hb,hit,q⟩:=q
 cases hC
 refine PyX.WU e fun h1 e1 k1=>?_
 have I1:Inv X pins σ H {s with heap:=h1}:=I.but (t':=s.toks) k1.nil fun b hb=>by
  obtain rfl:b=T:=by simpa using hb
  exact lT
 refine wpAny_handleBy_cons (codeAny_handlers_test (JR (X:=X.suite a pins) I1.toSuite hg hm ?_ hdb)) (by intro z;cases z)
 obtain⟨vs,oT,tl,ea,_⟩:=id e1
 refine PyX.ZaY (ic.keeps I1.bk) (id'.keeps I1.bk) ea rfl hb hit ?_
 simp only[if_true]
 refine codeAny_handlers_suite_as (PyX.WU e1 fun h2 e2 k2=>?_)
 have I2:Inv X pins σ H {s with heap:=h2}:=I1.but (t':=s.toks) k2.nil fun b hb=>by
  obtain rfl:b=T:=by simpa using hb
  exact lT
 obtain⟨vs2,oT2,tl2,ea2,_⟩:=id e2
 have I3:=(I2.noSt.track ea2 la).toSuite (a:=a)
 refine YE (X:=X.suite a pins) (v:=.ref a) I3 hN hi (.inl hk) rfl (fun s4 I4=>?_) (.inr hk)
 refine wpAny_mono (hs [] s4 _ _ (ZjP D i) I4 (q a la.2.1)) (fun f s5 h5=>?_) fun _ _ z=>False.elim z
 have back:∀{σ':St}{H':Hp},Inv (X.suite a pins) [] σ' H' s5->Inv X pins σ' H' s5:=fun J=>J.ofSuite I.ok.hd
 cases f with
 |next=>
  obtain⟨σ',H',J,z⟩:=h5
  exact XJ (back J) hN hi hk fun s6 J6=>⟨_,H',J6,z⟩
 |brk=>
  obtain⟨σ',H',J,z⟩:=h5
  exact XJ (back J) hN hi hk fun s6 J6=>⟨_,H',J6,z⟩
 |cont=>
  obtain⟨σ',H',J,z⟩:=h5
  exact XJ (back J) hN hi hk fun s6 J6=>⟨_,H',J6,z⟩
 |ret u=>
  obtain⟨v,σ',H',J,r,z⟩:=h5
  exact XJ (back J) hN hi hk fun s6 J6=>⟨v,_,H',J6,r,z⟩
section
variable {Dc:Addr}{i:Nat}{n x:Str}{np hp:Pos}{b0:Stmt}{suite:List Stmt}{ts:TS}
theorem ZbW (hN:X.N.Nodup)(hi:X.N[i]?=some n)(hk:X.env.kindOf n=some .local)(hg:Gl X x)(hm:X.mg x=some (.ref Dc))(hdb:(x == ("__debug__":Str))=false)
  (hst:X.stack=X.env::X.outer) (hf:X.env.frame=some X.env.locals) (hs:∀a,VM (X.suite a pins) (b0::suite) ts) :
  W7 (CXE X.prog X.w) (X.tryc D pins [.ExceptHandler (some (.Name x np)) (some n) (b0::suite) hp]) (ZbC X Dc i ts D):=by
 intro ps σ H s e s' I h
 obtain⟨a,C,d,T,H',rfl,J,z,la,lT,q⟩:=I.afterX h
 show wpAny _ _ _ _ _ _
 have J':=J.ofTry
 have fr:=J'.ok.frames
 have st:=J'.stack
 have lo:∀b,WE (X.tryc D pins [.ExceptHandler (some (.Name x np)) (some n) (b0::suite) hp]) ps H' b->WE X pins H' b:=
  fun b ⟨h1,h2,h3,h4,h5⟩=>⟨h1,h2,h3,h4,fun p hp=>h5 p (List.mem_append_left _ hp)⟩
 rw[hst] at fr st
 refine PyX.ZdZ (base:=X.base) fr st hf z fun h' T' nT z' k=>?_
 rw[<-hst] at k
 have J2:Inv X pins σ H' {s' with heap:=h'}:=J'.but (t':=s'.toks) k fun b hb=>by
  rcases List.mem_cons.mp hb with rfl|hb
  ·exact lo _ la
  ·obtain rfl:b=T:=by simpa using hb
   exact lo _ lT
 exact Xi J2 z' (lo _ la) (J'.loose nT (J'.hok.fresh nT)) hN hi hk hg hm hdb (hs a) q
end
end
end L2
namespace PyX
open PySem
section
variable {M:Model}{A:Around}{E:Value->Shared->Prop}{env:Env}{s:Shared}
theorem ZiS {v:Sem Value}{Q:Flow->Shared->Prop}(hh:A.handled=none)
    (h:wpAny M A v (fun u s1=>∃e C N bm nid d vs,u=.ref e/\VC s1.heap C N bm nid/\bm.contains (.type "BaseException")=true/\
      s1.heap.get? e=some {cls:=.ref C,dict:=d,data:=.fields vs}/\vs[1]?=some .none/\E (.ref e) s1) E s) :
    wpAny M A (raiseStmt env (some v) none) Q E s:=by
  unfold raiseStmt
  refine Zl (wpAny_mono h (fun u s1 h1=>?_) fun _ _ z=>z)
  obtain⟨e,C,N,bm,nid,d,vs,rfl,x,hb,he,hv,hE⟩:=h1
  obtain⟨nm,q,bs,hd,sn,sb,ab,cl,dd,k0,k1,k2,k3,k5,hC⟩:=x
  have hcB:(Value.ref C::bm).contains (.type "BaseException")=true:=by
    rw[List.contains_cons,hb,Bool.or_true]
  obtain⟨hp,g,dr,tk,os⟩:=s1
  repeat (first
    |with_reducible refine wpAny_loadPart_at he ?_
    |with_reducible refine wpAny_loadPart_at hC ?_
    | (with_reducible refine wpAny_isSubtype_exc hC ?_
       rw[hcB])
    |wp_step)
  rw[hv]
  refine Zm ?_
  rw[if_neg (by decide)]
  exact Zm (wpAny_raiseNew_none hh hE)
end
end PyX
namespace L2
open PySem PySem.Spec PyProof.Rows
section
variable {X:Cx}{C N T U:Addr}{nid iid:String}{mN mT:Str->Option Value}{x:Str}{p pos cpos:Pos}{e:Expr}{es:List Expr}{t:TA}{E:XK}
theorem ZdL (hc:X.calm=true)(c:PyX.Uq X.base C N T U nid mN mT)(hi:mN "__init__"=none)(F:ExcBaseFacts "ValueError" nid iid PyX.VE)
  (hg:Gl X x) (hm:X.mg x=some (.ref C)) (kp:PySem.W.keepIn X.K (.ref C)=true) (ha:PA X (e::es) t) (hx:ZgH X E)
  (hdb:(x == ("__debug__":Str))=false:=by decide) (he:starEach (e::es) X.env=(false,eval e X.env)::starEach es X.env:=by rfl) (hpl:(backTo cpos (starEach es X.env)).any (·.1)=false:=by rfl) :
  PS X (.Raise (some (.Call (.Name x p) (e::es) [] cpos)) none pos) (fun D σ H=>t σ H fun vs H1=>vs.length<=sizeLine/\E (.ref C) none H1):=by
 intro pins s σ H D I h
 rw[arm_exec_Raise]
 refine Zl (wpAny_standAt (PyX.ZiS (I.ok.hd hc) ?_))
 refine Zl (wpAny_mono (wpAny_Call_Name_kw (JR I hg hm ?_ hdb)) (fun v s3 h3=>Zl (wpAny_standAt (Zm h3))) fun _ _ z=>z)
 refine PySem.W.callWith_K (h₀:=X.base) I.ok.mod.kin kp (ZT (ha cpos pins s σ H _ I h) fun us s1 ⟨vs,H1,I1,r,hl,q⟩=>⟨I1.kIn,?_⟩) he hpl
 have c1:=c.keeps I1.bk
 have hl':us.length<=sizeLine:=by
  rw[<-r.length]
  exact hl
 obtain⟨h1,g1,d1,t1,o1⟩:=s1
 refine PyX.Zbm F c1.tail c1.c.ex c1.nsC hi (fun h' a mk hz=>?_) hl'
 have J:Inv X pins σ H1 ⟨h',g1,d1,t1,o1⟩:=I1.kept (t':=t1) mk.keeps
 obtain⟨ta,ho,_,_⟩:=mk.there
 exact⟨a,C,N,_,nid,none,_,rfl,(c1.keeps mk.keeps).c.ex,rfl,ho,rfl,hx pins σ H1 _ a C none J ⟨_,ho,rfl⟩ (by
  obtain⟨l1,l2,l3,l4,l5⟩:=I1.loose hz (I1.hok.fresh hz)
  exact⟨l1,l2,l3,l4,l5⟩) q⟩
end
section
variable {X:Cx}{pins:List (Addr×Obj)}{σ:St}{H:Hp}{s:Shared}{a:Addr}
variable {C N T U:Addr}{nid:String}{mN mT:Str->Option Value}{f:Str}{y:V}{u:Value}{A:Around}{E:Value->Shared->Prop}{Q:Unit->Shared->Prop}
end
section
variable {X:Cx}{pins:List (Addr×Obj)}{σ:St}{H:Hp}{s:Shared}{a:Addr}
variable {C N T U dx:Addr}{nid:String}{mN mT:Str->Option Value}{f:Str}{y:V}{u:Value}{A:Around}{E:Value->Shared->Prop}{Q:Unit->Shared->Prop}{fs:List (Str×V)}
variable {o value:Expr}{ta tv:TE}{pos pos':Pos}
end
section
variable {X:Cx}{pins:List (Addr×Obj)}{σ:St}{H:Hp}{s:Shared}{a:Addr}{φ:Heap->Prop}
end
section
variable {X:Cx}{C N T U fI:Addr}{nid iid:String}{mN mT:Str->Option Value}{x:Str}{p pos cpos:Pos}{e:Expr}{es:List Expr}{t:TA}{E:XK}{k:Nat}{fd:FuncData}{ps:List Str}{sp:Sp}{oI:Obj}
end
section
variable {X:Cx}{f:Str}{e:Expr}{ta:TE}{pos:Pos}
end
end L2
namespace PyX
open PySem
theorem ZgN:typeLookup (.type "ValueError") "__class__"=pure (some (.builtin "object.__class__")):=by
 rw[typeLookup_type,builtinLookup_eq_fast]
 kernel_rfl
section
variable {prog:Program}{w:World}{h:Heap}{C N T U x:Addr}{nid:String}{mN mT:Str->Option Value}{o:Obj}
variable {A:Around}{E:Value->Shared->Prop}{gs:Array GenState}{dr:Drawn}{tk:Nat}{os:OsState}
theorem Zgw {R:Result->Shared->Prop}(c:Uq h C N T U nid mN mT)(hx:h.get? x=some o)(hc:o.cls=.ref C)(hq:R (.ok (.ret (.ref C))) ⟨h,gs,dr,tk,os⟩) :
    codeAny (model prog w) A (.call (.builtin "getset_descriptor.__get__") ⟨[.builtin "object.__class__",.ref x,.ref C],[]⟩) R ⟨h,gs,dr,tk,os⟩:=by
  obtain⟨nm,q,bs,sn,sb,ab,cl,dd,k0,k1,k2,k3,k5,hC⟩:=c.c
  have h5:(⟨h,gs,dr,tk,os⟩:Shared).TypeIs (.builtin "object.__class__") "getset_descriptor":=F.typeOf_object_class
  have hO:(Value.ref C::Value.ref T::VE).contains (.type (".".intercalate ("object.__class__".cutAt '.').dropLast))=true:=by
    rw[F.owner_object_class,List.contains_cons,List.contains_cons,SF.hasOwner,Bool.or_true,Bool.or_true]
  refine codeAny_call_builtin F.slot_gs_get.plain F.entry_gs_get (F.slot_gs_get.check _ _ _ _ _ _ _ _ h5 (F.args_gs_get _ _ _) ?_)
  repeat (any_goals (first
    |assumption
    | (with_reducible refine wpAny_loadPart_at hx ?_
       rw[hc])
    | (with_reducible refine wpAny_isSubtype_exc hC ?_
       rw[hO])
    |wp_step))
  refine⟨Code.quiet_builtin _ (by decide +kernel),codeAny_builtin F.entry_object_class ?_⟩
  repeat (any_goals (first
    |assumption
    | (with_reducible refine wpAny_loadPart_at hx ?_
       rw[hc])
    |wp_step))
theorem Zcj {kt:Tok}{Q:Fin->Shared->Prop}(c:Uq h C N T U nid mN mT)(h1:mN "__class__"=none)(h2:mT "__class__"=none)(hx:h.get? x=some o)(hc:o.cls=.ref C)
    (hq:Q (.done (.ret (.ref C))) ⟨h,gs,dr,tk,os⟩) :
    wpAny (model prog w) A (Builtin.«object.__getattribute__» ⟨[.ref x,.str "__class__" kt],[]⟩) Q E ⟨h,gs,dr,tk,os⟩:=by
  have h5:(⟨h,gs,dr,tk,os⟩:Shared).TypeIs (.builtin "object.__class__") "getset_descriptor":=F.typeOf_object_class
  have f5:=F.typeOf_object_class
  have f6:=F.slot_gs_get.lookup
  have f7:=F.slot_gs_set.lookup
  repeat (any_goals (first
    |assumption
    | (with_reducible refine wpAny_loadPart_at hx ?_
       rw[hc])
    |with_reducible refine c.lookB ZgN h1 h2 ?_
    |wp_step))
  refine Zgw c hx hc ?_
  repeat (any_goals (first
    |assumption
    |wp_step))
theorem Zep {Q:Option Value->Shared->Prop}(c:Uq h C N T U nid mN mT)(h1:mN "__class__"=none)(h2:mT "__class__"=none)
    (h3:mN "__getattribute__"=none) (h4:mT "__getattribute__"=none) (h5:mN "__getattr__"=none) (h6:mT "__getattr__"=none)
    (hx:h.get? x=some o) (hc:o.cls=.ref C) (hq:Q (some (.ref C)) ⟨h,gs,dr,tk+1,os⟩) :
    wpAny (model prog w) A (getAttr? (.ref x) "__class__") Q E ⟨h,gs,dr,tk,os⟩:=by
  have f3:=F.attr_ValueError.ga.bind (.ref x)
  have e2:(Value.builtin "BaseException.__getattribute__" == Value.builtin "object.__getattribute__")=false:=by
    decide +kernel
  have e1:(onTheHeap (Value.ref C) && Value.builtin "BaseException.__getattribute__" == Value.builtin "object.__getattribute__")=false:=by
    rw[e2]
    rfl
  unfold getAttr? getAttrBy? getAttrBy
  repeat (any_goals (first
    |assumption
    | (with_reducible refine wpAny_loadPart_at hx ?_
       rw[hc])
    |with_reducible refine c.lookB F.attr_ValueError.ga.lookup h3 h4 ?_
    |with_reducible refine c.lookB F.attrBase_ValueError.noGetattr h5 h6 ?_
    |wp_step))
  refine codeAny_call_builtin F.attr_ValueError.ga.plain F.entry_bexc_ga (ZhT c hx hc (Zcj c h1 h2 hx hc ?_))
  repeat (any_goals (first
    |assumption
    |wp_step))
end
end PyX
namespace L2
open PySem PySem.Spec PyProof.Rows
structure NoC (mN mT:Str->Option Value):Prop where
 a:mN "__class__"=none
 b:mT "__class__"=none
 d:mN "__getattribute__"=none
 e:mT "__getattribute__"=none
 g:mN "__getattr__"=none
 h:mT "__getattr__"=none
theorem Zda {K:PySem.W.Frag}{x C N T U:Addr}{nid:String}{mN mT:Str->Option Value}{cd:ClassData}(hk:PySem.W.clsIn K C=some cd)(n:NoC mN mT) :
  PySem.W.KitX K (.ref x) (.ref C) (fun h=>PyX.Uq h C N T U nid mN mT/\∃o,h.get? x=some o/\o.cls=.ref C) where
 ty:=fun M h _ ⟨_,o,e,c⟩=>by
  intro A Q E s k q
  unfold typeOf
  refine Zl (wpAny_loadPart (k _ _ e) (Zm ?_))
  rw[c]
  exact q
 it:=fun M h X _=>by
  unfold PySem.W.clsIn at hk
  split at hk
  ·rename_i c' d' cd' sl' ho
   intro A' Q' E' s' k q
   unfold isType loadHead
   exact Zl (wpAny_loadPart (k _ _ (X _ _ ho)) (Zm q))
  ·cases hk
 ne:=fun h tp dd its m sl X htp=>by
  refine Bool.eq_false_iff.mpr fun q=>?_
  have e:C=tp:=Value.ref.inj (beq_iff_eq.mp q)
  subst e
  unfold PySem.W.clsIn at hk
  split at hk
  ·rename_i c' d' cd' sl' ho
   have z:=(X _ _ ho).symm.trans htp
   cases z
  ·cases hk
 ca:=fun {prog w A E Q s} X ⟨c,o,e,cc⟩ k=>by
  obtain⟨h,g,d,t,os⟩:=s
  exact PyX.Zep c n.a n.b n.d n.e n.g n.h e cc k
section
variable {X:Cx}{C N T U:Addr}{nid:String}{mN mT:Str->Option Value}{cd:ClassData}
theorem Zgy:ZP X (.builtin "isinstance") (fun xs H Q=>∃a C d N T U nid mN mT cd c b,xs=[.ref a,c]/\H a=some (exO a C d)/\PySem.W.clsIn X.K C=some cd/\NoC mN mT/\PyX.Uq X.base C N T U nid mN mT/\
  (∀cv,RelV c cv->PySem.W.kitOne X.K (.ref C) cv=some b)/\Q (.bl b) H):=by
 intro pins s σ H xs us Q I r h
 obtain⟨a,C,d,N,T,U,nid,mN,mT,cd,c,b,rfl,ha,hk,n,two,e,q⟩:=h
 cases r with
 |cons r1 r=>
  cases r with
  |cons r2 r=>
   cases r
   cases (show _=Value.ref a from r1)
   obtain⟨⟨vs,ho⟩,_,_⟩:=I.hok a _ ha
   exact PySem.W.kia_one (Zda hk n) I.kIn ⟨two.keeps I.bk,_,ho,rfl⟩ (e _ r2) (fun z=>nomatch z) fun tk=>⟨.bl b,H,I.tok _,rfl,q⟩
theorem Zev:ZP X (.builtin "isinstance") (fun xs H Q=>∃a C d N T U nid mN mT cd tp cs b,xs=[.ref a,.ref tp]/\H a=some (exO a C d)/\H tp=some (.tup cs)/\PySem.W.clsIn X.K C=some cd/\NoC mN mT/\PyX.Uq X.base C N T U nid mN mT/\
  (∀its,ZB cs its->PySem.W.kitAny X.K (.ref C) its=some b)/\Q (.bl b) H):=by
 intro pins s σ H xs us Q I r h
 obtain⟨a,C,d,N,T,U,nid,mN,mT,cd,tp,cs,b,rfl,ha,ht,hk,n,two,e,q⟩:=h
 cases r with
 |cons r1 r=>
  cases r with
  |cons r2 r=>
   cases r
   cases (show _=Value.ref a from r1)
   cases (show _=Value.ref tp from r2)
   obtain⟨⟨vs,ho⟩,_,_⟩:=I.hok a _ ha
   obtain⟨_,its,rv,o,h1,h2,m,h3⟩:=I.hok tp _ ht
   obtain⟨oc,od,odt,osl⟩:=o
   cases h2
   cases h3
   exact PySem.W.kia_tup (Zda hk n) I.kIn ⟨two.keeps I.bk,_,ho,rfl⟩ h1 (e _ rv) (fun z=>nomatch z) fun tk=>⟨.bl b,H,I.tok _,rfl,q⟩
end
def Y2 (es:Array DictEntry):Bool:=es.toList.all fun e=>match e.key with | .str _ _=>true|_=>false
theorem ZbE {es:Array DictEntry}(h:Y2 es=true):StrKeys es:=by
 intro e he
 unfold Y2 at h
 have:=List.all_eq_true.mp h e (Array.mem_toList_iff.mpr he)
 split at this
 ·rename_i n t q;exact⟨n,t,q⟩
 ·cases this
def Jq (es:Array DictEntry)(ns:List Str):Bool:=ns.all fun n=>(nsFind es n).isNone
theorem YH {es:Array DictEntry}{ns:List Str}(h:Jq es ns=true){n:Str}(hn:n∈ns):nsFind es n=none:=by
 have:=List.all_eq_true.mp h n hn
 exact Option.isNone_iff_eq_none.mp this
structure Yd (K:PySem.W.Frag)(x:Str)(C N:Addr)(bm:List Value)(es:Array DictEntry):Prop where
 at_:PySem.W.nsIn K mainGlobals x=some (some (.ref C))
 ob:∃nm q bs sn sb ab cl dd k0 k1 k2 k3 k5,K.lookup C=some (excClassObj nm q C N bs bm true sn sb ab cl dd k0 k1 k2 k3 k5 PyX.Jk)
 ns:∃c d ep sl,K.lookup N=some ⟨c,d,.dict es ep,sl⟩
 kp:PySem.W.keepIn K (.ref C)=true
 sk:Y2 es=true
theorem Yd.mk' {K:PySem.W.Frag}{x:Str}{C N:Addr}{bm:List Value}{es:Array DictEntry}{nm q:Str}{bs:List Value}{sn:List Str}{sb:List Value}{ab:Bool}{cl:Option Bool}{dd:Option Addr}{k0 k1 k2 k3 k5:Option Value}{c:Value}{d:Option Addr}{ep:Nat}{sl:Array (Option Value)}
  (a:PySem.W.nsIn K mainGlobals x=some (some (.ref C))) (l:K.lookup C=some (excClassObj nm q C N bs bm true sn sb ab cl dd k0 k1 k2 k3 k5 PyX.Jk)) (n:K.lookup N=some ⟨c,d,.dict es ep,sl⟩) (kp:PySem.W.keepIn K (.ref C)=true) (sk:Y2 es=true):Yd K x C N bm es:=
 ⟨a,⟨nm,q,bs,sn,sb,ab,cl,dd,k0,k1,k2,k3,k5,l⟩,⟨c,d,ep,sl,n⟩,kp,sk⟩
section
variable {K:PySem.W.Frag}{x y:Str}{C N T U D M:Addr}{bm:List Value}{es et ez:Array DictEntry}{h:Heap}{mg:Str->Option Value}
theorem Yd.ed (e:Yd K x C N bm es)(X:K.In h):PyX.Zbq h C N bm PyX.Jk:=by
 obtain⟨nm,q,bs,sn,sb,ab,cl,dd,k0,k1,k2,k3,k5,l⟩:=e.ob
 exact⟨nm,q,bs,sn,sb,ab,cl,dd,k0,k1,k2,k3,k5,X _ _ l⟩
theorem Yd.nsx (e:Yd K x C N bm es)(X:K.In h):h.Ns N (nsFind es):=by
 obtain⟨c,d,ep,sl,l⟩:=e.ns
 exact⟨_,es,ep,X _ _ l,rfl,ZbE e.sk,fun _=>rfl⟩
theorem Yd.cls (e:Yd K x C N bm es):∃cd:ClassData,PySem.W.clsIn K C=some cd/\cd.mro=.ref C::bm:=by
 obtain⟨nm,q,bs,sn,sb,ab,cl,dd,k0,k1,k2,k3,k5,l⟩:=e.ob
 have q:PySem.W.clsIn K C=some {name:=nm,bases:=bs,mro:=.ref C::bm,ns:=N,qualname:=q,hasDict:=true,slotNames:=sn,subclasses:=sb,abstract:=ab,collection:=cl,hasDel:=false}:=by
  unfold PySem.W.clsIn
  rw[l]
 exact⟨_,q,rfl⟩
theorem Yd.ty (e:Yd K x C N bm es):PySem.W.typeIn K (.ref C)=some (.type "type"):=by
 obtain⟨nm,q,bs,sn,sb,ab,cl,dd,k0,k1,k2,k3,k5,l⟩:=e.ob
 show (K.lookup C).map (·.cls)=_
 rw[l]
 rfl
theorem Yd.sub (e:Yd K x C N bm es)(v:Value):PySem.W.subIn K (.ref C) v=some ((Value.ref C::bm).contains v):=by
 obtain⟨cd,h1,h2⟩:=e.cls
 show PySem.W.mroIn K C v=_
 unfold PySem.W.mroIn
 rw[h1]
 show (if cd.mro.isEmpty=true then none else some (cd.mro.contains v))=_
 rw[h2]
 rfl
theorem Yd.kitR (e:Yd K x C N bm es){bm':List Value}(f:Yd K y D M bm' ez):PySem.W.kitOne K (.ref C) (.ref D)=some ((Value.ref C::bm).contains (.ref D)):=by
 unfold PySem.W.kitOne
 by_cases q:(Value.ref C == Value.ref D)=true
 ·rw[if_pos q]
  have:C=D:=Value.ref.inj (beq_iff_eq.mp q)
  subst this
  simp[List.contains_cons]
 ·rw[if_neg q]
  obtain⟨cd,h1,_⟩:=f.cls
  show (if ((PySem.W.clsIn K D).isSome && PySem.W.typeIn K (.ref D) == some (.type "type"))=true then PySem.W.subIn K (.ref C) (.ref D) else none)=_
  rw[if_pos,e.sub]
  rw[h1,f.ty]
  rfl
theorem Zd9:PySem.W.kitMeta "ValueError"=true:=by kernel_rfl
theorem Yd.kitV (e:Yd K x C N (.ref T::PyX.VE) es):PySem.W.kitOne K (.ref C) (.type "ValueError")=some true:=by
 unfold PySem.W.kitOne
 rw[if_neg (by simp)]
 show (if PySem.W.kitMeta "ValueError"=true then PySem.W.subIn K (.ref C) (.type "ValueError") else none)=_
 rw[if_pos Zd9,e.sub]
 rfl
theorem Yd.two (e:Yd K x C N (.ref T::PyX.VE) es)(t:Yd K y T U PyX.VE et)(i:nsFind et "__init__"=none)(X:K.In h):PyX.Uq h C N T U PyX.Jk (nsFind es) (nsFind et):=
 ⟨e.ed X,t.ed X,e.nsx X,t.nsx X,i⟩
end
def Z8:List Str:=["__setattr__", "__class__", "__getattribute__", "__getattr__"]
def WV:List Str:=["word", "thing", "number", "row", "name"]
structure Ec where
 C:Addr
 N:Addr
 es:Array DictEntry
structure Y6 (K:PySem.W.Frag)(x:Str)(T U:Addr)(et:Array DictEntry)(e:Ec):Prop where
 c:Yd K x e.C e.N (.ref T::PyX.VE) e.es
 no:Jq e.es (Z8++WV)=true
structure Zcp (K:PySem.W.Frag)(T U:Addr)(et:Array DictEntry):Prop where
 t:Yd K "TableError" T U PyX.VE et
 no:Jq et ("__init__" :: (Z8++WV))=true
section
variable {K:PySem.W.Frag}{x:Str}{T U:Addr}{et:Array DictEntry}{e:Ec}{f:Str}{h:Heap}
theorem Y6.two (E:Y6 K x T U et e)(B:Zcp K T U et)(X:K.In h):PyX.Uq h e.C e.N T U PyX.Jk (nsFind e.es) (nsFind et):=E.c.two B.t (YH B.no (by simp)) X
theorem Y6.noC (E:Y6 K x T U et e)(B:Zcp K T U et):NoC (nsFind e.es) (nsFind et):=
 ⟨YH E.no (by simp[Z8]),YH B.no (by simp[Z8]),YH E.no (by simp[Z8]),YH B.no (by simp[Z8]),YH E.no (by simp[Z8]),YH B.no (by simp[Z8])⟩
end
section
variable {P:Program}{w:World}{K:PySem.W.Frag}{mg:Str->Option Value}{base:Heap}{C N T U:Addr}{mN mT:Str->Option Value}{qual:Str}{st:Stmt}{fI:Addr}{fd:FuncData}{f g u v:Str}
end
section
variable {K:PySem.W.Frag}{x:Str}{C N T U:Addr}{es et:Array DictEntry}{nm q:Str}{bs:List Value}{sn:List Str}{sb:List Value}{ab:Bool}{cl:Option Bool}{dd:Option Addr}{k0 k1 k2 k3 k5:Option Value}{c:Value}{d:Option Addr}{ep:Nat}{sl:Array (Option Value)}
theorem Zcp.mk' (a:PySem.W.nsIn K mainGlobals "TableError"=some (some (.ref T)))(l:K.lookup T=some (excClassObj nm q T U bs PyX.VE true sn sb ab cl dd k0 k1 k2 k3 k5 PyX.Jk))(n:K.lookup U=some ⟨c,d,.dict et ep,sl⟩)(kp:PySem.W.keepIn K (.ref T)=true)
  (o:(Y2 et && Jq et ("__init__" :: (Z8++WV)))=true):Zcp K T U et:=by
 rw[Bool.and_eq_true] at o
 exact⟨.mk' a l n kp o.1,o.2⟩
theorem Y6.mk' (a:PySem.W.nsIn K mainGlobals x=some (some (.ref C)))(l:K.lookup C=some (excClassObj nm q C N bs (.ref T::PyX.VE) true sn sb ab cl dd k0 k1 k2 k3 k5 PyX.Jk))(n:K.lookup N=some ⟨c,d,.dict es ep,sl⟩)(kp:PySem.W.keepIn K (.ref C)=true)
  (o:(Y2 es && Jq es (Z8++WV))=true):Y6 K x T U et ⟨C,N,es⟩:=by
 rw[Bool.and_eq_true] at o
 exact⟨.mk' a l n kp o.1,o.2⟩
def XF (K:PySem.W.Frag)(x:Str)(T U:Addr)(et:Array DictEntry)(e:Ec):Prop:=Y6 K x T U et e/\nsFind e.es "__init__"=none
theorem XF.mk (a:PySem.W.nsIn K mainGlobals x=some (some (.ref C)))(l:K.lookup C=some (excClassObj nm q C N bs (.ref T::PyX.VE) true sn sb ab cl dd k0 k1 k2 k3 k5 PyX.Jk))(n:K.lookup N=some ⟨c,d,.dict es ep,sl⟩)(kp:PySem.W.keepIn K (.ref C)=true)
  (o:(Y2 es && Jq es (Z8++WV) && Jq es ["__init__"])=true):XF K x T U et ⟨C,N,es⟩:=by
 rw[Bool.and_eq_true] at o
 exact⟨.mk' a l n kp o.1,YH o.2 (by simp)⟩
end
end L2
namespace C23
open PySem L2 PySem.Spec PyProof.Rows
open Tb
def Zgt:Nat->Str
 |0 => "NoGroup" |1 => "NoTable" |2 => "NoShares" |3 => "NoPerm" |4 => "NoLines" |5 => "NoAlike" |6 => "NoName" |7 => "TooMany" |8 => "NoOrder" |9 => "NoPart" |10 => "NoText" |_ => "NoRow"
structure Cs (K:PySem.W.Frag)(mg:Str->Option Value)(T U:Addr)(et:Array DictEntry)(c:Nat->Ec):Prop where
 tb:Zcp K T U et
 ok:∀k,k<12->Y6 K (Zgt k) T U et (c k)
 mgT:mg "TableError"=some (.ref T)
 mgC:∀k,k<12->mg (Zgt k)=some (.ref (c k).C)
 inj:∀j k,j<12->k<12->(c j).C=(c k).C->j=k
 neT:∀k,k<12->(c k).C≠T
 pl:∀k,7<=k->k<12->nsFind (c k).es "__init__"=none
abbrev fVE:ExcBaseFacts "ValueError" PyX.Jk "ValueError.__init__" PyX.VE:=F.excBase_ValueError
def Zdm (T:Addr)(l:List Addr):Bool:=match l with
 | []=>true
 |a::r=>!(a == T) && !(r.contains a) && Zdm T r
theorem Zdl {T:Addr}:∀{l:List Addr},Zdm T l=true->(∀j k:Nat,∀a:Addr,l[j]?=some a->l[k]?=some a->j=k)/\∀a∈l,a≠T
 | [],_=>⟨fun j k a h=>by simp at h,fun a h=>by cases h⟩
 |b::r,h=>by
  unfold Zdm at h
  simp only[Bool.and_eq_true,Bool.not_eq_true'] at h
  obtain⟨⟨h1,h2⟩,h3⟩:=h
  obtain⟨i1,i2⟩:=Zdl h3
  have nb:b∉r:=fun z=>by
   have:=List.contains_iff_mem.mpr z
   rw[h2] at this;cases this
  refine⟨fun j k a hj hk=>?_,fun a ha=>?_⟩
  ·cases j with
   |zero=>
    cases k with
    |zero=>rfl
    |succ k=>
     have e:b=a:=by simpa using hj
     subst e
     have hk':r[k]?=some b:=by simpa using hk
     exact absurd (List.mem_of_getElem? hk') nb
   |succ j=>
    cases k with
    |zero=>
     have e:b=a:=by simpa using hk
     subst e
     have hj':r[j]?=some b:=by simpa using hj
     exact absurd (List.mem_of_getElem? hj') nb
    |succ k=>rw[i1 j k a (by simpa using hj) (by simpa using hk)]
  ·rcases List.mem_cons.mp ha with rfl|ha
   ·intro z;subst z;simp at h1
   ·exact i2 a ha
def ZgC (l:List Ec)(k:Nat):Ec:=l.getD k ⟨0,0,#[]⟩
theorem Zah {l:List Ec}{k:Nat}(h:k<l.length):(l.map Ec.C)[k]?=some (ZgC l k).C:=by
 unfold ZgC
 rw[Zc,Zb,Zf h]
 rfl
theorem k12 {k:Nat}(h:k<12):k=0\/k=1\/k=2\/k=3\/k=4\/k=5\/k=6\/k=7\/k=8\/k=9\/k=10\/k=11:=by omega
structure BlV (mg:Str->Option Value):Prop where
 ve:mg "ValueError"=none
section
variable {P:Program}{w:World}{K:PySem.W.Frag}{mg:Str->Option Value}{base:Heap}{T U:Addr}{et:Array DictEntry}{c:Nat->Ec}
theorem Cs.kit (S:Cs K mg T U et c){j k:Nat}(hj:j<12)(hk:k<12):PySem.W.kitOne K (.ref (c k).C) (.ref (c j).C)=some (decide (j=k)):=by
 rw[(S.ok k hk).c.kitR (S.ok j hj).c]
 have e1:(Value.ref (c j).C == Value.ref T)=false:=by
  refine Bool.eq_false_iff.mpr fun q=>S.neT j hj (Value.ref.inj (beq_iff_eq.mp q))
 congr 1
 rw[List.contains_cons,List.contains_cons,e1]
 by_cases q:j=k
 ·subst q;simp
 ·have e2:(Value.ref (c j).C == Value.ref (c k).C)=false:=Bool.eq_false_iff.mpr fun z=>q (S.inj j k hj hk (Value.ref.inj (beq_iff_eq.mp z)))
  rw[e2,decide_eq_false q]
  rfl
def ZlP (c:Nat->Ec):List V->Hp->VK->Prop:=fun xs H Q=>∃a k d,xs=[.ref a,.ty "ValueError"]/\k<12/\H a=some (exO a (c k).C d)/\Q (.bl true) H
theorem isV {X:Cx}(S:Cs K mg T U et c)(hI:K.In base)(hK:X.K=K:=by rfl)(hB:X.base=base:=by rfl):ZP X (.builtin "isinstance") (ZlP c):=by
 subst hK hB
 intro pins s σ H xs us Q I r h
 obtain⟨a,k,d,rfl,hk,ha,q⟩:=h
 obtain⟨cd,h1,_⟩:=(S.ok k hk).c.cls
 refine Zgy pins s σ H _ us Q I r ⟨a,_,d,_,T,U,_,_,_,cd,_,_,rfl,ha,h1,(S.ok k hk).noC S.tb,(S.ok k hk).two S.tb hI,fun cv rc=>?_,q⟩
 cases (show cv=Value.type "ValueError" from rc)
 exact (S.ok k hk).c.kitV
theorem Cs.any (S:Cs K mg T U et c){k:Nat}(hk:k<12):∀(js:List Nat) (its:List Value),(∀j∈js,j<12)->ZB (js.map fun j=>V.ref (c j).C) its->PySem.W.kitAny K (.ref (c k).C) its=some (js.any fun j=>decide (j=k))
 | [],its,_,h=>by cases h;rfl
 |j::js,its,hl,h=>by
  cases h with
  |cons r rs=>
   cases (show _=Value.ref (c j).C from r)
   have ih:=S.any hk js _ (fun i hi=>hl i (List.mem_cons_of_mem _ hi)) rs
   have h1:=S.kit (hl j List.mem_cons_self) hk
   unfold PySem.W.kitAny
   rw[h1,List.any_cons]
   by_cases e:j=k
   ·rw[decide_eq_true e];rfl
   ·rw[decide_eq_false e];exact ih
def ZlQ (c:Nat->Ec):List V->Hp->VK->Prop:=fun xs H Q=>∃(a:Addr) (k:Nat) (d:Option Addr) (tp:Addr) (js:List Nat),xs=[.ref a,.ref tp]/\k<12/\(∀j∈js,j<12)/\H a=some (exO a (c k).C d)/\H tp=some (.tup (js.map fun j=>V.ref (c j).C))/\Q (.bl (js.any fun j=>decide (j=k))) H
theorem isT {X:Cx}(S:Cs K mg T U et c)(hI:K.In base)(hK:X.K=K:=by rfl)(hB:X.base=base:=by rfl):ZP X (.builtin "isinstance") (ZlQ c):=by
 subst hK hB
 intro pins s σ H xs us Q I r h
 obtain⟨a,k,d,tp,js,rfl,hk,hj,ha,ht,q⟩:=h
 obtain⟨cd,h1,_⟩:=(S.ok k hk).c.cls
 exact Zev pins s σ H _ us Q I r ⟨a,_,d,_,T,U,_,_,_,cd,tp,_,_,rfl,ha,ht,h1,(S.ok k hk).noC S.tb,(S.ok k hk).two S.tb hI,fun its rv=>S.any hk js its hj rv,q⟩
theorem clv {X:Cx}{x:Str}{C:Addr}{pos:Pos}(hm:X.mg x=some (.ref C))(hg:YL X.env.scope x=true:=by kernel_rfl)(hd:(x == ("__debug__":Str))=false:=by kernel_rfl):PE X (.Name x pos) (tC (.ref C)):=ZcV (WT hg) hm rfl hd
end
end C23
namespace Tb
variable {t:List (List Nat)}
theorem Xq {a b:List Nat}(ha:a.Pairwise (· < ·))(hb:b.Pairwise (· < ·))(h:∀x,x∈a↔x∈b):a=b:=by
 have p:a.Perm b:=(List.perm_ext_iff_of_nodup (Ux ha) (Ux hb)).mpr h
 exact List.Perm.eq_of_pairwise (le:=fun x y:Nat=>x<y) (fun x y _ _ h1 h2=>absurd h1 (Nat.lt_asymm h2)) ha hb p
theorem Zfp (P:PW t){gs:List Nat}(hg:∀g∈gs,g<t.length):prtL t.length (YQ t gs)=gs↔(0∈gs/\gs.Pairwise (· < ·)/\∀a∈gs,∀b∈gs,ZA t a b∈gs):=by
 constructor
 ·intro e
  have h0:0∈prtL t.length (YQ t gs):=Z7.mpr ⟨P.n1,.zero⟩
  have h1:(prtL t.length (YQ t gs)).Pairwise (· < ·):=Wl
  have h2:=(Zcw P hg).cl
  rw[e] at h0 h1 h2
  exact⟨h0,h1,h2⟩
 ·rintro⟨h0,h1,h2⟩
  refine Xq Wl h1 fun x=>?_
  rw[Z7]
  constructor
  ·rintro⟨_,r⟩
   exact r.sub h0 fun y hy z hz=>by
    obtain⟨b,hb,rfl⟩:=List.mem_map.mp hz
    exact h2 y hy b hb
  ·intro hx
   exact⟨hg x hx,UI P hx (hg x hx)⟩
end Tb
namespace Tb
open Pm
section
variable {t:List (List Nat)}{o:List Nat}
theorem ZgZ (P:PW t)(S:Sub t o){rss:List (List Nat)}(x:ZZ t o rss){y:Nat}(hy:y<t.length):rss.getD (Yi rss y) []=sC t o y/\Yi rss y<rss.length:=by
 have D:=Jm P S x.pm
 have hl:=D.lt y hy
 have hm:=(D.mem _ y hl).mpr ⟨hy,rfl⟩
 obtain⟨a,ha,e⟩:=x.row (List.mem_of_getElem? (gD hl))
 rw[e] at hm ⊢
 exact⟨(VX P S ha hm).symm,hl⟩
theorem Zg2 (P:PW t)(S:Sub t o):∃r,sC t o 0=0::r:=by
 have h0:=Wv P S P.n1
 have hs:=JI (t:=t) (o:=o) 0
 generalize sC t o 0=l at h0 hs
 cases l with
 |nil=>cases h0
 |cons x r=>
  rcases List.mem_cons.mp h0 with h|h
  ·exact⟨r,by rw[h]⟩
  ·have:=(List.pairwise_cons.mp hs).1 0 h
   omega
theorem ZZ.first (P:PW t)(S:Sub t o){rss:List (List Nat)}(x:ZZ t o rss):rss.getD 0 []=sC t o 0/\1<=rss.length:=by
 have hm:sC t o 0∈rss:=x.pm.mem_iff.mpr (WX _ _ P.n1)
 obtain⟨r0,e0⟩:=Zg2 P S
 cases rss with
 |nil=>cases hm
 |cons f rest=>
  refine⟨?_,by rw[Zi];omega⟩
  show f=_
  rcases List.mem_cons.mp hm with h|h
  ·exact h.symm
  ·have hlt:=(List.pairwise_cons.mp x.so).1 _ h
   obtain⟨a,ha,rfl⟩:=x.row (List.mem_cons_self)
   have hself:=Wv P S ha
   by_cases hz:0∈sC t o a
   ·exact (VX P S ha hz).symm
   ·exfalso
    rw[e0] at hlt
    cases e:sC t o a with
    |nil=>rw[e] at hself;cases hself
    |cons y r=>
     rw[e] at hlt hz
     have hy:y≠0:=fun z=>hz (z▸List.mem_cons_self)
     unfold nJ at hlt
     rw[List.map_cons,List.map_cons,PyZ.WR,if_neg (by omega)] at hlt
     have:=of_decide_eq_false hlt
     omega
end
theorem ZkK {t:List (List Nat)}(n1:1<=t.length)(n60:t.length<=60)(len:∀row∈t,row.length=t.length)(lt:∀a b,a<t.length->b<t.length->ZA t a b<t.length)(one:∀a,a<t.length->ZA t 0 a=a)(oneR:∀a,a<t.length->ZA t a 0=a)
  (ass:∀a b c,a<t.length->b<t.length->c<t.length->ZA t (ZA t a b) c=ZA t a (ZA t b c)) (inv:∀a,a<t.length->∃b,b<t.length/\ZA t a b=0/\ZA t b a=0):PW t:=by
 have itl:∀a,a<t.length->∀k,it t a k<t.length:=fun a ha k=>by
  induction k with
  |zero=>exact n1
  |succ k ih=>exact lt _ _ ih ha
 have lc:∀x u v,x<t.length->u<t.length->v<t.length->ZA t x u=ZA t x v->u=v:=fun x u v hx hu hv h=>by
  obtain⟨y,hy,_,h2⟩:=inv x hx
  have e:∀w,w<t.length->ZA t y (ZA t x w)=w:=fun w hw=>by rw[<-ass y x w hy hx hw,h2,one w hw]
  rw[<-e u hu,<-e v hv,h]
 have rc:∀x u v,x<t.length->u<t.length->v<t.length->ZA t u x=ZA t v x->u=v:=fun x u v hx hu hv h=>by
  obtain⟨y,hy,h1,_⟩:=inv x hx
  have e:∀w,w<t.length->ZA t (ZA t w x) y=w:=fun w hw=>by rw[ass w x y hw hx hy,h1,oneR w hw]
  rw[<-e u hu,<-e v hv,h]
 have itp:∀a,a<t.length->∀j m,it t a (j+m)=ZA t (it t a j) (it t a m):=fun a ha j m=>by
  induction m with
  |zero=>exact (oneR _ (itl a ha j)).symm
  |succ m ih=>
   show ZA t (it t a (j+m)) a=ZA t (it t a j) (ZA t (it t a m) a)
   rw[ih,ass _ _ _ (itl a ha j) (itl a ha m) ha]
 have some0:∀a,a<t.length->∃k,1<=k/\k<=t.length/\it t a k=0:=fun a ha=>by
  apply Classical.byContradiction
  intro hno
  have hno:∀k,1<=k->k<=t.length->it t a k≠0:=fun k h1 h2 e=>hno ⟨k,h1,h2,e⟩
  have nd:((List.range (t.length+1)).map fun k=>it t a k).Nodup:=by
   refine List.Pairwise.map _ (R:=fun j k=>j<k/\k<t.length+1) (fun j k h e=>?_) (List.Pairwise.imp_of_mem (R:=(· < ·)) (fun {j k} _ hk h=>⟨h,List.mem_range.mp hk⟩) List.pairwise_lt_range)
   have hp:=itp a ha j (k-j)
   rw[show j+(k-j)=k by omega,<-e] at hp
   have h0:ZA t (it t a j) 0=ZA t (it t a j) (it t a (k-j)):=by rw[oneR _ (itl a ha j)];exact hp
   exact hno (k-j) (by omega) (by omega) (lc _ _ _ (itl a ha j) n1 (itl a ha _) h0).symm
  have:=PyS.WA _ (List.range t.length) nd fun x hx=>by
   obtain⟨k,_,rfl⟩:=List.mem_map.mp hx
   exact List.mem_range.mpr (itl a ha k)
  rw[Za,Zg,Zg] at this
  omega
 have Za1:∀a,a<t.length->∃r,1<=r/\r<=t.length/\it t a r=0/\∀k,1<=k->k<r->it t a k≠0:=fun a ha=>by
  obtain⟨k,k1,kn,kz⟩:=some0 a ha
  rcases PyS.Za1 (P:=fun j=>¬(1<=j/\it t a j=0)) (k+1) with h|⟨r,hr,h1,h2⟩
  ·exact absurd ⟨k1,kz⟩ (h k (by omega))
  ·have h1:=Classical.not_not.mp h1
   exact⟨r,h1.1,by omega,h1.2,fun j j1 jr e=>h2 j jr ⟨j1,e⟩⟩
 have lag:∀a r,a<t.length->1<=r->it t a r=0->(∀k,1<=k->k<r->it t a k≠0)->∀(m:Nat) (S:List Nat),S.length=m->S.Nodup->(∀x∈S,x<t.length)->(∀x∈S,ZA t x a∈S)->S.length % r=0:=by
  intro a r ha r1 rz rnz m
  have inj:∀j k,k<r->j<k->it t a j≠it t a k:=fun j k hk hjk e=>by
   have h:=itp a ha j (k-j)
   rw[show j+(k-j)=k by omega,<-e] at h
   have h0:ZA t (it t a j) 0=ZA t (it t a j) (it t a (k-j)):=by rw[oneR _ (itl a ha j)];exact h
   exact rnz (k-j) (by omega) (by omega) (lc _ _ _ (itl a ha j) n1 (itl a ha _) h0).symm
  have ostep:∀x,x<t.length->∀k,ZA t (ZA t x (it t a k)) a=ZA t x (it t a (k+1)):=fun x hx k=>by rw[ass _ _ _ hx (itl a ha k) ha];rfl
  induction m using Nat.strongRecOn with
  |_ m ih=>
   intro S hm nd lt' cl
   cases S with
   |nil=>exact Nat.zero_mod r
   |cons x S0=>
    have hx:x<t.length:=lt' x List.mem_cons_self
    generalize hS:x::S0=S at *
    have hxS:x∈S:=by rw[<-hS];exact List.mem_cons_self
    have inS:∀k,ZA t x (it t a k)∈S:=fun k=>by
     induction k with
     |zero=>show ZA t x 0∈S;rw[oneR x hx];exact hxS
     |succ k ihk=>rw[<-ostep x hx k];exact cl _ ihk
    have nd2:(orb t a r x).Nodup:=by
     unfold orb
     refine List.Pairwise.map _ (R:=fun j k=>j<k/\k<r) (fun j k h e=>?_) ?_
     ·exact inj j k h.2 h.1 (lc _ _ _ hx (itl a ha j) (itl a ha k) e)
     ·exact List.Pairwise.imp_of_mem (R:=(· < ·)) (fun {j k} _ hk h=>⟨h,List.mem_range.mp hk⟩) List.pairwise_lt_range
    have perm:List.Perm S (orb t a r x++S.filter fun y=>!(orb t a r x).contains y):=by
     refine (List.perm_ext_iff_of_nodup nd ?_).mpr fun y=>?_
     ·refine List.nodup_append.mpr ⟨nd2,nd.sublist List.filter_sublist,fun u hu v hv e=>?_⟩
      have:=(List.mem_filter.mp hv).2
      rw[<-e,List.contains_iff_mem.mpr hu] at this
      cases this
     ·rw[List.mem_append,List.mem_filter]
      constructor
      ·intro hy
       by_cases ho:y∈orb t a r x
       ·exact .inl ho
       ·refine .inr ⟨hy,?_⟩
        cases q:(orb t a r x).contains y with
        |false=>rfl
        |true=>exact absurd (List.contains_iff_mem.mp q) ho
      ·rintro (h|h)
       ·unfold orb at h
        obtain⟨k,_,rfl⟩:=List.mem_map.mp h
        exact inS k
       ·exact h.1
    have ln:=perm.length_eq
    rw[Zd,show (orb t a r x).length=r by unfold orb;rw[Za,Zg]] at ln
    rw[ln,Nat.add_mod_left]
    refine ih _ (by omega) _ rfl (nd.sublist List.filter_sublist) (fun y hy=>lt' y (List.mem_filter.mp hy).1) fun y hy=>?_
    obtain⟨hyS,hyo⟩:=List.mem_filter.mp hy
    refine List.mem_filter.mpr ⟨cl y hyS,?_⟩
    cases q:(orb t a r x).contains (ZA t y a) with
    |false=>rfl
    |true=>
     exfalso
     have hyn:y∉orb t a r x:=fun z=>by rw[List.contains_iff_mem.mpr z] at hyo;cases hyo
     have q:=List.contains_iff_mem.mp q
     unfold orb at q hyn
     obtain⟨k,hk,e⟩:=List.mem_map.mp q
     have hk:=List.mem_range.mp hk
     have:∃j,j<r/\ZA t x (it t a (j+1))=ZA t x (it t a k):=by
      cases k with
      |zero=>exact⟨r-1,by omega,by rw[show r-1+1=r by omega,rz];rfl⟩
      |succ k=>exact⟨k,by omega,rfl⟩
     obtain⟨j,hj,ej⟩:=this
     rw[<-ej,<-ostep x hx j] at e
     have:=rc _ _ _ ha (lt _ _ hx (itl a ha j)) (lt' y hyS) e
     exact hyn (List.mem_map.mpr ⟨j,List.mem_range.mpr hj,this⟩)
 refine⟨n1,n60,len,lt,one,fun a ha=>?_,oneR,ass⟩
 obtain⟨r,r1,rn,rz,rnz⟩:=Za1 a ha
 have bk:ZA t a (it t a (r-1))=0:=by
  have h:=itp a ha 1 (r-1)
  rw[show 1+(r-1)=r by omega,rz] at h
  have e1:it t a 1=a:=one a ha
  rw[e1] at h
  exact h.symm
 refine⟨r,r1,rn,?_,rz,rnz,bk,fun b hb e=>lc a b _ ha hb (itl a ha _) (e.trans bk.symm)⟩
 have:=lag a r ha r1 rz rnz _ (List.range t.length) rfl List.nodup_range (fun x hx=>List.mem_range.mp hx) fun x hx=>List.mem_range.mpr (lt _ _ (List.mem_range.mp hx) ha)
 rwa [Zg] at this
section
variable {t:List (List Nat)}{o:List Nat}
def Kep (t:List (List Nat))(o:List Nat):Prop:=∀y∈Wg t o,y∈o
theorem ZfV (P:PW t)(k:Kep t o){h x:Nat}(hh:h∈o)(hx:x<t.length):tb t h x∈o:=k _ (YY.mpr ⟨h,hh,x,hx,rfl⟩)
section
variable {rss:List (List Nat)}
theorem ZbZ (P:PW t)(S:Sub t o)(X:ZZ t o rss){x y:Nat}(hx:x<t.length)(hy:y<t.length):Yi rss y=Yi rss x↔y∈sC t o x:=by
 obtain⟨e,hl⟩:=ZgZ P S X hx
 have D:=Jm P S X.pm
 rw[<-e,D.mem _ y hl]
 exact⟨fun h=>⟨hy,h⟩,fun h=>h.2⟩
theorem Zhv (P:PW t)(S:Sub t o)(K:Kep t o)(X:ZZ t o rss){a b a' b':Nat}(ha:a<t.length)(hb:b<t.length)(ha':a'<t.length)(hb':b'<t.length)(ea:Yi rss a'=Yi rss a)(eb:Yi rss b'=Yi rss b):Yi rss (ZA t a' b')=Yi rss (ZA t a b):=by
 rw[ZbZ P S X ha ha'] at ea
 rw[ZbZ P S X hb hb'] at eb
 rw[ZbZ P S X (P.lt _ _ ha hb) (P.lt _ _ ha' hb')]
 obtain⟨_,h,hh,rfl⟩:=Z9.mp ea
 obtain⟨_,k,hk,rfl⟩:=Z9.mp eb
 have hl:=S.lt h hh
 have kl:=S.lt k hk
 have bb:=YN P hb
 have hc:tb t h (XA t b)∈o:=ZfV P K hh bb.1
 refine Z9.mpr ⟨P.lt _ _ ha' hb',ZA t (tb t h (XA t b)) k,S.cl _ hc _ hk,?_⟩
 have cl:=S.lt _ hc
 unfold tb at hc cl ⊢
 rw[ZhV P hb] at hc cl ⊢
 have bh:=P.lt _ _ bb.1 hl
 have hbk:=P.lt _ _ hl (P.lt _ _ hb kl)
 rw[P.ass a b _ ha hb (P.lt _ _ cl kl),P.ass _ b k bh hb kl,P.ass _ h _ bb.1 hl (P.lt _ _ hb kl),<-P.ass b _ _ hb bb.1 hbk,bb.2,P.one _ hbk,P.ass a h _ ha hl (P.lt _ _ hb kl)]
def qF (t rss:List (List Nat))(i j:Nat):Nat:=Yi rss (ZA t ((rss.getD i []).getD 0 0) ((rss.getD j []).getD 0 0))
def qT (t rss:List (List Nat)):List (List Nat):=mkT rss.length rss.length (qF t rss)
theorem Zil (P:PW t)(S:Sub t o)(K:Kep t o)(X:ZZ t o rss){a b:Nat}(ha:a<t.length)(hb:b<t.length):qF t rss (Yi rss a) (Yi rss b)=Yi rss (ZA t a b):=by
 have D:=Jm P S X.pm
 obtain⟨r1,r2⟩:=D.rep (D.lt a ha)
 obtain⟨q1,q2⟩:=D.rep (D.lt b hb)
 exact Zhv P S K X ha hb r1 q1 r2 q2
theorem ZfE (P:PW t)(S:Sub t o)(X:ZZ t o rss):Yi rss 0=0:=by
 obtain⟨e,hl⟩:=X.first P S
 have D:=Jm P S X.pm
 exact ((D.mem 0 0 (by omega)).mp (by rw[e];exact Wv P S P.n1)).2
theorem Zg6 (P:PW t)(S:Sub t o)(K:Kep t o)(X:ZZ t o rss):PW (qT t rss):=by
 have D:=Jm P S X.pm
 have L:(qT t rss).length=rss.length:=UW
 have m1:=D.m1
 have rep:∀i,i<rss.length->(rss.getD i []).getD 0 0<t.length/\Yi rss ((rss.getD i []).getD 0 0)=i:=fun i hi=>D.rep hi
 have at_:∀i j,i<rss.length->j<rss.length->ZA (qT t rss) i j=qF t rss i j:=fun i j hi hj=>Zb5 hi hj
 have qn:∀i j,i<rss.length->j<rss.length->ZA (qT t rss) i j=Yi rss (ZA t ((rss.getD i []).getD 0 0) ((rss.getD j []).getD 0 0)):=fun i j hi hj=>at_ i j hi hj
 have key:∀a b,a<t.length->b<t.length->ZA (qT t rss) (Yi rss a) (Yi rss b)=Yi rss (ZA t a b):=fun a b ha hb=>by
  rw[at_ _ _ (D.lt a ha) (D.lt b hb)]
  exact Zil P S K X ha hb
 have z0:=ZfE P S X
 have lt':∀i j,i<rss.length->j<rss.length->ZA (qT t rss) i j<rss.length:=fun i j hi hj=>by
  rw[qn i j hi hj]
  exact D.lt _ (P.lt _ _ (rep i hi).1 (rep j hj).1)
 have n60:=P.n60
 have rl:rss.length<=t.length:=by rw[X.pm.length_eq];exact JW _
 refine ZkK (by rw[L];exact m1) (by rw[L];omega) (fun row hr=>?_) (by rw[L];exact lt') (fun i hi=>?_) (fun i hi=>?_) (fun i j k hi hj hk=>?_) (fun i hi=>?_)
 ·unfold qT mkT at hr
  obtain⟨a,ha,rfl⟩:=List.mem_map.mp hr
  rw[L,Za,Zg]
 ·rw[L] at hi
  obtain⟨r1,r2⟩:=rep i hi
  have:=key 0 _ P.n1 r1
  rw[z0,r2,P.one _ r1,r2] at this
  exact this
 ·rw[L] at hi
  obtain⟨r1,r2⟩:=rep i hi
  have:=key _ 0 r1 P.n1
  rw[z0,r2,P.oneR _ r1,r2] at this
  exact this
 ·rw[L] at hi hj hk
  obtain⟨r1,r2⟩:=rep i hi
  obtain⟨q1,q2⟩:=rep j hj
  obtain⟨s1,s2⟩:=rep k hk
  have e1:=key _ _ r1 q1
  have e2:=key _ _ q1 s1
  rw[r2,q2] at e1
  rw[q2,s2] at e2
  have e3:=key _ _ (P.lt _ _ r1 q1) s1
  have e4:=key _ _ r1 (P.lt _ _ q1 s1)
  rw[s2] at e3
  rw[r2] at e4
  rw[e1,e2,e3,e4,P.ass _ _ _ r1 q1 s1]
 ·rw[L] at hi
  obtain⟨r1,r2⟩:=rep i hi
  have bb:=YN P r1
  refine⟨Yi rss (XA t ((rss.getD i []).getD 0 0)),by rw[L];exact D.lt _ bb.1,?_,?_⟩
  ·have:=key _ _ r1 bb.1
   rw[r2,bb.2,z0] at this
   exact this
  ·have:=key _ _ bb.1 r1
   rw[r2,Zdu P r1,z0] at this
   exact this
theorem Vm {c:Nat}:∀{rss:List (List Nat)},(∀r∈rss,r.length=c)->rss.flatten.length=rss.length*c
 | [],_=>by simp
 |r::rss,h=>by
  rw[List.flatten_cons,Zd,Vm fun r hr=>h r (List.mem_cons_of_mem _ hr),h r List.mem_cons_self,Zi,Nat.succ_mul,Nat.add_comm]
theorem Zft (P:PW t)(S:Sub t o)(X:ZZ t o rss):rss.length*o.length=t.length:=by
 rw[<-Vm (c:=o.length) fun r hr=>by obtain⟨a,ha,rfl⟩:=X.row hr;exact Ze4 P S ha,(X.flat P S).length_eq,Zg]
theorem ZcW (P:PW t)(S:Sub t o)(K:Kep t o)(X:ZZ t o rss){i j a b:Nat}(hi:i<rss.length)(hj:j<rss.length)(ha:a∈rss.getD i [])(hb:b∈rss.getD j []):ZA t a b∈rss.getD (qF t rss i j) []/\qF t rss i j<rss.length:=by
 have D:=Jm P S X.pm
 obtain⟨al,ea⟩:=(D.mem i a hi).mp ha
 obtain⟨bl,eb⟩:=(D.mem j b hj).mp hb
 have e:=Zil P S K X al bl
 rw[ea,eb] at e
 have l:qF t rss i j<rss.length:=by rw[e];exact D.lt _ (P.lt _ _ al bl)
 exact⟨(D.mem _ _ l).mpr ⟨P.lt _ _ al bl,e.symm⟩,l⟩
end
theorem Zcx (P:PW t):Sub t [0]:=by
 refine⟨Zq _,by simp,fun v hv=>?_,rfl,fun a ha b hb=>?_⟩
 ·rw[List.mem_singleton.mp hv];exact P.n1
 ·rw[List.mem_singleton.mp ha,List.mem_singleton.mp hb,P.one 0 P.n1];exact List.mem_singleton.mpr rfl
theorem Ze3 (P:PW t){a:Nat}(ha:a<t.length):sC t [0] a=[a]:=by
 refine Xq (JI a) (by simp) fun x=>?_
 rw[Z9,List.mem_singleton]
 constructor
 ·rintro⟨_,h,hh,rfl⟩
  rw[List.mem_singleton.mp hh,P.oneR a ha]
 ·rintro rfl
  exact⟨ha,0,List.mem_singleton.mpr rfl,P.oneR x ha⟩
theorem Zfs (P:PW t){rss:List (List Nat)}(X:ZZ t [0] rss):qT t rss=t:=by
 have e:rss=(List.range t.length).map fun a=>[a]:=by
  refine X.uniq (ZZ.mk' ?_ (fun r=>?_) ?_)
  ·exact List.Pairwise.map _ (fun a b (h:a≠b) e=>h (by simpa using e)) List.nodup_range
  ·rw[List.mem_map]
   constructor
   ·rintro⟨a,ha,rfl⟩
    have ha:=List.mem_range.mp ha
    exact⟨a,ha,(Ze3 P ha).symm⟩
   ·rintro⟨a,ha,rfl⟩
    exact⟨a,List.mem_range.mpr ha,(Ze3 P ha).symm⟩
  ·refine List.Pairwise.map _ (fun a b (h:a<b)=>?_) List.pairwise_lt_range
   show PyZ.Xv [(b:Int)] [(a:Int)]=false
   rw[PyZ.WR,if_neg (by omega)]
   exact decide_eq_false (by omega)
 have L:rss.length=t.length:=by rw[e,Za,Zg]
 have at_:∀a,a<t.length->rss.getD a []=[a]:=fun a ha=>by rw[e,Zb,Zc,List.getElem?_range ha];rfl
 have D:=Jm P (Zcx P) X.pm
 have num:∀a,a<t.length->Yi rss a=a:=fun a ha=>((D.mem a a (by omega)).mp (by rw[at_ a ha];exact List.mem_singleton.mpr rfl)).2
 unfold qT
 rw[L]
 rw[Zd2 (g:=ZA t) fun a b ha hb=>?_]
 ·exact (ZjD rfl fun a ha=>Yh P ha).symm
 ·unfold qF
  rw[at_ a ha,at_ b hb]
  exact num _ (P.lt _ _ ha hb)
theorem Zfu (P:PW t){rss:List (List Nat)}(X:ZZ t (List.range t.length) rss):qT t rss=[[0]]:=by
 have L:rss.length=1:=by rw[X.pm.length_eq];exact Zgr P
 have D:=Jm P (VQ P) X.pm
 have n:=D.lt _ (P.lt _ _ (D.rep (k:=0) (by omega)).1 (D.rep (k:=0) (by omega)).1)
 unfold qT mkT
 rw[L]
 show [[qF t rss 0 0]]=[[0]]
 have:qF t rss 0 0=0:=by
  unfold qF
  omega
 rw[this]
theorem U4 (P:PW t):Kep t [0]:=fun y hy=>by
 obtain⟨b,hb,x,hx,rfl⟩:=YY.mp hy
 rw[List.mem_singleton.mp hb]
 unfold tb
 rw[P.oneR x hx,(YN P hx).2]
 exact List.mem_singleton.mpr rfl
theorem ZhH (P:PW t):Kep t (List.range t.length):=fun y hy=>List.mem_range.mpr (Jz P (fun g hg=>List.mem_range.mp hg) y hy)
end
end Tb
namespace L2
open PySem PySem.Spec PyProof.Rows
section
variable {X:Cx}
theorem ZdR:Jj X (compareOp .IsNot) (fun x y H Q=>∃a b,x=.bl a/\y=.bl b/\Q (.bl (!decide (a=b))) H):=by
 intro pins s σ H x y v u Q I rx ry h
 obtain⟨a,b,rfl,rfl,q⟩:=h
 cases rx
 cases ry
 exact isnot_bool (ZG I q (by cases a <;> cases b <;> rfl))
end
end L2
namespace C23
open PySem L2 PySem.Spec PyProof.Rows
open Tb Pm
abbrev Zic:Stmt:=top 34
theorem ZaJ {rs:List Addr}{i:Nat}{r:Addr}(h:rs[i]?=some r):atI (rs.map V.ref) (i:Int)=some (.ref r):=YV (by rw[Zc,h];rfl)
theorem Zhu {l:List Nat}{i:Nat}(h:i<l.length):atI (l.map nV) (i:Int)=some (.int (l.getD i 0:Nat)):=YV (by rw[Zc,YC h];rfl)
theorem Zde {t:List (List Nat)}{rss:List (List Nat)}{num:Nat->Nat}(S:Sd t rss.length rss num){x:Nat}(hx:x<t.length):∀k,num x<k->k<=rss.length->J4 rss k x=num x
 |0,h,_=>absurd h (Nat.not_lt_zero _)
 |k+1,h,hk=>by
  unfold J4
  by_cases e:num x=k
  ·rw[if_pos (List.contains_iff_mem.mpr ((S.mem k x (by omega)).mpr ⟨hx,e⟩))]
   exact e.symm
  ·rw[if_neg]
   ·exact Zde S hx k (by omega) (by omega)
   ·intro z
    exact e ((S.mem k x (by omega)).mp (List.contains_iff_mem.mp z)).2
theorem Zci {J:It}{own:List Str}{caps:List Nat}{te:TE}{σ:L2.St}{H:Hp}{Q:VK}{xs:List V}(S:Wq J H xs)(cs:L2.St)(hcs:XE own caps σ=none::cs)(hn:xs.length<=1000)(F:Nat->List Nat)
  (hs:∀(i:Nat) y,xs[i]?=some y->∀H',Same H H'->∀R:VK,(∀r H5,Same H' H5->Tz H5 r ((F i).map nV)->R (.ref r) H5)->te (some y::cs) H' R)
  (hd:∀D (ws:List Addr) H',H D=none->Same H H'->H' D=some (.lst (ws.map V.ref))->ws.length=xs.length->(∀(i:Nat) w,ws[i]?=some w->Tz H' w ((F i).map nV))->Q (.ref D) H'):J3 own caps (Yl 0) Jl te σ Q J H:=by
 refine Vr (W:=Addr) id (fun i w H=>Tz H w ((F i).map nV)) (fun _ _=>True) S cs hcs hn (fun i w H H' s h=>h.mono s) (fun w H H' s h=>trivial) (fun i w H0 H1 D o ys ys' h h0 h1 h2=>Tz.updL h h2) (fun i y hy H' s R k=>hs i y hy H' s R fun r H5 s5 h5=>k r H5 s5 h5 trivial) fun D ws H' nD s hD wl hw _=>hd D ws H' nD s hD wl fun i w hi=>(hw i w hi).1
theorem ZhN {H:Hp}{c:Addr}{ws:List Addr}{n:Nat}{F:Nat->List Nat}(hc:H c=some (.tup (ws.map V.ref)))(wl:ws.length=n)(hw:∀(i:Nat) w,ws[i]?=some w->Tz H w ((F i).map nV)):GT H c ((List.range n).map F):=by
 refine⟨ws,hc,by rw[Za,Zg];exact wl,fun i r hr=>?_⟩
 have hi:=(List.getElem?_eq_some_iff.mp hr).1
 rw[Zb,Zc,List.getElem?_range (by omega)]
 exact hw i r hr
structure Pa (t:List (List Nat))(o:List Nat):Prop where
 s:Sub t o
 k:prtL t.length (YQ t (Wg t o))=o↔Kep t o
theorem UT {t:List (List Nat)}(P:PW t){gs:List Nat}(hg:∀g∈gs,g<t.length):Pa t (prtL t.length (YQ t gs)):=⟨Zcw P hg,ZfU P hg⟩
def Ut (K:PySem.W.Frag)(Pt:Addr)(c:Nat->Ec):Sp:=fun vs H Q E=>∃(g a:Addr) (t:List (List Nat)) (o:List Nat),vs=[.ref g,.ref a]/\GT H g t/\PW t/\Pa t o/\H a=some (.tup (o.map nV))/\J5 H Pt WO Wj/\
 (Kep t o->∀r rss H',Bt Pt H H'->J5 H' Pt WO Wj->ZZ t o rss->GT H' r (qT t rss)->Q (.ref r) H')/\(¬Kep t o->∀H',Bt Pt H H'->J5 H' Pt WO Wj->E (.ref (c 9).C) none H')
section
variable {P:Program}{w:World}{K:PySem.W.Frag}{mg:Str->Option Value}{base:Heap}{T U:Addr}{et:Array DictEntry}{c:Nat->Ec}
theorem Zhn {f Pt:Addr}{fd:FuncData}(F:Wf K "over" "over" Zic f fd)(B:Bl mg)(S:Cs K mg T U et c)(hI:K.In base)(GI:Fn P w K mg base Z2 5 "is_kept" ["group", "part"] (Zay K Pt))(GSd:Fn P w K mg base Z2 1 "sides" ["group", "part"] (Ur K))(GH:Fn P w K mg base Z2 1 "holders" ["bundles", "count"] ZeQ) :
  ZQ P w K mg base (CXE P w) 6 f fd ["group", "part"] (Ut K Pt c):=by
 obtain⟨oc,od,kV,doc,pm,an,cdv,ct0,osl,rfl,lk,hcd⟩:=F.ex
 refine Zf8 lk hcd (FS (N:=["group", "part", "found", "lies"])) (fun vs H Q E h=>?_) fun A outer s H vs Q E hr h=>?_
 ·obtain⟨g,a,t,o,rfl,_⟩:=h;rfl
 ·obtain⟨g,a,t,o,rfl,G,Pt1,Ps,ha,TB,q,qE⟩:=h
  have two:PyX.Uq base (c 9).C (c 9).N T U PyX.Jk (nsFind (c 9).es) (nsFind et):=(S.ok 9 (by decide)).two S.tb hI
  refine⟨_,Zu (Z3 (Ww (YJ (We GI hr ZK (pc (vn 0) (pc (vn 1) Zs))))) (Zv (ZdL rfl two (S.pl 9 (by decide) (by decide)) fVE (WT (by kernel_rfl)) (S.mgC 9 (by decide)) (S.ok 9 (by decide)).c.kp (pc Yn Zs) ZbA (by kernel_rfl))) ZJ)
   (Zu (ZR 2 rfl (We GSd hr ZK (pc (vn 0) (pc (vn 1) Zs))))
   (Zu (ZR 3 rfl (We GH hr ZK (pc (vn 2) (pc (cb (YA K) B.len (pc (vn 0) Zs)) Zs))))
   (Zv (ZC (ct (tupK K) B.tuple (pc (cmp ["one"] [2,3,0] ["one", "found", "lies", "group"] rfl (itT K (vn 2)) (fun _ _ _ _ _=>gnf 0 rfl) (fun _ _ _ _ _=>ZW) (fun _ _ _ _ _=>ct (Zh4 K) (by exact B.tuple) (pc (cmp ["other"] [2,3,0] ["other", "lies", "group", "one"] rfl (itT K (vn 1)) (fun _ _ _ _ _=>gn 0) (fun _ _ _ _ _=>ZW) (fun _ _ _ _ _=>ZE (Wn K) (vn 1) (ZE (Wn K) (ZE (Wn K) (vn 2) (ZE (Wn K) (vn 3) Zz (fun _ _=>rfl)) (fun _ _=>rfl)) (ZE (Wn K) (vn 0) Zz (fun _ _=>rfl)) (fun _ _=>rfl)) (fun _ _=>rfl))) Zs))) Zs)))))),?_⟩
  have n1:=Pt1.n1
  have n60:=Pt1.n60
  have So:=Ps.s
  have o60:o.length<=60:=by have:=V4 _ _ So.nd So.lt;omega
  refine⟨_,rfl,_,rfl,g,a,t,o,rfl,G,Pt1,ha,by omega,So.lt,TB,fun H1 b1 t1=>⟨_,rfl,?_⟩⟩
  refine JS (fun hk=>?_) (fun hk=>?_)
  ·have hk:¬Kep t o:=fun z=>by
    rw[decide_eq_true (Ps.k.mpr z)] at hk
    cases hk
   exact⟨(by show 1<=sizeLine;decide),qE hk H1 b1 t1⟩
  ·have hk:Kep t o:=Ps.k.mp (by simpa using hk)
   have bt:∀{x:Addr}{u:HO},H x=some u->(∀ps,u≠.tbl ps)->H1 x=some u:=fun {x u} e h=>b1 _ _ e (TB.ne e h)
   have G1:GT H1 g t:=by
    obtain⟨rs,h1,h2,h3⟩:=G
    refine⟨rs,bt h1 (fun _ z=>by cases z),h2,fun i r hr=>?_⟩
    obtain⟨ob,e1,e2⟩:=h3 i r hr
    exact⟨ob,bt e1 (fun _ z=>by cases z),e2⟩
   have ha1:=bt ha fun _ z=>by cases z
   refine⟨_,rfl,_,rfl,g,a,t,o,rfl,G1,Pt1,So,.of ha1,fun fo rss H2 s2 hrss hfo=>?_⟩
   have G2:=G1.mono s2
   have cl:=JW (t:=t) (o:=o) t.length
   have rl:rss.length<=60:=by rw[hrss.pm.length_eq];omega
   have Sdd:=Jm Pt1 So hrss.pm
   obtain⟨gxs,u1,u2⟩:=GT.len (K:=K) G2
   refine⟨_,rfl,_,rfl,g,gxs,rfl,.inr u1,fo,rss,t.length,by rw[u2];rfl,hfo,fun row hrow x hx=>?_,n60,rl,fun li H3 s3 hli=>?_⟩
   ·obtain⟨y,_,rfl⟩:=hrss.row hrow
    exact (Z9.mp hx).1
   have G3:=G2.mono s3
   obtain⟨fs,f1,f2,f3⟩:=hfo.mono s3
   have fl:(fs.map V.ref).length=rss.length:=by rw[Za,f2]
   refine⟨_,rfl,fo,rfl,⟨_,.of f1⟩,?_⟩
   refine Zci (Ym (K:=K) (.of f1)) [some (.ref fo),some (.ref li),some (.ref g)] rfl (by rw[fl];omega) (fun i=>(List.range rss.length).map fun j=>qF t rss i j) (fun i y hy H4 s4 R k=>?_) (fun D ws H4 nD s4 hD wl hw=>?_)
   ·rw[Zc] at hy
    cases er:fs[i]? with
    |none=>rw[er] at hy;cases hy
    |some x=>
     rw[er] at hy
     cases hy
     have hi:i<rss.length:=by rw[<-f2];exact (List.getElem?_eq_some_iff.mp er).1
     have hx4:=s4 _ _ (f3 i x er)
     have f14:=s4 _ _ f1
     obtain⟨ri,ni⟩:=Sdd.rep hi
     have hli0:0<(rss.getD i []).length:=List.length_pos_iff.mpr (Sdd.ne i hi)
     refine⟨_,rfl,fo,rfl,⟨_,.of f14⟩,?_⟩
     refine Vs (Ym (K:=K) (.of f14)) [some (.ref li),some (.ref g),some (.ref x)] rfl (fun j=>nV (qF t rss i j)) (by rw[fl];omega) (fun j y hy H5 s5 R k=>?_) (fun L H5 nL s5 hL=>?_)
     ·rw[Zc] at hy
      cases eb:fs[j]? with
      |none=>rw[eb] at hy;cases hy
      |some b=>
       rw[eb] at hy
       cases hy
       have hj:j<rss.length:=by rw[<-f2];exact (List.getElem?_eq_some_iff.mp eb).1
       have hb:=(s4.trans s5) _ _ (f3 j b eb)
       obtain⟨rj,nj⟩:=Sdd.rep hj
       have hlj0:0<(rss.getD j []).length:=List.length_pos_iff.mpr (Sdd.ne j hj)
       have hx:=Pt1.lt _ _ ri rj
       obtain⟨rs,r2,g1,_,g2,g3,g4⟩:=(G3.mono (s4.trans s5)).at Pt1 ri
       have hat:atI ((YS t.length (J4 rss rss.length)).map nV) ((ZA t ((rss.getD i []).getD 0 0) ((rss.getD j []).getD 0 0):Nat):Int)=some (.int (qF t rss i j:Nat)):=by
        rw[Zhu (l:=YS t.length (J4 rss rss.length)) (by unfold YS;rw[Za,Zg];exact hx)]
        have:(YS t.length (J4 rss rss.length)).getD (ZA t ((rss.getD i []).getD 0 0) ((rss.getD j []).getD 0 0)) 0=qF t rss i j:=by
         unfold YS
         rw[Zb,Zc,List.getElem?_range hx]
         exact Zde Sdd hx _ (Sdd.lt _ hx) (Zq _)
        rw[this]
       exact⟨_,rfl,_,rfl,_,rfl,x,_,_,_,rfl,rfl,.of (s5 _ _ hx4),Zhu (l:=rss.getD i []) (i:=0) hli0,g,_,_,_,rfl,rfl,.of g1,g2,_,rfl,b,_,_,_,rfl,rfl,.of hb,Zhu (l:=rss.getD j []) (i:=0) hlj0,r2,_,_,_,rfl,rfl,g3.sq,g4 _ rj,li,_,_,_,rfl,rfl,.of ((s4.trans s5) _ _ hli),hat,k H5 (Same.refl _)⟩
     ·rw[fl] at hL
      have eL:(List.range rss.length).map (fun j=>nV (qF t rss i j))=((List.range rss.length).map fun j=>qF t rss i j).map nV:=by rw[List.map_map];rfl
      rw[eL] at hL
      exact⟨L,_,rfl,.of hL,fun l H6 nl s6 hz=>k l _ (s5.trans s6) hz⟩
   ·rw[fl] at wl
    refine⟨D,_,rfl,.inl ⟨.of hD,fun r nr=>?_⟩⟩
    have sA:=((s2.trans s3).trans s4).trans (Same.upd (H:=H4) (o:=.tup (ws.map V.ref)) nr)
    refine q hk r rss _ (b1.trans (.of sA)) (t1.mono sA) hrss ?_
    exact ZhN (F:=fun i=>(List.range rss.length).map fun j=>qF t rss i j) Zt wl fun i w h=>(hw i w h).mono (Same.upd nr)
end
abbrev Zh9:Stmt:=top 48
def ZeO (K:PySem.W.Frag)(Pt:Addr):Sp:=fun vs H Q _=>∃(g a:Addr) (t:List (List Nat)) (o:List Nat),vs=[.ref g,.ref a]/\GT H g t/\PW t/\Pa t o/\H a=some (.tup (o.map nV))/\J5 H Pt WO Wj/\
 (Kep t o->∀r rss H',Bt Pt H H'->J5 H' Pt WO Wj->ZZ t o rss->GT H' r (qT t rss)->Q (.ref r) H')/\(¬Kep t o->∀H',Bt Pt H H'->J5 H' Pt WO Wj->Q (.str "none") H')
section
variable {P:Program}{w:World}{K:PySem.W.Frag}{mg:Str->Option Value}{base:Heap}{T U:Addr}{et:Array DictEntry}{c:Nat->Ec}
theorem Cs.catchS {X:Cx}(S:Cs K mg T U et c)(hI:K.In base){k:Nat}(hk:k<12){i:Nat}{ts:TS}{D:Ws}{d:Option Addr}{H:Hp}(hB:X.base=base)
  (h:∀a,H a=none->ts (ZjP D i) ((noSt X).set i (some (.ref a))) (upd H a (exO a (c k).C d))):ZbC X (c k).C i ts D (.ref (c k).C) d H:=by
 subst hB
 have two:=(S.ok k hk).two S.tb hI
 refine⟨_,_,_,_,_,_,rfl,two.c.ex,two.c.ex,rfl,?_,h⟩
 rw[List.contains_cons]
 simp
theorem Zhi {f Pt:Addr}{fd:FuncData}(F:Wf K "_law_told" "_law_told" Zh9 f fd)(B:Bl mg)(V0:BlV mg)(S:Cs K mg T U et c)(hI:K.In base)(GO:Fn P w K mg base (CXE P w) 6 "over" ["group", "part"] (Ut K Pt c)) :
  ZQ P w K mg base Z2 7 f fd ["_law_group_here", "_law_part_here"] (ZeO K Pt):=by
 refine F.ok (FS (N:=["_law_group_here", "_law_part_here", "_law_error", "_law_found", "e", "_law_kinds"])) (fun vs H Q E h=>?_) (fun cdv A outer s H vs Q E hr h=>?_)
 ·obtain⟨g,a,t,o,rfl,_⟩:=h;rfl
 ·obtain⟨g,a,t,o,rfl,G,Pt1,Ps,ha,TB,q,qE⟩:=h
  refine⟨_,Zu (ZR 2 rfl UQ)
   (Zu (ZR 3 rfl UQ)
   (Zu (ZiY (fun D pins=>Zv (ZR 3 rfl (We GO hr (ZbW (i:=4) (Yj (by kernel_rfl)) rfl (YB (by kernel_rfl)) (WT (by kernel_rfl)) (S.mgC 9 (by decide)) (by kernel_rfl) rfl rfl
    (fun a=>Zv (ZR 2 rfl (vn 4)))) (pc (vn 0) (pc (vn 1) Zs))))))
   (Zu (Z3 (ZF Zjf (vn 2) UQ (ZM _)) (Zv (ZC (vn 3))) ZJ)
   (Zu (ZR 5 rfl (Ya (pc (cb (isT S hI) B.isi (pc (vn 2) (pc (Xb (pc (clv (S.mgC 5 (by decide))) (pc (clv (S.mgC 0 (by decide))) (pc (clv (S.mgC 4 (by decide))) (pc (clv (S.mgC 6 (by decide))) (pc (clv (S.mgC 8 (by decide))) (pc (clv (S.mgC 3 (by decide))) Zs))))))) Zs))) Zs)))
   (Zu (Y9 (JO PySem.F.plainAttrs_list PySem.F.slot_list_append PySem.F.type_list_append Yk (vn 5) (pc (cb (isT S hI) B.isi (pc (vn 2) (pc (Xb (pc (clv (S.mgC 11 (by decide))) (pc (clv (S.mgC 2 (by decide))) (pc (clv (S.mgC 1 (by decide))) (pc (clv (S.mgC 10 (by decide))) (pc (clv (S.mgC 7 (by decide))) Zs)))))) Zs))) Zs)))
   (Zv (ZC (Zfh (ZbU (ZF (eqK K hr.units) (vn 5) (Ya (pc Yo (pc Yo Zs))) (ZM _)) (UK (YJ (cb (isV S hI) B.isi (pc (vn 2) (pc (tyv "ValueError" V0.ve) Zs)))))).pt Yn Yn)))))))),?_⟩
  refine⟨_,rfl,_,rfl,g,a,t,o,rfl,G,Pt1,Ps,ha,TB,fun hk r rss H1 b1 t1 X1 g1=>?_,fun hk H1 b1 t1=>S.catchS hI (by decide) rfl fun b hb=>?_⟩
  ·exact⟨_,rfl,rfl,_,rfl,Xe (by decide) ⟨_,rfl,q hk r rss H1 b1 t1 X1 g1⟩⟩
  ·have s1:=Same.upd (o:=exO b (c 9).C none) hb
   have hB:upd H1 b (exO b (c 9).C none) b=some (exO b (c 9).C none):=Zt
   generalize upd H1 b (exO b (c 9).C none)=H2 at s1 hB ⊢
   refine⟨_,rfl,?_⟩
   refine⟨_,rfl,rfl,_,rfl,YI (by simp) ?_⟩
   refine⟨_,rfl,(by show 6<=sizeLine;decide),fun tp ntp=>?_⟩
   have s2:=Same.upd (o:=.tup [V.ref (c 5).C,V.ref (c 0).C,V.ref (c 4).C,V.ref (c 6).C,V.ref (c 8).C,V.ref (c 3).C]) ntp
   refine⟨b,9,none,tp,[5,0,4,6,8,3],rfl,by decide,by decide,s2 _ _ hB,Zt,?_⟩
   refine⟨(by show 1<=sizeLine;decide),fun L nL=>?_⟩
   have s3:=s2.trans (Same.upd (H:=upd H2 tp (.tup [V.ref (c 5).C,V.ref (c 0).C,V.ref (c 4).C,V.ref (c 6).C,V.ref (c 8).C,V.ref (c 3).C])) (o:=.lst [.bl ([5,0,4,6,8,3].any fun j=>decide (j=9))]) nL)
   have hL:=Zt (H:=upd H2 tp (.tup [V.ref (c 5).C,V.ref (c 0).C,V.ref (c 4).C,V.ref (c 6).C,V.ref (c 8).C,V.ref (c 3).C])) (a:=L) (o:=.lst [.bl ([5,0,4,6,8,3].any fun j=>decide (j=9))])
   have hB3:=s3 _ _ hB
   generalize upd (upd H2 tp (.tup [V.ref (c 5).C,V.ref (c 0).C,V.ref (c 4).C,V.ref (c 6).C,V.ref (c 8).C,V.ref (c 3).C])) L (.lst [.bl ([5,0,4,6,8,3].any fun j=>decide (j=9))])=H3 at s3 hL hB3 ⊢
   have hL:H3 L=some (.lst [.bl false]):=hL
   refine⟨_,rfl,.inl ⟨rfl,_,.of hL⟩,_,rfl,(by show 5<=sizeLine;decide),fun tp2 ntp2=>?_⟩
   have s4:=s3.trans (Same.upd (H:=H3) (o:=.tup [V.ref (c 11).C,V.ref (c 2).C,V.ref (c 1).C,V.ref (c 10).C,V.ref (c 7).C]) ntp2)
   have hB4:=Same.upd (H:=H3) (o:=.tup [V.ref (c 11).C,V.ref (c 2).C,V.ref (c 1).C,V.ref (c 10).C,V.ref (c 7).C]) ntp2 _ _ hB3
   have hL4:=Same.upd (H:=H3) (o:=.tup [V.ref (c 11).C,V.ref (c 2).C,V.ref (c 1).C,V.ref (c 10).C,V.ref (c 7).C]) ntp2 _ _ hL
   have hT4:=Zt (H:=H3) (a:=tp2) (o:=.tup [V.ref (c 11).C,V.ref (c 2).C,V.ref (c 1).C,V.ref (c 10).C,V.ref (c 7).C])
   have nL2:H2 L=none:=(Same.upd (o:=.tup [V.ref (c 5).C,V.ref (c 0).C,V.ref (c 4).C,V.ref (c 6).C,V.ref (c 8).C,V.ref (c 3).C]) ntp).free nL
   refine⟨b,9,none,tp2,[11,2,1,10,7],rfl,by decide,by decide,hB4,hT4,?_⟩
   generalize upd H3 tp2 (.tup [V.ref (c 11).C,V.ref (c 2).C,V.ref (c 1).C,V.ref (c 10).C,V.ref (c 7).C])=H4 at s4 hB4 hL4 hT4 ⊢
   refine⟨L,_,_,rfl,rfl,hL4,by decide,?_⟩
   have s5:Same H2 (upd H4 L (.lst ([.bl false]++[.bl ([11,2,1,10,7].any fun j=>decide (j=9))]))):=s4.updr nL2
   have hL5:=Zt (H:=H4) (a:=L) (o:=.lst ([V.bl false]++[V.bl ([11,2,1,10,7].any fun j=>decide (j=9))]))
   have hB5:=s5 _ _ hB
   generalize upd H4 L (.lst ([V.bl false]++[V.bl ([11,2,1,10,7].any fun j=>decide (j=9))]))=H5 at s5 hL5 hB5 ⊢
   have hL5:H5 L=some (.lst [.bl false,.bl false]):=hL5
   refine⟨_,rfl,(by show 2<=sizeLine;decide),fun L2 nL2=>?_⟩
   have s6:=Same.upd (H:=H5) (o:=.lst [.bl false,.bl false]) nL2
   refine⟨.list [.bool false,.bool false],.list [.bool false,.bool false],.lst (.of (s6 _ _ hL5)) (.cons (.bl false) (.cons (.bl false) .nil)),.lst (.of Zt) (.cons (.bl false) (.cons (.bl false) .nil)),by decide +kernel,by decide +kernel,_,rfl,Xe (by decide +kernel) ?_⟩
   refine⟨_,rfl,b,9,none,rfl,by decide,s6 _ _ hB5,_,rfl,Xe rfl ?_⟩
   have sA:=s1.trans (s5.trans s6)
   exact qE hk _ (b1.trans (.of sA)) (t1.mono sA)
end
abbrev ZeY:Stmt:=top 49
def ZcB:Sp:=fun vs H Q _=>∃(g a r:Addr) (t:List (List Nat)) (o:List Nat) (rss:List (List Nat)),vs=[.ref g,.ref a,.ref r]/\GT H g t/\PW t/\Sub t o/\Kep t o/\H a=some (.tup (o.map nV))/\ZZ t o rss/\GT H r (qT t rss)/\∀H',Same H H'->Q (.bl true) H'
section
variable {P:Program}{w:World}{K:PySem.W.Frag}{mg:Str->Option Value}{base:Heap}
theorem Zfy {f:Addr}{fd:FuncData}(F:Wf K "_law_over_right" "_law_over_right" ZeY f fd)(T:Bl mg)(GSd:Fn P w K mg base Z2 1 "sides" ["group", "part"] (Ur K))(GAsk:Fn P w K mg base Z2 4 "ask_group" ["thing"] Uu) :
  ZQ P w K mg base Z2 5 f fd ["_law_group_here", "_law_part_here", "_law_found"] ZcB:=by
 refine F.ok (FS (N:=["_law_group_here", "_law_part_here", "_law_found", "_law_rows", "_law_i", "_law_j", "_law_goal", "_law_a"])) (fun vs H Q E h=>?_) (fun cdv A outer s H vs Q E hr h=>?_)
 ·obtain⟨g,a,r,t,o,rss,rfl,_⟩:=h;rfl
 ·obtain⟨g,a,r,t,o,rss,rfl,G,Pt,So,Ke,ha,X,Gr,q⟩:=h
  refine⟨_,Zu (ZR 3 rfl (We GSd hr ZK (pc (vn 0) (pc (vn 1) Zs))))
   (Zu (Z3 (VZ (Ww (YJ (cb (ZjA K "tuple") T.isi (pc (vn 2) (pc (tyv "tuple" T.tuple) Zs))))) (X8 (ZF ZcX (ZS Xc (cb (YA K) T.len (pc (vn 2) Zs)) (cb (YA K) T.len (pc (vn 1) Zs))) (cb (YA K) T.len (pc (vn 0) Zs)) (ZM _)))).pt (Zv (ZC Yo)) ZJ)
   (Zu (Z3 (ZF ZdR (We GAsk hr ZK (pc (vn 2) Zs)) Yo (ZM _)) (Zv (ZC Yo)) ZJ)
   (Zu (Z5 PassesOwn.never rfl (JJ T.range (pc (cb (YA K) T.len (pc (vn 3) Zs)) Zs)) (gn 4)
   (Zu (Z3 (Ww (YJ (cb (Zjz K) T.isi (pc (ZE (Wn K) (vn 2) (vn 4) (fun _ _=>rfl)) (pc (tyv "tuple" T.tuple) Zs))))) (Zv (ZC Yo)) ZJ)
   (Zv (Z5 PassesOwn.never rfl (JJ T.range (pc (cb (YA K) T.len (pc (vn 3) Zs)) Zs)) (gn 5)
   (Zu (ZR 6 rfl (ZE (Wn K) (vn 3) (ZE (Wn K) (ZE (Wn K) (vn 2) (vn 4) (fun _ _=>rfl)) (vn 5) (fun _ _=>rfl)) (fun _ _=>rfl)))
   (Zv (Z5 PassesOwn.never rfl (itT K (ZE (Wn K) (vn 3) (vn 4) (fun _ _=>rfl))) (gnf 7 rfl)
   (Zv (Z3 (ZF (neC K hr.units) (cmp ["_law_b"] [0,7,6] ["_law_b", "_law_group_here", "_law_a", "_law_goal"] rfl (itT K (ZE (Wn K) (vn 3) (vn 5) (fun _ _=>rfl))) (fun _ _ _ _ _=>gn 0) (fun _ _ _ _ _=>ZcT (ZF (ZkR K) (ZE (Wn K) (ZE (Wn K) (vn 1) (vn 2) (fun _ _=>rfl)) (vn 0) (fun _ _=>rfl)) (vn 3) (by rfl))) (fun _ _ _ _ _=>vn 0)) (Ya Zs) (ZM _)) (Zv (ZC Yo)) ZJ)))))))))
   (Zv (ZC Yo))))),?_⟩
  have sz:(16777216:Nat)=sizeLine:=by decide
  have n1:=Pt.n1
  have n60:=Pt.n60
  have o60:o.length<=60:=by have:=V4 _ _ So.nd So.lt;omega
  have ol:(o.map nV).length=o.length:=List.length_map ..
  refine⟨_,rfl,_,rfl,g,a,t,o,rfl,G,Pt,So,.of ha,fun fo rss1 H1 s1 X1 hfo=>?_⟩
  have e1:=X1.uniq X
  subst e1
  have cl:=JW (t:=t) (o:=o) t.length
  have rl:rss1.length<=60:=by rw[X1.pm.length_eq];omega
  have qL:(qT t rss1).length=rss1.length:=UW
  have Pq:=Zg6 Pt So Ke X1
  obtain⟨qs,q1,q2,q3⟩:=Gr.mono s1
  have qsl:(qs.map V.ref).length=rss1.length:=by rw[Za,q2,qL]
  have ov:=Zft Pt So X1
  refine⟨_,rfl,_, "tuple",rfl,⟨.tup q1,by decide⟩,_,rfl,YI (by decide) ?_⟩
  obtain⟨gxs,u1,u2⟩:=GT.len (K:=K) (G.mono s1)
  refine⟨_,rfl,r,_,rfl,.inr (.of q1),_,rfl,a,_,rfl,.inr (.of (s1 _ _ ha)),_,_,rfl,rfl,.inl ⟨by rw[qsl];omega,by rw[qsl];omega⟩,_,rfl,g,gxs,rfl,.inr u1,rfl,_,rfl,YI ?_ ?_⟩
  ·rw[qsl,ol,u2]
   have:((rss1.length:Nat):Int)*((o.length:Nat):Int)=((t.length:Nat):Int):=by rw[<-ov];push_cast;rfl
   show ¬(!decide (V.int (((rss1.length:Nat):Int)*((o.length:Nat):Int))=V.int ((t.length:Nat):Int)))=true
   rw[this]
   simp
  refine⟨_,rfl,r,qT t rss1,rfl,⟨qs,q1,q2,q3⟩,Pq,fun H2 s2=>⟨_,_,rfl,rfl,_,rfl,YI (by decide) ?_⟩⟩
  have s12:=s1.trans s2
  have hfo2:=hfo.mono s2
  obtain⟨fs,f1,f2,f3⟩:=id hfo2
  have fl:(fs.map V.ref).length=rss1.length:=by rw[Za,f2]
  refine⟨_,rfl,fo,_,rfl,.inr (.of f1),_,rfl,by rw[fl];omega,by rw[fl];omega,?_⟩
  rw[fl,Zj]
  refine Yb (fun i σ' H'=>∃v4 v5 v6 v7:Option V,σ'=[some (.ref g),some (.ref a),some (.ref r),some (.ref fo),v4,v5,v6,v7]/\Same H2 H') ⟨_,_,_,_,rfl,Same.refl _⟩ ?_ ?_
  ·rintro i σ' H3 hi ⟨v4,v5,v6,v7,rfl,s3⟩
   rw[show (0:Int)+(i:Int)=(i:Int) by omega]
   have hii:qs[i]?=some (qs[i]'(by rw[q2,qL];exact hi)):=Zf _
   have hqi:=((q3 i _ hii).mono (s2.trans s3))
   refine⟨_,rfl,_,rfl,r,_,_,_,rfl,rfl,.of ((s2.trans s3) _ _ q1),ZaJ hii,_,_,rfl,.inr hqi,_,rfl,YI (by decide) ?_⟩
   refine⟨_,rfl,fo,_,rfl,.inr (.of (s3 _ _ f1)),_,rfl,by rw[fl];omega,by rw[fl];omega,?_⟩
   rw[fl,Zj]
   refine Yb (fun j σ' H'=>∃v5 v6 v7:Option V,σ'=[some (.ref g),some (.ref a),some (.ref r),some (.ref fo),some (.int (i:Nat)),v5,v6,v7]/\Same H2 H') ⟨_,_,_,rfl,s3⟩ ?_ ?_
   ·rintro j σ' H4 hj ⟨v5,v6,v7,rfl,s4⟩
    rw[show (0:Int)+(j:Int)=(j:Int) by omega]
    have f14:=s4 _ _ f1
    have hqi4:=(q3 i _ hii).mono (s2.trans s4)
    have eq0:((qT t rss1).getD i []).getD j 0=qF t rss1 i j:=Zb5 hi hj
    have rlq:((qT t rss1).getD i []).length=rss1.length:=ZfJ hi
    have hne:=(Jm Pt So X1.pm).ne
    obtain⟨xa,hxa⟩:=List.exists_mem_of_ne_nil _ (hne i hi)
    obtain⟨xb,hxb⟩:=List.exists_mem_of_ne_nil _ (hne j hj)
    have ql:=(ZcW Pt So Ke X1 hi hj hxa hxb).2
    have hgg:fs[qF t rss1 i j]?=some (fs[qF t rss1 i j]'(by rw[f2];exact ql)):=Zf _
    have hgoal:=s4 _ _ (f3 _ _ hgg)
    refine⟨_,rfl,_,rfl,_,rfl,r,_,_,_,rfl,rfl,.of ((s2.trans s4) _ _ q1),ZaJ hii,_,rfl,_,_,_,_,rfl,rfl,hqi4.sq,Zhu (l:=(qT t rss1).getD i []) (i:=j) (by rw[rlq];exact hj),fo,_,_,_,rfl,rfl,.of f14,by rw[eq0];exact ZaJ hgg,?_⟩
    have hiF:fs[i]?=some (fs[i]'(by rw[f2];exact hi)):=Zf _
    have hrowi:=s4 _ _ (f3 i _ hiF)
    have rowlen:∀k,k<rss1.length->(rss1.getD k []).length<=60:=fun k hk=>by
     obtain⟨y,hy,e⟩:=X1.row (List.mem_of_getElem? (gD hk))
     rw[e,Ze4 Pt So hy]
     exact o60
    refine⟨_,rfl,_,rfl,fo,_,_,_,rfl,rfl,.of f14,ZaJ hiF,_,rfl,⟨_,.of hrowi⟩,?_⟩
    refine Je (H0:=H4) (Ym (K:=K) (.of hrowi)) (fun e τ HH=>∃v7:Option V,τ=[some (.ref g),some (.ref a),some (.ref r),some (.ref fo),some (.int (i:Nat)),some (.int (j:Nat)),some (.ref (fs[qF t rss1 i j]'(by rw[f2];exact ql))),v7]/\Same H4 HH) ⟨_,rfl,Same.refl _⟩ (fun e τ HH h=>h.choose_spec.2) ?_ ?_
    ·rintro e yv τ H5 hy ⟨v7,rfl,s5⟩
     obtain⟨y,hye,rfl⟩:=Yx hy
     have hym:y∈rss1.getD i []:=List.mem_of_getElem? hye
     have hyl:y<t.length:=by
      obtain⟨z,hz,ez⟩:=X1.row (List.mem_of_getElem? (gD hi))
      rw[ez] at hym
      exact (Z9.mp hym).1
     have hjF:fs[j]?=some (fs[j]'(by rw[f2];exact hj)):=Zf _
     have hrowj:=(s4.trans s5) _ _ (f3 j _ hjF)
     refine⟨_,rfl,_,rfl,fo,_,_,_,rfl,rfl,.of (s5 _ _ f14),ZaJ hjF,_,rfl,⟨_,.of hrowj⟩,?_⟩
     refine Uj (Ym (K:=K) (.of hrowj)) [some (.ref g),some (.int (y:Nat)),some (.ref (fs[qF t rss1 i j]'(by rw[f2];exact ql)))] rfl (fun _=>false) (fun y=>y) (by rw[Za];have:=rowlen j hj;omega) (fun e2 yv H6 hyv s6 R R' k1 k2=>?_) (fun L6 H6 nL6 s6 hL6=>?_)
     ·obtain⟨z,hze,rfl⟩:=Yx hyv
      have hzm:z∈rss1.getD j []:=List.mem_of_getElem? hze
      have hzl:z<t.length:=by
       obtain⟨z',hz',ez⟩:=X1.row (List.mem_of_getElem? (gD hj))
       rw[ez] at hzm
       exact (Z9.mp hzm).1
      have hin:=(ZcW Pt So Ke X1 hi hj hym hzm).1
      obtain⟨rs,r2,g1,_,g2,g3,g4⟩:=(G.mono (s12.trans ((s4.trans s5).trans s6))).at Pt hyl
      refine⟨_,rfl,_,rfl,g,_,_,_,rfl,rfl,.of g1,g2,_,rfl,r2,_,_,_,rfl,rfl,g3.sq,g4 z hzl,_,rfl,_,_,rfl,.inr (.of ((s5.trans s6) _ _ hgoal)),rfl,?_,_,rfl,?_⟩
      ·rw[List.all_map,List.all_eq_true]
       intro k _
       rfl
      ·have e0:inV (.int (ZA t y z:Nat)) ((rss1.getD (qF t rss1 i j) []).map nV)=(rss1.getD (qF t rss1 i j) []).contains (ZA t y z):=Zdc
       have e3:(rss1.getD (qF t rss1 i j) []).contains (ZA t y z)=true:=List.contains_iff_mem.mpr hin
       rw[e0]
       rw[e3]
       exact YI (by decide) (k2 rfl H6 (Same.refl _))
     ·refine⟨(by show 0<=sizeLine;decide),fun em nem=>?_⟩
      have hL6:H6 L6=some (.lst []):=by
       rw[hL6]
       simp
      refine⟨.list [],.list [],.lst (.of (Same.upd (H:=H6) (o:=.lst []) nem _ _ hL6)) .nil,.lst (.of Zt) .nil,rfl,rfl,_,rfl,YI (by decide) ?_⟩
      exact⟨_,rfl,(s5.trans s6).trans (Same.upd nem)⟩
    ·rintro τ H5 ⟨v7,rfl,s5⟩
     exact⟨_,_,_,rfl,s4.trans s5⟩
   ·rintro σ' H4 ⟨v5,v6,v7,rfl,s4⟩
    exact⟨_,_,_,_,rfl,s4⟩
  ·rintro σ' H3 ⟨v4,v5,v6,v7,rfl,s3⟩
   exact q H3 (s12.trans s3)
end
end C23
namespace L2
open PySem PySem.Spec PyProof.Rows
theorem Zim {X:Cx}:W7 (CXE X.prog X.w) X (fun _ _ _=>False):=by
 intro ps σ H s e s' I h
 obtain⟨_,_,_,_,_,_,_,_,_,_,_,_,_,_,_,hF⟩:=h
 exact hF.elim
end L2
namespace C23
open PySem L2 PySem.Spec PyProof.Rows
open Tb Pm
abbrev Zih:Stmt:=top 47
def ZeS:Sp:=fun vs H Q _=>∃(p g:Addr) (b:Nat) (t:List (List Nat)),vs=[.ref p,.ref g]/\Yc H p b/\b+100<2 ^ 60/\GT H g t/\PW t/\∀r (gs:List Nat) H',Tk p H H'->Yc H' p (b+3)->(∀x∈gs,x<t.length)->H' r=some (.tup ((prtL t.length (YQ t gs)).map nV))->Q (.ref r) H'
theorem Zf3 {K:PySem.W.Frag}{H:Hp}{g:Addr}{t:List (List Nat)}(G:GT H g t):Xm K H (.ref g) (dCs t):=by
 obtain⟨rs,h1,h2,h3⟩:=G
 refine .tup (.of h1) ?_
 clear h1
 induction rs generalizing t with
 |nil=>cases t with
  |nil=>exact .nil
  |cons _ _=>cases h2
 |cons r rs ih=>cases t with
  |nil=>cases h2
  |cons x t=>exact .cons (.tup (h3 0 r rfl).sq (WM x)) (ih (Nat.succ.inj h2) fun i c hc=>h3 (i+1) c hc)
theorem Za2:∀yss:List (List Nat),PyData.canLayAll0 (yss.map YM)=true
 | []=>rfl
 |c::css=>by
  show (PyData.canLayAll0 (c.map fun k:Nat=>PyData.int (k:Int)) && PyData.canLayAll0 (css.map YM))=true
  rw[Zhw,Za2 css]
  rfl
theorem Zbh:∀yss:List (List Nat),PyData.depthAll (yss.map YM)<=1
 | []=>Nat.zero_le _
 |c::css=>by
  show max (PyData.depthAll (c.map fun k:Nat=>PyData.int (k:Int))+1) (PyData.depthAll (css.map YM))<=1
  rw[ZhA c]
  exact Nat.max_le.mpr ⟨by omega,Zbh css⟩
theorem JE (yss:List (List Nat)):SeqAt.shaped (dCs yss)=true:=by
 unfold SeqAt.shaped dCs
 have h1:PyData.canLay0 (.tuple (yss.map YM))=true:=Za2 yss
 have h2:PyData.depth (.tuple (yss.map YM))<=64:=by
  show PyData.depthAll (yss.map YM)+1<=64
  have:=Zbh yss
  omega
 simp only[h1,Bool.true_and,decide_eq_true_eq]
 exact h2
theorem Zk3 (a b:List Nat):PyData.eqv (YM a) (YM b)=decide (a=b):=by
 rw[<-Zdi a b]
 unfold YM nI
 rw[List.map_map,List.map_map]
 rfl
theorem Vn:∀css:List (List Nat),PyData.eqv (dCs css) (dCs css)=true
 | []=>rfl
 |c::css=>by
  show (PyData.eqv (YM c) (YM c) && PyData.eqvAll (css.map YM) (css.map YM))=true
  rw[Zk3,decide_eq_true rfl,show PyData.eqvAll (css.map YM) (css.map YM)=true from Vn css]
  rfl
theorem Zi7 {t:List (List Nat)}(P:PW t):Pa t [0]:=by
 refine⟨Zcx P,?_⟩
 refine⟨fun _=>U4 P,fun _=>?_⟩
 have e:prtL t.length (YQ t [])=[0]:=Zg7 P
 have:=UT P (gs:=[]) fun g h=>by cases h
 rw[e] at this
 exact this.k.mpr (U4 P)
theorem Zi8 {t:List (List Nat)}(P:PW t):Pa t (List.range t.length):=by
 have e:prtL t.length (YQ t (List.range t.length))=List.range t.length:=by
  have hg:∀g∈List.range t.length,g<t.length:=fun g hg=>List.mem_range.mp hg
  refine (Zfp P hg).mpr ⟨List.mem_range.mpr P.n1,List.pairwise_lt_range,fun a ha b hb=>List.mem_range.mpr (P.lt _ _ (List.mem_range.mp ha) (List.mem_range.mp hb))⟩
 have:=UT P (gs:=List.range t.length) fun g hg=>List.mem_range.mp hg
 rw[e] at this
 exact this
theorem ZhG {t:List (List Nat)}(P:PW t){o:List Nat}:(∀x,x<t.length->∀h∈o,tb t h x∈o)↔Kep t o:=by
 constructor
 ·intro k y hy
  obtain⟨b,hb,x,hx,rfl⟩:=YY.mp hy
  exact k x hx b hb
 ·intro k x hx h hh
  exact ZfV P k hh hx
def ZcE (K:PySem.W.Frag)(Pt:Addr):Sp:=fun vs H Q _=>∃(a:Addr) (ns:List Int),vs=[.ref a]/\Y0 K H a (ns.map V.int)/\ns.length<=63/\J5 H Pt WO Wj/\∀H',Q (.bl true) H'
section
variable {P:Program}{w:World}{K:PySem.W.Frag}{mg:Str->Option Value}{base:Heap}{c:Nat->Ec}
theorem Zhs {f:Addr}{fd:FuncData}(F:Wf K "_law_any_part" "_law_any_part" Zih f fd)(GS:Fn P w K mg base Z2 2 "_law_some" ["_law_tape_here", "_law_group_here"] ZbJ)(GL:Fn P w K mg base Z2 1 "_law_part" ["_law_group_here", "_law_things_here"] ZcD):ZQ P w K mg base Z2 3 f fd ["_law_tape_here", "_law_group_here"] ZeS:=by
 refine F.ok (FS (N:=["_law_tape_here", "_law_group_here"])) (fun vs H Q E h=>?_) (fun cdv A outer s H vs Q E hr h=>?_)
 ·obtain⟨p,g,b,t,rfl,_⟩:=h;rfl
 ·obtain⟨p,g,b,t,rfl,T0,hb,G,Pt,q⟩:=h
  refine⟨_,Zv (ZC (We GL hr ZK (pc (vn 1) (pc (We GS hr ZK (pc (vn 0) (pc (vn 1) Zs))) Zs)))),?_⟩
  exact⟨_,rfl,_,rfl,_,rfl,p,g,b,t,rfl,T0,hb,G,Pt,fun L gs H1 k1 T1 nL hL gl glt=>⟨g,L,t,gs,rfl,GT.tk T0 k1 G,Pt,hL,by omega,glt,fun r H2 s2 hr2=>q r gs H2 (k1.trans (.of s2)) (T1.mono s2) glt hr2⟩⟩
theorem Zjk {f Pt:Addr}{fd:FuncData}(F:Wf K "law" "law" Zkw f fd)(T:Bl mg)(GT0:Fn P w K mg base Z2 1 "_law_tape" ["_law_script", "_law_at"] (ZeP K))(GG:Fn P w K mg base Z2 3 "_law_group" ["_law_tape_here", "_law_great"] ZcF)
  (GS:Fn P w K mg base Z2 2 "_law_some" ["_law_tape_here", "_law_group_here"] ZbJ) (GAP:Fn P w K mg base Z2 3 "_law_any_part" ["_law_tape_here", "_law_group_here"] ZeS) (GKb:Fn P w K mg base Z2 4 "kept_by" ["group", "things"] (XX K Pt)) (GLT:Fn P w K mg base Z2 2 "_law_turned" ["_law_group_here", "_law_thing", "_law_t"] JC)
  (GO:Fn P w K mg base (CXE P w) 6 "over" ["group", "part"] (Ut K Pt c)) (GTo:Fn P w K mg base Z2 7 "_law_told" ["_law_group_here", "_law_part_here"] (ZeO K Pt)) (GR:Fn P w K mg base Z2 5 "_law_over_right" ["_law_group_here", "_law_part_here", "_law_found"] ZcB) :
  ZQ P w K mg base Z2 8 f fd ["_law_script"] (ZcE K Pt):=by
 refine F.ok (FS (N:=["_law_script", "_law_k", "_law_tape_here", "_law_group_here", "_law_turn", "_law_part_here", "_law_kept", "_law_t", "_law_found"])) (fun vs H Q E h=>?_) (fun cdv A outer s H vs Q E hr h=>?_)
 ·obtain⟨a,ns,rfl,_⟩:=h;rfl
 ·obtain⟨a,ns,rfl,hS,hlen,hT,q⟩:=h
  refine⟨_,Zu (Z5 PassesOwn.never rfl (JJ T.range (pc (ZS Wx Zz (cb (YA K) T.len (pc (Vc Uz (vn 0) UP (UO Zz)) Zs))) Zs)) (gn 1)
   (Zu (ZR 2 rfl (We GT0 hr ZK (pc (vn 0) (pc (vn 1) Zs))))
   (Zu (ZR 3 rfl (We GG hr ZK (pc (vn 2) (pc (JN ZaO (vn 1) Zz (ZM _)) Zs))))
   (Zu (Z3 (VZ (ZF (neC K hr.units) (We GO hr Zim (pc (vn 3) (pc (Xb (pc Zz Zs)) Zs))) (vn 3) (ZM _)) (X8 (ZF (neC K hr.units) (We GO hr Zim (pc (vn 3) (pc (ct (W3 rfl) T.tuple (pc (ct Xz T.range (pc (cb (YA K) T.len (pc (vn 3) Zs)) Zs)) Zs)) Zs))) (Xb (pc (Xb (pc Zz Zs)) Zs)) (ZM _)))).pt (Zv (ZC Yo)) ZJ)
   (Zv (Z5 PassesOwn.never rfl (JJ T.range (pc Zz Zs)) (gn 4)
   (Zu (ZR 5 rfl (We GAP hr ZK (pc (vn 2) (pc (vn 3) Zs))))
   (Zu (Z3 (ZF ZcZ (vn 4) Zz (ZM _)) (Zv (ZR 5 rfl (We GKb hr ZK (pc (vn 3) (pc (We GS hr ZK (pc (vn 2) (pc (vn 3) Zs))) Zs))))) ZJ)
   (Zu (ZR 6 rfl Yo)
   (Zu (Z5 PassesOwn.never rfl (JJ T.range (pc (cb (YA K) T.len (pc (vn 3) Zs)) Zs)) (gnf 7 rfl)
   (Zv (Z3 (ZF (neC K hr.units) (cmp ["_law_h"] [3,7,5] ["_law_h", "_law_group_here", "_law_t", "_law_part_here"] rfl (itT K (vn 5)) (fun _ _ _ _ _=>gn 0) (fun _ _ _ _ _=>ZcT (ZF (ZkR K) (We GLT hr ZK (pc (vn 1) (pc (vn 0) (pc (vn 2) Zs)))) (vn 3) (by rfl))) (fun _ _ _ _ _=>Zz)) (Ya Zs) (ZM _)) (Zv (ZR 6 rfl Yo)) ZJ)))
   (Zu (ZR 8 rfl (We GTo hr ZK (pc (vn 3) (pc (vn 5) Zs))))
   (Zv (Z3 (VZ (ZbU (Ww (YJ (vn 6))) (UK (ZF ZcX (vn 8) Yn (ZM _)))).pt (X8 (ZbU (YJ (vn 6)) (UK (Ww (YJ (We GR hr ZK (pc (vn 3) (pc (vn 5) (pc (vn 8) Zs)))))))).pt)).pt (Zv (ZC Yo)) ZJ)))))))))))))
   (Zv (ZC Yo)),?_⟩
  have sz:(16777216:Nat)=sizeLine:=by decide
  refine⟨_,rfl,_,rfl,a,_,rfl,hS,fun l0 nl0=>⟨l0,_,rfl,.inl (.of Zt),_,_,rfl,rfl,_,rfl,?_,?_,?_⟩⟩
  ·omega
  ·have:=Xx (ns.map V.int) none (some 4)
   rw[Za] at this
   omega
  have s0:=Same.upd (H:=H) (o:=.lst (Zad (ns.map V.int) none (some 4))) nl0
  refine Yb (fun i σ' H'=>∃v1 v2 v3 v4 v5 v6 v7 v8:Option V,σ'=[some (.ref a),v1,v2,v3,v4,v5,v6,v7,v8]/\Y0 K H' a (ns.map V.int)/\J5 H' Pt WO Wj) ⟨_,_,_,_,_,_,_,_,rfl,s0.seq hS,hT.mono s0⟩ ?_ (fun σ' H1 _=>q H1)
  rintro i σ' H1 hi ⟨v1,v2,v3,v4,v5,v6,v7,v8,rfl,hS1,hT1⟩
  rw[show (0:Int)+(i:Int)=(i:Int) by omega]
  refine⟨_,rfl,_,rfl,a,ns,i,rfl,hS1,hlen,fun p H2 s2 np T2'=>?_⟩
  have L2':LS H2 p Pt 0:=⟨T2',hT1.mono s2⟩
  have hS2:=s2.seq hS1
  refine⟨_,rfl,_,rfl,_,_,rfl,rfl,p,0,_,rfl,T2',by decide,fun g t H3 k3 T3 G3 Pt1=>?_⟩
  have L3:=L2'.tk k3 T3
  have hS3:=L2'.sql (.tk k3) hS2
  have n1:=Pt1.n1
  have n60:=Pt1.n60
  refine⟨_,rfl,(by show 1<=sizeLine;decide),fun z1 nz1=>?_⟩
  have sa:=Same.upd (H:=H3) (o:=.tup [.int 0]) nz1
  have ha:=Zt (H:=H3) (a:=z1) (o:=.tup [.int 0])
  generalize upd H3 z1 (.tup [.int 0])=Ha at sa ha ⊢
  have La:=L3.same sa
  have Ga:=G3.mono sa
  have hSa:=sa.seq hS3
  refine⟨g,z1,t,[0],rfl,Ga,Pt1,Zi7 Pt1,ha,La.tb,fun _ r1 rss1 Hb b1 t1 X1 g1=>?_,fun hk=>absurd (U4 Pt1) hk⟩
  rw[Zfs Pt1 X1] at g1
  have Lb:=La.bt b1 t1
  have Gb:=La.gt (.bt b1) Ga
  have hSb:=La.sql (.bt b1) hSa
  refine⟨_,rfl,dCs t,dCs t,Zf3 g1,Zf3 Gb,JE _,JE _,_,rfl,YI (by rw[Vn];decide) ?_⟩
  obtain⟨gxs,u1,u2⟩:=GT.len (K:=K) Gb
  refine⟨_,rfl,_,rfl,g,gxs,rfl,.inr u1,_,rfl,fun R nR=>?_⟩
  have sc:=Same.upd (H:=Hb) (o:=.rng 0 (gxs.length:Int)) nR
  have hR:=Zt (H:=Hb) (a:=R) (o:=.rng 0 (gxs.length:Int))
  generalize upd Hb R (.rng 0 (gxs.length:Int))=Hc at sc hR ⊢
  refine⟨R,0,_,rfl,hR,⟨by omega,by omega,by omega,by omega⟩,by omega,fun r2 nr2=>?_⟩
  have er:(YG 0 ((gxs.length:Int)-0).toNat).map V.int=(List.range t.length).map nV:=by
   rw[show ((gxs.length:Int)-0).toNat=t.length by omega]
   unfold YG
   rw[List.map_map]
   refine List.map_congr_left fun k _=>?_
   show V.int (0+(k:Int))=V.int (k:Int)
   rw[Int.zero_add]
  rw[er]
  have sd:=sc.trans (Same.upd (H:=Hc) (o:=.tup ((List.range t.length).map nV)) nr2)
  have hd:=Zt (H:=Hc) (a:=r2) (o:=.tup ((List.range t.length).map nV))
  generalize upd Hc r2 (.tup ((List.range t.length).map nV))=Hd at sd hd ⊢
  have Ld:=Lb.same sd
  have Gd:=Gb.mono sd
  have hSd:=sd.seq hSb
  refine⟨g,r2,t,List.range t.length,rfl,Gd,Pt1,Zi8 Pt1,hd,Ld.tb,fun _ r3 rss3 He b3 t3 X3 g3=>?_,fun hk=>absurd (ZhH Pt1) hk⟩
  rw[Zfu Pt1 X3] at g3
  have Le:=Ld.bt b3 t3
  have Ge:=Ld.gt (.bt b3) Gd
  have hSe:=Ld.sql (.bt b3) hSd
  refine⟨(by show 1<=sizeLine;decide),fun z2 nz2=>⟨(by show 1<=sizeLine;decide),fun z3 nz3=>?_⟩⟩
  have sf:=(Same.upd (H:=He) (o:=.tup [.int 0]) nz2).trans (Same.upd (H:=upd He z2 (.tup [.int 0])) (o:=.tup [.ref z2]) nz3)
  have hf:CT (upd (upd He z2 (.tup [.int 0])) z3 (.tup [.ref z2])) z3 [[0]]:=⟨[z2],Zt,rfl,fun i b hb=>by
   cases i with
   |zero=>cases hb;exact Same.upd nz3 _ _ Zt
   |succ i=>cases hb⟩
  generalize upd (upd He z2 (.tup [.int 0])) z3 (.tup [.ref z2])=Hf at sf hf ⊢
  have Lf:=Le.same sf
  have Gf:=Ge.mono sf
  have hSf:=sf.seq hSe
  refine⟨dCs [[0]],dCs [[0]],Zf3 (g3.mono sf),hf.rd,JE _,JE _,_,rfl,YI (by rw[Vn];decide) ?_⟩
  refine⟨_,rfl,by decide,by decide,?_⟩
  refine Yb (fun j σ' H'=>∃v4 v5 v6 v7 v8:Option V,σ'=[some (.ref a),some (.int (i:Nat)),some (.ref p),some (.ref g),v4,v5,v6,v7,v8]/\Y0 K H' a (ns.map V.int)/\LS H' p Pt (70+6*j)/\GT H' g t) ⟨_,_,_,_,_,rfl,hSf,Lf,Gf⟩ ?_ ?_
  ·rintro j σ' H4 hj ⟨v4,v5,v6,v7,v8,rfl,hS4,L4,G4⟩
   refine⟨_,rfl,_,rfl,p,g,_,t,rfl,L4.tp,by omega,G4,Pt1,fun r gs H5 k5 T5 glt hr5=>?_⟩
   have L5:=L4.tk k5 T5
   have G5:=L4.gt (.tk k5) G4
   have hS5:=L4.sql (.tk k5) hS4
   refine⟨_,rfl,rfl,_,rfl,JS (fun h0=>?_) (fun h0=>?_)⟩
   case' refine_1=>
    refine⟨_,rfl,_,rfl,_,rfl,p,g,_,t,rfl,L5.tp,by omega,G5,Pt1,fun Ls gs2 H6 k6 T6 nLs hLs gl2 glt2=>?_⟩
    have L6:=L5.tk k6 T6
    have G6:=L5.gt (.tk k6) G5
    have hS6:=L5.sql (.tk k6) hS5
    refine⟨g,Ls,t,gs2,rfl,G6,Pt1,.inl (.of hLs),by omega,glt2,L6.tb,fun pr H7 b7 t7 npr hpr=>?_⟩
    have L7:LS H7 p Pt (70+6*(j+1)):=⟨(L6.bt b7 t7).tp.le (by omega),t7⟩
    have G7:=L6.gt (.bt b7) G6
    have hS7:=L6.sql (.bt b7) hS6
    have Po:=UT Pt1 (Jz Pt1 glt2)
    generalize prtL t.length (YQ t (Wg t gs2))=o at hpr Po
    obtain⟨Hq,eHq⟩:∃x,x=H7:=⟨_,rfl⟩
    subst eHq
    obtain⟨rq,erq⟩:∃x,x=pr:=⟨_,rfl⟩
    subst erq
   case' refine_2=>
    have L7:LS H5 p Pt (70+6*(j+1)):=⟨L5.tp.le (by omega),L5.tb⟩
    have G7:=G5
    have hS7:=hS5
    have Po:=UT Pt1 glt
    have hpr:=hr5
    generalize prtL t.length (YQ t gs)=o at hpr Po
    obtain⟨Hq,eHq⟩:∃x,x=H5:=⟨_,rfl⟩
    subst eHq
    obtain⟨rq,erq⟩:∃x,x=r:=⟨_,rfl⟩
    subst erq
   all_goals
    have o60:o.length<=60:=by have:=V4 _ _ Po.s.nd Po.s.lt;omega
    have ol:(o.map nV).length=o.length:=List.length_map ..
    obtain⟨gys,y1,y2⟩:=GT.len (K:=K) G7
    refine⟨_,rfl,g,gys,rfl,.inr y1,_,rfl,by omega,by omega,?_⟩
    rw[y2,Zj]
    refine Yb (fun x σ' H'=>∃(kb:Bool) (w7:Option V),σ'=[some (.ref a),some (.int (i:Nat)),some (.ref p),some (.ref g),some (.int (0+(j:Nat))),some (.ref rq),some (.bl kb),w7,v8]/\Same Hq H'/\(kb=true↔∀y,y<x->∀h∈o,tb t h y∈o)) ⟨true,_,rfl,Same.refl _,fun _ y hy=>absurd hy (Nat.not_lt_zero _),fun _=>rfl⟩ ?_ ?_
    ·rintro x σ' H8 hx ⟨kb,w7,rfl,s8,hkb⟩
     rw[show (0:Int)+(x:Int)=(x:Int) by omega]
     have hp8:=s8 _ _ hpr
     refine⟨_,rfl,rq,rfl,⟨_,.of hp8⟩,?_⟩
     refine Uj (Ym (K:=K) (.of hp8)) [some (.ref g),some (.int (x:Nat)),some (.ref rq)] rfl (fun v=>match v with | .int h=>!o.contains (tb t h.toNat x)|_=>false) (fun _=>.int 0) (by rw[ol];omega) (fun e yv H9 hyv s9 R R' k1 k2=>?_) (fun L9 H9 nL9 s9 hL9=>?_)
     ·obtain⟨h,hhe,rfl⟩:=Yx hyv
      have hhm:h∈o:=List.mem_of_getElem? hhe
      have k1:(!o.contains (tb t h x))=true->∀H6,Same H9 H6->R (.int 0) H6:=k1
      have k2:(!o.contains (tb t h x))=false->∀H6,Same H9 H6->R' H6:=k2
      refine⟨_,rfl,_,rfl,_,rfl,g,t,h,x,rfl,G7.mono (s8.trans s9),Pt1,Po.s.lt h hhm,hx,_,rfl,rq,_,rfl,.inr (.of (s9 _ _ hp8)),rfl,?_,_,rfl,?_⟩
      ·rw[List.all_map,List.all_eq_true]
       intro k _
       rfl
      ·have e0:inV (.int (tb t h x:Nat)) (o.map nV)=o.contains (tb t h x):=Zdc
       rw[e0]
       exact JS (fun z=>k1 z H9 (Same.refl _)) (fun z=>k2 (by simpa using z) H9 (Same.refl _))
     ·obtain⟨m,hm⟩:∃m,m=((o.map nV).filter fun v=>match v with | .int h=>!o.contains (tb t h.toNat x)|_=>false).length:=⟨_,rfl⟩
      have eL:(((o.map nV).filter fun v=>match v with | .int h=>!o.contains (tb t h.toNat x)|_=>false).map fun _=>V.int 0)=(List.replicate m 0).map nV:=by
       rw[hm,List.map_const',List.map_replicate]
       rfl
      rw[eL] at hL9
      refine⟨(by show 0<=sizeLine;decide),fun em nem=>?_⟩
      have s10:=s9.trans (Same.upd (H:=H9) (o:=.lst []) nem)
      refine⟨_,_,.lst (.of (Same.upd (H:=H9) (o:=.lst []) nem _ _ hL9)) (WM _),.lst (.of Zt) .nil,ZcI _,rfl,_,rfl,?_⟩
      rw[U8]
      have em0:((List.replicate m 0).map fun k:Nat=>PyData.int (k:Int)).isEmpty=decide (m=0):=by
       cases m with
       |zero=>rfl
       |succ m=>rfl
      rw[em0]
      have hiff:m=0↔∀h∈o,tb t h x∈o:=by
       rw[hm,List.length_eq_zero_iff,List.filter_eq_nil_iff]
       constructor
       ·intro hall h hh
        have:=hall _ (List.mem_map.mpr ⟨h,hh,rfl⟩)
        have this:¬(!o.contains (tb t h x))=true:=this
        exact List.contains_iff_mem.mp (by simpa using this)
       ·intro hall v hv
        obtain⟨h,hh,rfl⟩:=List.mem_map.mp hv
        show ¬(!o.contains (tb t h x))=true
        rw[List.contains_iff_mem.mpr (hall h hh)]
        decide
      refine JS (fun hz=>?_) (fun hz=>?_)
      ·have hz:¬m=0:=by simpa using hz
       refine⟨false,_,rfl,s8.trans s10,fun z=>(by cases z),fun hall=>?_⟩
       exact absurd (hiff.mpr fun h hh=>hall x (by omega) h hh) hz
      ·have hz:m=0:=by simpa using hz
       refine⟨kb,_,rfl,s8.trans s10,fun hk y hy h hh=>?_,fun hall=>hkb.mpr fun y hy=>hall y (by omega)⟩
       by_cases e:y=x
       ·subst e
        exact hiff.mp hz h hh
       ·exact hkb.mp hk y (by omega) h hh
    ·rintro σ' H8 ⟨kb,w7,rfl,s8,hkb⟩
     rw[ZhG Pt1] at hkb
     have L8:=L7.same s8
     have G8:=G7.mono s8
     have hS8:=s8.seq hS7
     have hp8:=s8 _ _ hpr
     refine⟨_,rfl,_,rfl,g,rq,t,o,rfl,G8,Pt1,Po,hp8,L8.tb,fun hk r9 rss9 H9 b9 t9 X9 g9=>?_,fun hk H9 b9 t9=>?_⟩
     ·have ek:kb=true:=hkb.mpr hk
      subst ek
      have L9:=L8.bt b9 t9
      have G9:=L8.gt (.bt b9) G8
      have hS9:=L8.sql (.bt b9) hS8
      have hp9:=L8.tup (.bt b9) hp8
      refine⟨_,rfl,_,rfl,YI (by decide) ?_⟩
      refine⟨_,rfl,_,rfl,Xe rfl ⟨_,rfl,_,rfl,_,rfl,g,rq,r9,t,o,rss9,rfl,G9,Pt1,Po.s,hk,hp9,X9,g9,fun H10 s10=>⟨_,rfl,YI (by decide) ?_⟩⟩⟩
      exact⟨_,_,_,_,_,rfl,s10.seq hS9,L9.same s10,G9.mono s10⟩
     ·have ek:kb=false:=by
       cases kb with
       |false=>rfl
       |true=>exact absurd (hkb.mp rfl) hk
      subst ek
      have L9:=L8.bt b9 t9
      refine⟨_,rfl,_,rfl,Xe (by decide) ?_⟩
      refine⟨_,rfl,rfl,_,rfl,YI (by decide) ?_⟩
      refine⟨_,rfl,_,rfl,YI (by decide) ?_⟩
      exact⟨_,_,_,_,_,rfl,L8.sql (.bt b9) hS8,L9,L8.gt (.bt b9) G8⟩
  ·rintro σ' H4 ⟨v4,v5,v6,v7,v8,rfl,hS4,L4,G4⟩
   exact⟨_,_,_,_,_,_,_,_,rfl,hS4,L4.tb⟩
end
theorem all_mk {l:PySem.W.OpenLaw}{w:World}{K:PySem.W.Frag}{h:Heap}{mg:Str->Option Value}{fa T0 U0:Addr}{et:Array DictEntry}{tk:Tok}{c0 c1 c2 c3 c4 c5 c6 c7 c8 c9 c10 c11:Ec}(X:K.In h)(G:h.Ns mainGlobals mg)(hfa:mg "law"=some (.ref fa))
  (tb:Zcp K T0 U0 et) (e0:Y6 K "NoGroup" T0 U0 et c0) (e1:Y6 K "NoTable" T0 U0 et c1) (e2:Y6 K "NoShares" T0 U0 et c2) (e3:Y6 K "NoPerm" T0 U0 et c3) (e4:Y6 K "NoLines" T0 U0 et c4) (e5:Y6 K "NoAlike" T0 U0 et c5) (e6:Y6 K "NoName" T0 U0 et c6) (e7:XF K "TooMany" T0 U0 et c7) (e8:XF K "NoOrder" T0 U0 et c8) (e9:XF K "NoPart" T0 U0 et c9) (e10:XF K "NoText" T0 U0 et c10) (e11:XF K "NoRow" T0 U0 et c11)
  (dst:Zdm T0 [c0.C,c1.C,c2.C,c3.C,c4.C,c5.C,c6.C,c7.C,c8.C,c9.C,c10.C,c11.C]=true) (m:PySem.W.nsIn K mainGlobals "MOST_THINGS"=some (some (.int 60 tk)))
  (d1:Zy K "is_whole" ZeV) (d2:Zy K "are_things" Zig) (d3:Zy K "reached" X2) (d4:Zy K "holders" Zid) (d5:Zy K "has_shape" ZeX) (d6:Zy K "has_back" Zie) (d7:Zy K "goes_by_threes" ZcK) (d8:Zy K "ask_group" Zkz) (d9:Zy K "back" Zif) (d10:Zy K "turned_by" ZcJ) (d11:Zy K "turnings" VW) (d12:Zy K "part_by" JH) (d13:Zy K "kept_by" ZcM) (d14:Zy K "is_kept" ZcO) (d15:Zy K "sides" ZeW) (d16:Zy K "over" Zic) (d17:Zy K "_law_tape" Zia) (d18:Zy K "_law_pick" ZeZ) (d19:Zy K "_law_cycle" Zky) (d20:Zy K "_law_perms" Ze0) (d21:Zy K "_law_after" Ze5) (d22:Zy K "_law_things" ZcL) (d23:Zy K "_law_group" ZbO) (d24:Zy K "_law_back" Ze2) (d25:Zy K "_law_turned" ZaF) (d26:Zy K "_law_part" Ze1) (d27:Zy K "_law_some" Zib) (d28:Zy K "_law_any_part" Zih) (d29:Zy K "_law_told" Zh9) (d30:Zy K "_law_over_right" ZeY) (d31:Zy K "law" Zkw) (ht:ZdE K "part_by" 293 289=true) (hc:PySem.W.codeHdIn K 293 289=true)
  (z1:PySem.W.nsIn K mainGlobals "list"=some none) (z2:PySem.W.nsIn K mainGlobals "len"=some none) (z3:PySem.W.nsIn K mainGlobals "abs"=some none) (z4:PySem.W.nsIn K mainGlobals "range"=some none) (z5:PySem.W.nsIn K mainGlobals "tuple"=some none) (z6:PySem.W.nsIn K mainGlobals "isinstance"=some none) (z7:PySem.W.nsIn K mainGlobals "all"=some none) (z8:PySem.W.nsIn K mainGlobals "set"=some none) (z9:PySem.W.nsIn K mainGlobals "repr"=some none) (z10:PySem.W.nsIn K mainGlobals "any"=some none) (z11:PySem.W.nsIn K mainGlobals "int"=some none) (z12:PySem.W.nsIn K mainGlobals "bool"=some none) (z13:PySem.W.nsIn K mainGlobals "sorted"=some none) (z14:PySem.W.nsIn K mainGlobals "enumerate"=some none) (z15:PySem.W.nsIn K mainGlobals "max"=some none) (z16:PySem.W.nsIn K mainGlobals "ValueError"=some none) :
  ∃fd:FuncData,(∀(s:Shared) (v:Value),BindsTo s fd ⟨[v],[]⟩ [("_law_script",v)])/\∀base:Heap,K.In base->base.Ns mainGlobals mg->Xp base mg->ZQ l.prog w K mg base Z2 8 fa fd ["_law_script"] (ZcE K 289):=by
 have T:Bl mg:=⟨PySem.W.mg_none_of X G z1,PySem.W.mg_none_of X G z2,PySem.W.mg_none_of X G z3,PySem.W.mg_none_of X G z4,PySem.W.mg_none_of X G z5,PySem.W.mg_none_of X G z6,PySem.W.mg_none_of X G z7,PySem.W.mg_none_of X G z8,PySem.W.mg_none_of X G z9,PySem.W.mg_none_of X G z10,PySem.W.mg_none_of X G z11,PySem.W.mg_none_of X G z12⟩
 have T2:Zao mg:=⟨PySem.W.mg_none_of X G z13,PySem.W.mg_none_of X G z14⟩
 have TB:BlB mg:=⟨PySem.W.mg_none_of X G z1,PySem.W.mg_none_of X G z2,PySem.W.mg_none_of X G z4,PySem.W.mg_none_of X G z5,PySem.W.mg_none_of X G z15,PySem.W.mg_none_of X G z13⟩
 have TV:BlV mg:=⟨PySem.W.mg_none_of X G z16⟩
 have hM:=PySem.W.mg_of X G m
 obtain⟨D1,D2⟩:=Zdl dst
 have S:Cs K mg T0 U0 et (ZgC [c0,c1,c2,c3,c4,c5,c6,c7,c8,c9,c10,c11]):=by
  have ok:∀k,k<12->Y6 K (Zgt k) T0 U0 et (ZgC [c0,c1,c2,c3,c4,c5,c6,c7,c8,c9,c10,c11] k):=fun k hk=>by
   rcases k12 hk with rfl|rfl|rfl|rfl|rfl|rfl|rfl|rfl|rfl|rfl|rfl|rfl
   ·exact e0
   ·exact e1
   ·exact e2
   ·exact e3
   ·exact e4
   ·exact e5
   ·exact e6
   ·exact e7.1
   ·exact e8.1
   ·exact e9.1
   ·exact e10.1
   ·exact e11.1
  refine⟨tb,ok,PySem.W.mg_of X G tb.t.at_,fun k hk=>PySem.W.mg_of X G (ok k hk).c.at_,fun j k hj hk e=>?_,fun k hk=>?_,fun k h7 hk=>?_⟩
  ·refine D1 j k _ (Zah (l:=[c0,c1,c2,c3,c4,c5,c6,c7,c8,c9,c10,c11]) hj) ?_
   rw[e]
   exact Zah (l:=[c0,c1,c2,c3,c4,c5,c6,c7,c8,c9,c10,c11]) hk
  ·exact D2 _ (List.mem_of_getElem? (Zah (l:=[c0,c1,c2,c3,c4,c5,c6,c7,c8,c9,c10,c11]) hk))
  ·have h5:k=7\/k=8\/k=9\/k=10\/k=11:=by omega
   rcases h5 with rfl|rfl|rfl|rfl|rfl
   ·exact e7.2
   ·exact e8.2
   ·exact e9.2
   ·exact e10.2
   ·exact e11.2
 refine d31.lawT X G hfa (fun base f fd nb kb hB F=>?_) (fun _ _ _ _ _ _ _ _=>.of_eq rfl)
 have fn:=@Zy.fn l.prog w K mg base h
 have GW:=fn d1 X G (fun f fd F=>ZdS F T) (fun _ _ _ _ _ _=>bd1 fun _=>rfl)
 have GAr:=fn d2 X G (fun f fd F=>Zhr F T GW) (fun _ _ _ _ _ _=>VD fun _ _=>rfl)
 have GR:∀base':Heap,Fn l.prog w K mg base' Z2 2 "reached" ["start", "onward", "most"] (J8 l.prog w K mg base'):=fun base'=>d3.fn X G (fun f fd F=>ZbX F T T2) (fun _ _ _ _ _ _=>bd3 fun _ _ _=>rfl)
 have GHo:=fn d4 X G (fun f fd F=>Zho F T T2) (fun _ _ _ _ _ _=>VD fun _ _=>rfl)
 have GShp:=fn d5 X G (fun f fd F=>Zfx F T hM GAr) (fun _ _ _ _ _ _=>bd1 fun _=>rfl)
 have GHb:=fn d6 X G (fun f fd F=>Zhp F T) (fun _ _ _ _ _ _=>VD fun _ _=>rfl)
 have GTr:=fn d7 X G (fun f fd F=>Zjj F T T2) (fun _ _ _ _ _ _=>VD fun _ _=>rfl)
 have GAsk:=fn d8 X G (fun f fd F=>Zjn F T GShp GHb GTr) (fun _ _ _ _ _ _=>bd1 fun _=>rfl)
 have GBk:=fn d9 X G (fun f fd F=>Zhq F) (fun _ _ _ _ _ _=>VD fun _ _=>rfl)
 have GTb:=fn d10 X G (fun f fd F=>ZdT F GBk) (fun _ _ _ _ _ _=>bd3 fun _ _ _=>rfl)
 have GTn:=fn d11 X G (fun f fd F=>ZaP F T T2 GTb) (fun _ _ _ _ _ _=>VD fun _ _=>rfl)
 have GP:Fn l.prog w K mg base Z2 3 "part_by" ["group", "things"] (XW K 289):=d12.fnC ht X G (fun f fd F e=>ZdV F e hc hB T T2 GR) (fun _ _ _ _ _ _=>VD fun _ _=>rfl)
 have GKb:=fn d13 X G (fun f fd F=>ZdW F T T2 GTn GP) (fun _ _ _ _ _ _=>VD fun _ _=>rfl)
 have GI:=fn d14 X G (fun f fd F=>ZdX F GKb) (fun _ _ _ _ _ _=>VD fun _ _=>rfl)
 have GSd:=fn d15 X G (fun f fd F=>Zfw F T T2) (fun _ _ _ _ _ _=>VD fun _ _=>rfl)
 have GO:Fn l.prog w K mg base (CXE l.prog w) 6 "over" ["group", "part"] (Ut K 289 (ZgC [c0,c1,c2,c3,c4,c5,c6,c7,c8,c9,c10,c11])):=d16.fn X G (fun f fd F=>Zhn F T S kb GI GSd GHo) (fun _ _ _ _ _ _=>VD fun _ _=>rfl)
 have GT0:=fn d17 X G (fun f fd F=>Zhj F TB) (fun _ _ _ _ _ _=>VD fun _ _=>rfl)
 have GK:=fn d18 X G (fun f fd F=>Zhl F) (fun _ _ _ _ _ _=>VD fun _ _=>rfl)
 have GCy:=fn d19 X G (fun f fd F=>Zjm F TB) (fun _ _ _ _ _ _=>bd1 fun _=>rfl)
 have GPe:=fn d20 X G (fun f fd F=>Zfz F TB GK GCy) (fun _ _ _ _ _ _=>VD fun _ _=>rfl)
 have GA0:=fn d21 X G (fun f fd F=>ZfD F TB) (fun _ _ _ _ _ _=>VD fun _ _=>rfl)
 have GTh:=fn d22 X G (fun f fd F=>ZdU F TB GA0) (fun _ _ _ _ _ _=>bd1 fun _=>rfl)
 have GG:=fn d23 X G (fun f fd F=>ZfB F TB GTh GPe GK GA0) (fun _ _ _ _ _ _=>VD fun _ _=>rfl)
 have GLB:=fn d24 X G (fun f fd F=>ZfA F) (fun _ _ _ _ _ _=>VD fun _ _=>rfl)
 have GLT:=fn d25 X G (fun f fd F=>ZbY F GLB) (fun _ _ _ _ _ _=>bd3 fun _ _ _=>rfl)
 have GL:=fn d26 X G (fun f fd F=>Zhm F T T2) (fun _ _ _ _ _ _=>VD fun _ _=>rfl)
 have GS:=fn d27 X G (fun f fd F=>Zhk F T GK) (fun _ _ _ _ _ _=>VD fun _ _=>rfl)
 have GAP:=fn d28 X G (fun f fd F=>Zhs F GS GL) (fun _ _ _ _ _ _=>VD fun _ _=>rfl)
 have GTo:=fn d29 X G (fun f fd F=>Zhi F T TV S kb GO) (fun _ _ _ _ _ _=>VD fun _ _=>rfl)
 have GRt:=fn d30 X G (fun f fd F=>Zfy F T GSd GAsk) (fun _ _ _ _ _ _=>bd3 fun _ _ _=>rfl)
 exact Zjk F T GT0 GG GS GAP GKb GLT GO GTo GRt
theorem walk {l:PySem.W.OpenLaw}{q:Program}{loose:List Str}{XP:(Str->Option Value)->Heap->Prop}{YP:World->Heap->Prop}{d:DefRec}{K:Params->PySem.W.Frag}(hxs:∀w:World,ZdE (K w.params) "part_by" 293 289=true)(hq:((recsOf q).find? fun e=>e.name == ("part_by":Str)).isSome=true)(hn:l.most=some 63)(hdf:d.params.defaults=[])
  (hY:∀(w:World) (h:Heap),YP w h->(K w.params).In h)
  (F:∀(w:World) (mg:Str->Option Value) (fa:Addr) (h:Heap),(K w.params).In h->h.Ns mainGlobals mg->mg d.name=some (.ref fa)->
   ∃fd:FuncData,(∀(s:Shared) (u:Value),BindsTo s fd ⟨[u],[]⟩ [("_law_script",u)])/\∀base:Heap,(K w.params).In base->base.Ns mainGlobals mg->Xp base mg->ZQ l.prog w (K w.params) mg base Z2 8 fa fd ["_law_script"] (ZcE (K w.params) 289)) :
  PySem.W.WalkO q loose XP YP l.row.toRowW d [] (fun f vs=>PySem.call f vs):=
 L2.ZeD (n:=63) (k:=8) (x:="_law_script") (CX:=fun _=>Z2) (sp:=fun w=>ZcE (K w.params) 289) (xs:=[("part_by",293,289)]) (fun w y hy=>by cases List.mem_singleton.mp hy;exact hxs w) (fun y hy=>by cases List.mem_singleton.mp hy;exact hq) hn (by decide) hdf ⟨rfl,by decide,by decide,rfl⟩ hY F
  (fun _ H a ns hl hO hS=>⟨a,ns,rfl,hS,hl,⟨#[],hO.tabs 289 (by simp),trivial,.inl rfl⟩,fun _=>rfl⟩) fun _ _ _ _ _ z=>z
end C23
namespace PySem.W.Fast
def tw13226854195913235087:=0
def tw17652329251214889890:=0
def tw17164024628115288591:=0
def tw1754144660818237521:=0
def tw11369334440624347721:=0
def tw10623285017363341264:=0
def tw11631196318785904635:=0
def tw11439586471075704020:=0
def tw13267564652865514260:=0
def tw2595157258262177475:=0
def tw13648264885762213707:=0
def tw2278624621925311690:=0
def tw4568415008941520646:=0
def tw9200995586024520779:=0
def tw12864471241194683917:=0
def tw10015183774656347848:=0
def tw14737862617327496258:=0
def tw16178959783796113261:=0
def tw10296454516512935488:=0
def tw14277156835496001752:=0
def tw2316885498981624469:=0
def tw6673964605795182897:=0
def tw1745978932183365865:=0
def tw1404747549648845055:=0
def tw17918499595776446084:=0
def tw14260333338589590141:=0
def tw176634431839588369:=0
def tw15863996014075478837:=0
def tw2877435072338742254:=0
def tw14481871165120919508:=0
def tw14602468094817190133:=0
def tw12923462585558700654:=0
def tw18244267560456927286:=0
def tw13343034784467485516:=0
def tw16737558154788111306:=0
def tw6158321119192229343:=0
def tw191031889387791598:=0
def tw14952910527902916979:=0
def tw13889867879300685836:=0
def tw15557247748473171066:=0
def tw16659726770733676798:=0
def tw4297781070520918181:=0
def tw12910900602245821898:=0
def tw15931156952978003393:=0
def tw17100019604447403403:=0
def tw16440708770198664523:=0
def tw3045628235842301254:=0
def tw4841102937686745642:=0
def tw14472068746353134045:=0
def tw5659210109832855612:=0
def tw3572680909201108409:=0
def tw1181428038906160791:=0
def tw9893325249731056695:=0
def tw16487054579748559194:=0
def tw3803563345787995323:=0
def tw17991922810638915772:=0
def tw7108356851280555020:=0
def tw3435221454908023677:=0
def tw9450239692550289993:=0
def tw16602523478730289948:=0
def tw16417148040748361441:=0
def tw4286551330994115154:=0
def tw16566948617910091204:=0
def tw17686234386892260868:=0
def tw5541874045388030753:=0
def tw285717228650229511:=0
def tw59577076346159079:=0
def tw7526040632649239000:=0
def tw18331424569598033484:=0
def tw7704062244923499181:=0
def tw14275569497097420921:=0
def tw623211565783860902:=0
def tw7841861362617464134:=0
def tw5849826022221645520:=0
def tw16154210458766777992:=0
def tw2408050557729300115:=0
def tw14778750174660254767:=0
def tw2545959002647240603:=0
def tw6153300624697999343:=0
def tw12854850247537232179:=0
def tw4631035721506139703:=0
def tw7991169213895723441:=0
def tw1064335542330894737:=0
def tw3487321321648532414:=0
def tw271702568513491089:=0
def tw10842559368718032164:=0
def tw17269736707231013932:=0
def tw12666305286979889026:=0
def tw5832282416161152294:=0
def tw18180795841430457111:=0
def tw2647993108186383690:=0
def tw8025314885044285157:=0
def tw17085500791760479340:=0
def tw4771885729885957062:=0
def tw11308791506536361464:=0
def tw15729181939010036253:=0
def tw1552040551344353410:=0
def tw4305023667723374713:=0
def tw1620157288083267994:=0
def tw16199476827433080104:=0
def tw8710183654973130292:=0
def tw15613618931789572574:=0
def tw17693977986515492461:=0
def tw15923753339872049151:=0
def tw17140636618692490607:=0
def tw3091365297861874915:=0
def tw8522105570655068575:=0
def tw3795001844684299933:=0
def tw14927427229221315517:=0
def tw12466073975832880167:=0
def tw9067661073421421374:=0
def tw9846789440536803282:=0
def tw9140294870254496824:=0
def tw14007070630805132711:=0
def tw13136481868355419104:=0
def tw9028012561027974563:=0
def tw14351502523255346294:=0
def tw18209168475631947515:=0
def tw3494548292023143122:=0
def tw16935727449258578489:=0
def tw6704652757123973286:=0
def tw9070321021558567949:=0
def tw1915199407855338259:=0
def tw9215760764888421510:=0
def tw16549633779409674273:=0
def tw7927743999096449560:=0
def tw9353707692901649498:=0
def tw3053359756155185770:=0
def tw5108221150633292384:=0
def tw17171784070673597804:=0
def tw11991902059659288740:=0
def tw13803163012690698852:=0
def tw11608698921742902029:=0
def tw6446721940158127639:=0
def tw4555746681233009978:=0
def tw3735071344640886044:=0
def tw896386770591448252:=0
def tw16166523051398799459:=0
def tw6873789451338671325:=0
def tw9707005922058050396:=0
def tw944870741003517661:=0
def tw17312324067946653951:=0
def tw739163351235281005:=0
def tw12990212377790062195:=0
def tw3543383537680754593:=0
def tw10496851474551832254:=0
def tw6593599936418589899:=0
def tw14301435370972913161:=0
def tw17439440248996183436:=0
def tw6697922660521272375:=0
def tw8317885390491901579:=0
def tw12547891683147095640:=0
def tw14761068275447407209:=0
def tw12957729931480220709:=0
def tw1093956154363861248:=0
def tw13729453961738613150:=0
def tw13094744958724984736:=0
def tw10147142307262359761:=0
def tw17915951815872408021:=0
def tw1103701375284000011:=0
def tw4105734258449837611:=0
def tw11396258487257924541:=0
def tw10959535629366332396:=0
def tw2213994755197227567:=0
def tw7489330022265601109:=0
def tw11987343318796637093:=0
def tw16642458039365445443:=0
def tw15885540360795408499:=0
def tw9991925078063752053:=0
def tw14788560346595718328:=0
def tw6691114352159929470:=0
def tw14610274516585342415:=0
def tw8265059568378940815:=0
def tw8424578548643407176:=0
def tw17471471285068332976:=0
def tw3288159770483493745:=0
def tw18039129489676035543:=0
def tw12021327406440635188:=0
def tw17946299559874756744:=0
def tw5665495804367742973:=0
def tw7462020871446550390:=0
def tw5524234386625775284:=0
def tw18192619280496656775:=0
def tw14443799966007820438:=0
def tw5133305102680545149:=0
def tw17939949862471794577:=0
def tw11046632636790105437:=0
def tw1786271897552058856:=0
def tw10977014973930802702:=0
def tw12582338584103564184:=0
def tw6346111842404524725:=0
def tw11126907553519745047:=0
def tw11417715506479231662:=0
def tw3100930206521904285:=0
def tw3887028643786022778:=0
def tw6674356608602895653:=0
def tw14895113827782558884:=0
def tw14820525735812589542:=0
def tw10918950438937091737:=0
def tw1664264610836504192:=0
def tw8011233592366665660:=0
def tw10439359135592128742:=0
def tw329158302391490808:=0
def tw656538486337078117:=0
def tw3960210705817468593:=0
def tw17650379747708287377:=0
def tw1042788438695410321:=0
def tw5935307888670596822:=0
def tw15674845745227427212:=0
def tw17095987565506172175:=0
def tw16565323112496316489:=0
def tw1263181671094512000:=0
def tw8807614134704841638:=0
def tw12135954984912124088:=0
def tw17849325858647517155:=0
def tw13050427929380955043:=0
def tw6314617350313120021:=0
def tw156019566037420700:=0
def tw15588368534009398360:=0
def tw11918020232627908138:=0
def tw7925411965319593186:=0
def tw4687921562405362270:=0
def tw17562067864435697020:=0
def tw9002026498860255712:=0
def tw8482586935378735222:=0
def tw17093974319832689608:=0
def tw5834923650905444485:=0
def tw5150654763802931709:=0
def tw12722482654726954156:=0
def tw4233098982723889291:=0
def tw14789662423744796900:=0
def tw8458814729292957862:=0
def tw3345788098929033056:=0
def tw11642776856563741051:=0
def tw11946293111927409925:=0
def tw8556364715483428896:=0
def tw1531118337818328092:=0
def tw12701478762504094032:=0
def tw11400906935088333201:=0
def tw11945568973695560389:=0
def tw1384111634771612099:=0
def tw66844751691937391:=0
def tw17180630027372766040:=0
def tw2697512895613395696:=0
def tw16615642344218306147:=0
def tw14685827434808247943:=0
def tw15575969842768137563:=0
def tw9287278181422777744:=0
def tw5469281106681943813:=0
def tw10303490977130647405:=0
def tw10768778327056676162:=0
def tw13410733888724098381:=0
def tw1512880682327001290:=0
def tw8867671796317058580:=0
def tw15272470145125645684:=0
def tw13506447467990628560:=0
def tw11120419775456839526:=0
def tw9541515830629022717:=0
def tw17661606547016243661:=0
def tw15065953509438419659:=0
def tw18404028250478287840:=0
def tw11378854321776480827:=0
def tw10830768299352813201:=0
def tw15564063392640328857:=0
def tw4597078118186833044:=0
def tw7086372144184413553:=0
def tw5733480477078639791:=0
def tw13398411412906155921:=0
def tw15478363086391624650:=0
def tw17800485261711217127:=0
def tw5170366288570396477:=0
def tw11086326457019056226:=0
def tw2230927115684601754:=0
def tw12378568352262938754:=0
def tw10606845619070545967:=0
def tw1597387655312942526:=0
def tw698922875108338143:=0
def tw4377106125361563434:=0
def tw7770432513281879812:=0
def tw1227716360827568497:=0
def tw15487099715125917968:=0
def tw12220642460248604490:=0
def tw5751777630794344452:=0
def tw4428649114456943909:=0
def tw1231275128998988819:=0
def tw12118611165350186970:=0
def tw3897874104077048436:=0
def tw8050320388112321486:=0
def tw13601189337907349179:=0
def tw15714440722146319742:=0
def tw10850847607819535515:=0
def tw8089123893093787311:=0
def tw6141762213806855856:=0
def tw4978266863215471884:=0
def tw3650804449947490710:=0
def tw9515374464943424205:=0
def tw11318565950049958216:=0
def tw15580206430639912200:=0
def tw2181715337993545501:=0
def tw3437370177468580868:=0
def tw18049256076689552467:=0
def tw10999546111819241663:=0
def tw1699493759360129917:=0
def tw17102967598605150132:=0
def tw542393296118863701:=0
def tw10375719009574081942:=0
def tw841455624567361200:=0
def tw12090552897163251637:=0
def tw6465582794369157921:=0
def tw6565439077568935465:=0
def tw12202275790098152754:=0
def tw2199351452383433034:=0
def tw6865828745606284698:=0
def tw17060594793537795464:=0
def tw9499689172476981083:=0
def tw10134924244649062614:=0
def tw4152666407208892909:=0
def tw16658168726489322856:=0
def tw15748745711850331315:=0
def tw9572348286557841623:=0
def tw15217603734076305252:=0
def tw11769520179588162944:=0
def tw13343395170757986927:=0
def tw1729537099208269382:=0
def tw12239927054625587931:=0
def tw5053353060172105134:=0
def tw15357829731450108925:=0
def tw12412192530750671397:=0
def tw10284846125527658621:=0
def tw15699948963079519596:=0
def tw17708579189717783444:=0
def tw7078640878279941726:=0
def tw3716238873688519259:=0
def tw12109163313208992548:=0
def tw3248876684656644668:=0
def tw17152921464687134875:=0
def tw2956626859295948817:=0
def tw544387905140855835:=0
def tw9100606327294074280:=0
def tw7580896824226261753:=0
def tw13836783856274108349:=0
def tw1730614267236214376:=0
def tw6872883831243150988:=0
def tw8457208903620762733:=0
def tw13302917085574433318:=0
def tw7034449818630631351:=0
def tw6158932832651422977:=0
def tw3282045915339738536:=0
def tw6854249943248837155:=0
def tw4643077719813988952:=0
def tw18254278185055265809:=0
def tw8288727063848273355:=0
def tw18366534758594808902:=0
def tw15297304074953125068:=0
def tw12197501697996072182:=0
def tw6224856627697514226:=0
def tw12083302185242672306:=0
def tw16718524691749034205:=0
def tw17631253848231707815:=0
def tw11542610452075505192:=0
def tw6663884742852264398:=0
def tw16124907281138301652:=0
def tw6121671067341020896:=0
def tw5927746253462631855:=0
def tw2942508531661742277:=0
def tw5178239709999655784:=0
def tw10161267400105862061:=0
def tw9420162996716450948:=0
def tw14641566005769753187:=0
def tw4742128862557867524:=0
def tw2567296661223899508:=0
def tw14267341391342108757:=0
def tw2627495463953899624:=0
def tw9501587865144249909:=0
def tw16795990605609367627:=0
def tw16532677162697764241:=0
def tw9582780583706856926:=0
def tw12876740682531241300:=0
def tw10565675860350674314:=0
def tw3915762659748419626:=0
def tw13751192431116759016:=0
def tw171588357467800847:=0
def tw8284962572291829928:=0
def tw14206046924154997543:=0
def tw2819505779644439611:=0
def tw16430888387068638115:=0
def tw9614487595174440068:=0
def tw177086629834506389:=0
def tw14752476509400526431:=0
def tw1307781573411767473:=0
def tw15484043167206269137:=0
def tw17716101891891711440:=0
def tw13054499659125514168:=0
def tw18074629621674219988:=0
def tw18043580689122943727:=0
def tw17980584888659976876:=0
def tw13510985503377797171:=0
def tw18259541603292814183:=0
def tw13825830487152565646:=0
def tw7375122255272019211:=0
def tw13675338754174585090:=0
def tw5500853654586552745:=0
def tw12049410092569316962:=0
def tw7734790944398674700:=0
def tw3679016481518884198:=0
def tw7278896357715167113:=0
def tw153291312813416319:=0
def tw4651876408858894109:=0
def tw14005886231231921606:=0
def tw14294269974497078027:=0
def tw9710339550289408536:=0
def tw3175059252937334098:=0
def tw17377546994979006900:=0
def tw5839532362502405166:=0
def tw2285625946178699305:=0
end PySem.W.Fast
open PySem PySem.W PyProof.Rows
set_option maxRecDepth 100000 in
set_option maxHeartbeats 0 in
theorem PySem.Challenge.cw_classtab_k23_groups_over_parts_holds : PySem.Challenge.rw_classtab_k23_groups_over_parts.Holds := by
 w_on;o_law;k_head;(case hw=>w_witness2)
 k_fill
 refine C23.walk (l:=PySem.Challenge.rw_classtab_k23_groups_over_parts) (fun w=>by kernel_rfl) (by kernel_rfl) rfl rfl (fun w h Y=>PySem.W.km_in_of Y) ?F
 case F=>
  intro w mg fa h KX G hmg
  refine' C23.all_mk KX G hmg (L2.Zcp.mk' ?_ ?_ ?_ ?_ ?_) (L2.Y6.mk' ?_ ?_ ?_ ?_ ?_) (L2.Y6.mk' ?_ ?_ ?_ ?_ ?_) (L2.Y6.mk' ?_ ?_ ?_ ?_ ?_) (L2.Y6.mk' ?_ ?_ ?_ ?_ ?_) (L2.Y6.mk' ?_ ?_ ?_ ?_ ?_) (L2.Y6.mk' ?_ ?_ ?_ ?_ ?_) (L2.Y6.mk' ?_ ?_ ?_ ?_ ?_) (L2.XF.mk ?_ ?_ ?_ ?_ ?_) (L2.XF.mk ?_ ?_ ?_ ?_ ?_) (L2.XF.mk ?_ ?_ ?_ ?_ ?_) (L2.XF.mk ?_ ?_ ?_ ?_ ?_) (L2.XF.mk ?_ ?_ ?_ ?_ ?_) ?_ ?_ (L2.Zy.mk ?_ ?_ ?_ ?_) (L2.Zy.mk ?_ ?_ ?_ ?_) (L2.Zy.mk ?_ ?_ ?_ ?_) (L2.Zy.mk ?_ ?_ ?_ ?_) (L2.Zy.mk ?_ ?_ ?_ ?_) (L2.Zy.mk ?_ ?_ ?_ ?_) (L2.Zy.mk ?_ ?_ ?_ ?_) (L2.Zy.mk ?_ ?_ ?_ ?_) (L2.Zy.mk ?_ ?_ ?_ ?_) (L2.Zy.mk ?_ ?_ ?_ ?_) (L2.Zy.mk ?_ ?_ ?_ ?_) (L2.Zy.mk ?_ ?_ ?_ ?_) (L2.Zy.mk ?_ ?_ ?_ ?_) (L2.Zy.mk ?_ ?_ ?_ ?_) (L2.Zy.mk ?_ ?_ ?_ ?_) (L2.Zy.mk ?_ ?_ ?_ ?_) (L2.Zy.mk ?_ ?_ ?_ ?_) (L2.Zy.mk ?_ ?_ ?_ ?_) (L2.Zy.mk ?_ ?_ ?_ ?_) (L2.Zy.mk ?_ ?_ ?_ ?_) (L2.Zy.mk ?_ ?_ ?_ ?_) (L2.Zy.mk ?_ ?_ ?_ ?_) (L2.Zy.mk ?_ ?_ ?_ ?_) (L2.Zy.mk ?_ ?_ ?_ ?_) (L2.Zy.mk ?_ ?_ ?_ ?_) (L2.Zy.mk ?_ ?_ ?_ ?_) (L2.Zy.mk ?_ ?_ ?_ ?_) (L2.Zy.mk ?_ ?_ ?_ ?_) (L2.Zy.mk ?_ ?_ ?_ ?_) (L2.Zy.mk ?_ ?_ ?_ ?_) (L2.Zy.mk ?_ ?_ ?_ ?_) ?_ ?_ ?_ ?_ ?_ ?_ ?_ ?_ ?_ ?_ ?_ ?_ ?_ ?_ ?_ ?_ ?_ ?_
  any_goals k_is
  all_goals kernel_rfl
